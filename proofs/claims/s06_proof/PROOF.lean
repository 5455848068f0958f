import PyProof.Rows.All
import Wide.All
import OpenK.AllK
import Wide.FinOn
import PyProof.EqAt
import PyProof.EqKinds
import PyProof.TupleCall
import KE.BitLaws
import PyProof.ExcInit
import PyProof.ExcClass3
import PyProof.ExcBaseAll.Exception
import PyProof.InstStoreFacts
import PyProof.ExcArgs
import KE.KTryMore
import Open.SpecLaws
import KE.OsHead
import KE.OsGo
import VbdeamSpec
import PySem.Challenge.RW_stackback_s06_same
import PyVbdeam
import KE.IntTextLaws
import PyProof.NeKinds
set_option linter.all false
set_option bootstrap.genMatcherCode false
set_option maxRecDepth 100000
set_option Elab.async false
set_option maxHeartbeats 4000000
noncomputable def am:=@List.mem_cons_of_mem
noncomputable def ap:=@List.length_map
noncomputable def b':=@List.mem_cons_self
noncomputable def cr:=@List.length_cons
noncomputable def f':=@Nat.le_refl
noncomputable def gc:=@List.length_append
noncomputable def hU:=@List.mem_cons
noncomputable def hZ:=@List.getElem?_eq_some_iff
noncomputable def h9:=@Bool.and_eq_true
noncomputable def ia:=@List.size_toArray
noncomputable def ib:=@Nat.lt_of_lt_of_le
noncomputable def ic:=@List.getElem?_eq_getElem
noncomputable def ii:=@List.length_take
noncomputable def ij:=@List.append_assoc
noncomputable def io:=@Bool.false_ne_true
noncomputable def ip:=@Nat.le_trans
noncomputable def iq:=@List.length_nil
noncomputable def iA:=@List.getElem?_map
noncomputable def iL:=@List.not_mem_nil
noncomputable def iN:=@Nat.lt_of_le_of_lt
noncomputable def iX:=@Bool.eq_iff_iff
noncomputable def i2:=@List.cons_append
noncomputable def i3:=@Nat.ne_of_lt
noncomputable def i4:=@List.map_cons
noncomputable def i6:=@List.append_nil
noncomputable def i8:=@decide_eq_true
noncomputable def i9:=@if_neg
noncomputable def js:=@of_decide_eq_true
noncomputable def jv:=@decide_eq_true_eq
noncomputable def jI:=@if_pos
noncomputable def j4:=@decide_eq_false
noncomputable def j5:=@List.all_eq_true
noncomputable def j6:=@List.mem_of_getElem?
noncomputable def j':=@List.mem_range
noncomputable def ka:=@List.map_append
noncomputable def kb:=@List.getElem?_cons_succ
noncomputable def kc:=@List.getElem?_cons_zero
noncomputable def ke:=@List.length_drop
structure PySem.W.Fast:Prop where(tw16371601937411472570 tw6662214579725326417 tw10957793121326684552 tw17530952922155562020 tw16425266967150026298 tw12777361267868308144 tw18417659186183288260 tw10687714122995425457 tw6342729349425807525 tw9950959082843162786 tw6338239761268327183 tw11273893429856463871 tw4870598189476673872 tw2089206160653013423 tw3507835683446476890 tw12460629550320764365 tw11511160083697325133 tw6245706032571686701 tw2202535954940387798 tw17026544387988698951 tw17192853801718034909 tw1317021578799969641 tw4835204887863247081 tw4976294846530980402 tw4124046623689038294 tw5935164787949951344 tw5610976830736775513 tw14161010945495721290 tw10467492340589399115 tw12446051047418144182 tw12295620703660694256 tw16568339133057415992 tw1241566788750654320 tw7966904696054753546 tw1404750794420039389 tw17336126614620842355 tw4652542118818408061 tw491676665048094136 tw6644547503093352626 tw363615152736297536 tw4821868936644799344 tw1945413740469177187 tw11242184216603190148 tw2460615958842260958 tw16982352346932907405 tw5919538787602552193 tw17616172748704882790 tw8504219049470702521 tw11311449491363036000 tw11000713418700150591 tw16517753009508926953 tw3238343002111443132 tw16002422207514558696 tw6237738524163836979 tw10805773702101971517 tw8638256894620046703 tw16854160560020349028 tw8987406739163018431 tw2784925973559733528 tw9097225126254164078 tw16723003252873489270 tw1177745329068839095 tw12880834977631814005 tw11232572071834990986 tw5344145243480041575 tw15305585546288278892 tw3329310648514710339 tw13248153030945692437 tw12791519378364114783 tw15760456421742810443 tw7572546948172607454 tw8202901619372452142 tw4381646111079381758 tw16545741034109410314 tw4274782146453781046 tw9092208632130264147 tw15396289085990428674 tw6109720922105296292 tw6513011410775741206 tw16714296039108270032 tw15069782184036277748 tw12715838302080030669 tw16784147188527953205 tw12307488764094506387 tw42942797880426270 tw177343718394024175 tw7629812764360099321 tw2054712831305470853 tw10109894230774868106 tw16638745709772210702 tw3943814390890069610 tw5506363891949895542 tw12197562078467277417 tw2453215437316478726 tw1715889073025286257 tw8643958023019786201 tw5321802118602760540 tw8736275832304734317 tw6881494167557424466 tw11436938616640440289 tw384003758368257589 tw8696626404132048158 tw14860631965835170302 tw14351549251070539884 tw4748912546889140498 tw5949512522888617214 tw12419232936490222367 tw13808189856460835151 tw8458510086204414463 tw1495498119966961943 tw231014414592493598 tw8013397296854794867 tw7730755963585960223 tw15797420438272826170 tw2421694291896343659 tw12833665096235143080 tw16595048613899705638 tw399511292164302775 tw9310429859548852622 tw5121348646635344787 tw11664909886920525057 tw8273965017357955613 tw11207527230105433652 tw15876058801334301458 tw4090682237376261050 tw11636035713874375622 tw1463537594067846943 tw356308618036703492 tw16178820498439428249 tw12583062128443696931 tw12530099538509362562 tw18019201311977268073 tw15572802901915233150 tw7431719024491807549 tw9140767629050215690 tw11356391194899974883 tw12597929545469772246 tw14503440422676557003 tw16967368185711044375 tw7117645941423296875 tw5443632421107476029 tw10824689429219634320 tw15566971885602203730 tw239482793755446379 tw10245058757330090561 tw7102710485336634922 tw18320867255892614051 tw18096547808242554666 tw15057532114025272032 tw5371847954830863067 tw1679243892613310603 tw12163896812152858354 tw14354056506594471897 tw6075878886810484321 tw3337528136375599236 tw15246485210407989754 tw1650948271605522642 tw4817608634726476179 tw13878586971022611275 tw1664645169726083482 tw6148465824630834764 tw16255043244476941625 tw13147192884204719110 tw9929431809281926023 tw687813445659117971 tw75349690228702550 tw9158543694158637060 tw16112066463211894237 tw8498127533933451094 tw3483159670863761161 tw1538191228649652513 tw9712188039781086242 tw9041321646440300353 tw18215852196285043298 tw12913105203325811791 tw9406997908328724962 tw4646749325307890860 tw16304592859635071109 tw12349550117219072858 tw9283503450707803732 tw17686100035311709899 tw15794834862189994246 tw6205568849421359918 tw13364311048433741986 tw2383171351704801859 tw15225021278324146599 tw18273840524818130176 tw5017092075254256938 tw13728665920583132816 tw2920070941778278928 tw17071661392322230492 tw18367211434647060684 tw14651904095741612600 tw17511004797531722509 tw17775062588867746654 tw2624542616173839922 tw499948691002641945 tw3757895250435323661 tw4459843070801247617 tw12373097314018691206 tw555237776410542045 tw16784498251410940630 tw10867289912808955958 tw6090365993857839753 tw10477396774124261561 tw3326168110686424921 tw9037371439288482802 tw911947767941018297 tw14407258128798708903 tw11656127689967338429 tw8214264350571462754 tw12925729117304249314 tw9701896384742805706 tw8141501384908447939 tw6122716224677469152 tw1426781200603622624 tw7512321060196117612 tw13286534248741911875 tw9765251443496225927 tw13972750843494157972 tw4027886441321986445 tw14904018546676690366 tw6196004306932195475 tw8456047942596327348 tw11768304267176662190 tw3923970477560486349 tw8489732964380031348 tw10342767022666375176 tw8206623788165728137 tw10388294926000292746 tw11115038465807386482 tw18308415675702945633 tw9225502393141883926 tw12921353689226164754 tw16983797494233809276 tw16296264140108159949 tw12665658020306235073 tw3823912917322659446 tw6229069471372469993 tw14512152327337968026 tw5641872844568431353 tw9662033903136629853 tw4697438399599382697 tw16794617651427027525 tw10958037081939969639 tw14905524421452091662 tw7972904766826089061 tw2910783609476949633 tw2274942466663015313 tw16311766313740840694 tw16977442472173541671 tw1649868033361064417 tw8633666408368652834 tw8631628090006311980 tw16548321172003135782 tw5890842106760311971 tw17741503229879254250 tw1053534016295040414 tw2330640453645801515 tw14000604683537262594 tw12975076128300966894 tw13173128916779607941 tw11848700660719250117 tw5288423640236460477 tw17485034722734990199 tw3609508315307512190 tw11487878618126190303 tw11140630639948973272 tw16213100591536757267 tw11215493871200120166 tw8552793487318146599 tw18021645818156309967 tw3546110543976081456 tw4805835092776385129 tw738456702707308169 tw1032740911846121886 tw1697104413295903695 tw13445679464605565432 tw4079831141264727711 tw12742925095605131637 tw6595489496215732313 tw9658834816726914930 tw1198751348055624554 tw3710482107135227389 tw4702590729514084912 tw5360349614938629514 tw13055326128863627138 tw8204211190072746918 tw12819533462454599398 tw4966961541843922678 tw11557860503553665981 tw13782586390228054812 tw14965003954035073282 tw1477475064781709701 tw15888795887765275851 tw5425955536085097896 tw5353647524156978630 tw284567826153039623 tw13478743127705249609 tw16787144680742900739 tw4184750769694594243 tw7727849626343734541 tw4117759362545838020 tw12379736972952725896 tw12830137363516455860 tw18218191093062157760 tw14806054449939154585 tw9768129756360663108 tw2107813144382146071 tw6589067633758506310 tw1838753640752039713 tw10506565019617883822 tw9711254370409372743 tw11885901841197745667 tw5267167294173456347 tw15111342652352568691 tw12007782987204368962 tw13085041123475678811 tw1236701141732893221 tw9962243953090690206 tw11803942930943788186 tw4021286379742631570 tw1117053540837501891 tw7708494380191969636 tw7786814785547931321 tw12904960010934842861 tw16454807465640402391 tw1300545430193761266 tw10685102317896784546 tw2132672802847955411 tw10464919464015937751 tw14755352169249157432 tw4512722651329530381 tw7272138963416787674 tw13477377160838614787 tw17422490608591924623 tw11424593543001969323 tw861269391744503487 tw2954427165806092938 tw1678707680050694565 tw3255175510367128353 tw1839614514095587980 tw6104800418783204936 tw3518395079630909599 tw13900815379192735136 tw4337421860932375698 tw6654120441239818538 tw10676586831871591044 tw12976852488541906991 tw5086364308837469863 tw3219328850755417752 tw696613207819093715 tw16770789080319380924 tw5212156603383694599 tw2534527237469324853 tw7673638782022936548 tw5386259826167191805 tw9093312381304850856 tw11671854038402016031 tw8018488247420830444 tw7838477919736859926 tw11015917758050584076 tw13233219752191260992 tw9043733126599387936 tw10676645436208429144 tw3729949560346502892 tw642002836719129642 tw12118915066043272419 tw9008612379211325883 tw18105411989452519417 tw16503325335460210881 tw14017237957012917799 tw5384905765591229212 tw9318636326720090783 tw11852588283662309915 tw12241706337517568709 tw10522204623676122966 tw5253743855497163771 tw1934313642545027588 tw7341615234751719439 tw5530569784956027224 tw12692722546413271581 tw18045111966441541071 tw6305406919581033505 tw1727519878658281314 tw11720442499425015733 tw15688916842406735556 tw1641828716421865370 tw3671802096952933607 tw1250463181617256919 tw11174473906423859885 tw18324261582113358459 tw12198466552873896827 tw17078299779342249385 tw7288818980426102908 tw7706442865303325118 tw13408938486667249538 tw6116319782088858759 tw6743435144305425027 tw17705149134967092047 tw14464317141515658663 tw8435113501850620352 tw11095192566853475566 tw11289206217142058413 tw4825598233034917101 tw5488022457561299005 tw4813187444813313139 tw5554326925488692421 tw8872004155342604468 tw4328283353241544165 tw7586562072036950623 tw14117554575488328554 tw10602891172806153624 tw2075915822442791362 tw147942748196072744 tw7140762567841808224 tw17278331655588992832 tw8302711019025405226 tw18417966458883658902 tw7588007271228280198 tw8959085814542130734 tw13215800047824717914 tw17808026042809880521 tw5103641998988791439 tw11673597343461819249 tw14410027404200313262 tw17218765298112441290 tw13356960470352365977 tw5571103398758107316 tw1445104913872429235 tw913391269146088921 tw11449109304413562999 tw11852868172681187519 tw7612860883500741868 tw13438492135463855930 tw10987026190082336778 tw2105490152240357184 tw10052587599488473127 tw2211793234190655356 tw15194090633278173440 tw15596459834862088403 tw969722565270305368 tw16409932148748247557 tw5004040707776284221 tw12615853821287427358 tw13095702990115509582 tw12036071815129986454 tw16631539605922682780 tw11264047293720610583 tw16483471175484716778 tw11805225049058067545 tw16876572150744289230 tw14794659657718145469 tw11628566149372178697 tw7616153068445039357 tw4830874625924238063 tw15861117524775018771 tw10809905487551156460 tw11699710512838695227 tw8925651010382455980 tw13986945389282992603 tw3968547496337176589 tw1614051358851339411 tw3005035582878838221 tw10976328354666254747 tw3369487799333624908 tw1746818041226912733 tw16938156113252270932 tw6724865586559605420 tw323758965561766663 tw10615457262247036023 tw4725824037188845069 tw10879291891093265989 tw879878329131332397 tw150918415457363282 tw10563660640944912815 tw11184478646170974674 tw1119695618248478027 tw1143946121796370895 tw16466227172527246220 tw17363806069362137953 tw2613569250853219596 tw17345238510349077321 tw10776593348893168507 tw13454313677202983942 tw1854121760932396752 tw16405990535386791338 tw4317291462245819326 tw16901209417407945591 tw10639453658845865364 tw9567721298459414858 tw211760912491085150 tw13851632637524458490 tw12201351389396845976 tw6262725053620792765 tw9279892478186898599 tw410361346722835118 tw14943010343352282088 tw16037455491554262258 tw17301056084451676696 tw6484281570932341651 tw14491937620041885531 tw15589101183377527821 tw11383331475568579283 tw10352994160241365441 tw7527266328804549327 tw1180688663120578519 tw5260453516938027049 tw6654166256377888134 tw8847492896357615850 tw5048961933902954623 tw1500687500284834547 tw11508328383013118273 tw13867836403992767760 tw744226495978156468 tw9586075851523397973 tw214374495050740991 tw12027041052272485019 tw4977858382565903494 tw8187319160020069399 tw15637661831748157252 tw18160448429412718959 tw8519898559428346920 tw486210774596423620 tw11587632445957520837 tw4909964776409904394 tw13598556144848979140 tw11476843132887619371 tw6820120337296096230 tw18271469403193024668 tw1679310133741459119 tw10168937211241176714 tw5322234199896096473 tw11853248793556262671 tw3061905924116465362 tw12952989361657586225 tw5908065266039706955 tw2530220681548140086 tw8787185257765804775 tw8858750954718536947 tw11720123902691779873 tw9104338443353966295 tw1625403123411091285 tw7391629415421483899 tw13193729204797533913 tw16819964548392231963 tw15172548537401992924 tw1982568216757337460 tw11458209875838661504 tw12665936948850367899 tw9165827025660245677 tw13604724921316885729 tw535149170055771965 tw4032986642665727327 tw7972826074883250270 tw11665643161232369372 tw14141358328251132928 tw12942475627682191497 tw13889950525322551663 tw12282998884985842342 tw17715664144217452290 tw17548263400939949775 tw5297549351986461968 tw14202690257756126884 tw8965967985198572846 tw11968613046393655313 tw7253390257898096126 tw4273254844070708609 tw12753031895341207281 tw9206205670835190904 tw11459145891077853381 tw5648630298700671010 tw15880342696510172060 tw6645597784399188663 tw5930102564165319807 tw10076681661778952370 tw11153638982900661945 tw17540587442972087101 tw15163233519127257886 tw8392977652533094769 tw10651858647563147859 tw2818486067052967514 tw1725827857633310360 tw1679204980121844697 tw17212181809636704897 tw1476068506131903317 tw14653834258243097161 tw11073019740541429479 tw6697196302110123723 tw6997090163172241885 tw11728974126033036655 tw4954034981877173495 tw8846198454835448863 tw3507880036073985675 tw16021425800737362129 tw16210998978379843141 tw6765564623298722069 tw8233646056861987713 tw12903910547021586235 tw5882018474054388868 tw14475893186007954186 tw18402875775333339263 tw17108938389711759208 tw13126936208651713659 tw7479233730586339731 tw2407156259111530131 tw8397761928337905988 tw12302895307061237881 tw16968650595769465896 tw4157047445764168472 tw9298066338662902238 tw15443524653842240161 tw14467245107088105131 tw13173125253167090501 tw6697055369754009491 tw3616106010951681051 tw6951924151090241139 tw7806975557182780757 tw14930870644454560955 tw17548613398120056881 tw2331508265467346106 tw6001172922545708360 tw15035349582696071944 tw1797269996837877076 tw12925642636544816079 tw12458924254683366696 tw7385981965473605893 tw13947695256858636645 tw11384940998081832015 tw10879810297711476710 tw8742080868093933962 tw16066230322056795506 tw16734213561414666483 tw11085325572521957826 tw17101426896768133561 tw6203272221081676822 tw10153306728600534658 tw1492819837153953073 tw13275814073718380453 tw9601786537608028658 tw12217362026645726271 tw6142611779549479398 tw7431520194375360106 tw6916035176346613788 tw18181746785790346467 tw5362488789612639444 tw1086435496437336724 tw4369645021263832743 tw15327893503537387680 tw634127522664873602 tw11251260737436553903 tw3480198100678463367 tw4348467167319847485 tw3763672198605029281 tw12055169089465480411 tw881853376889979477 tw16976335008263939116 tw18270039933445277204 tw9089805961266207688 tw9024147432170479295 tw196855853655296463 tw9298354059635162404 tw11781174492877136690 tw5722035486410617080 tw3579590684826374690 tw8512476567427440767 tw15382680204603715152 tw4589673059623871428 tw7810042663731991256 tw5167925883833991267 tw1216524154246981029 tw11341783471716281494 tw8654290633693753037 tw10254202534768817362 tw3914931241956579749 tw5599767252993368258 tw4454994557753765300 tw14984124007413449917 tw8483352935632720053 tw5488668132931933174 tw16736305292161783071 tw16034490550572660191 tw8112684767178391663 tw9311446534911323310 tw17826952082603916651 tw11565887110320347294:True)
section
-- CHANGE: your row's module here,as the last of these rows
namespace L2
open PySem PySem.Spec PyProof.Rows
noncomputable abbrev Key:=Sum Int Str
noncomputable def vR:Key→Value→Bool
 | .inl k,v=>Value.isInt k v
 | .inr x,v=>Value.isStrOf x v
noncomputable def UG(w:World):Key→Int
 | .inl k=>hashInt k
 | .inr x=>hashStr w x
theorem cM:∀{k:Key}{v:Value},vR k v=true→(∃i t,k=Sum.inl i∧v=Value.int i t)∨(∃x t,k=Sum.inr x∧v=Value.str x t)
 | .inl i,v,h=>by
  obtain⟨t,e⟩:=Value.isInt_shape (k:=i) (v:=v) h
  exact .inl ⟨i,t,rfl,e⟩
 | .inr x,v,h=>by
  obtain⟨t,e⟩:=Value.isStrOf_shape (x:=x) (v:=v) h
  exact .inr ⟨x,t,rfl,e⟩
theorem G_(i:Int)(t:Tok):vR (.inl i) (.int i t)=true:=by simp[vR,Value.isInt]
theorem G9(x:Str)(t:Tok):vR (.inr x) (.str x t)=true:=by simp[vR,Value.isStrOf]
theorem Sq(a b:Int):decide ((Sum.inl a:Key)=Sum.inl b)=(a==b):=by
 by_cases e:a=b
 ·subst e;simp
 ·have h:¬(Sum.inl a:Key)=Sum.inl b:=fun q=>e (Sum.inl.inj q)
  rw[j4 h]
  exact(beq_eq_false_iff_ne.mpr e).symm
theorem Lw(a b:Str):decide ((Sum.inr a:Key)=Sum.inr b)=decide (a=b):=by
 by_cases e:a=b
 ·subst e;simp
 ·have h:¬(Sum.inr a:Key)=Sum.inr b:=fun q=>e (Sum.inr.inj q)
  rw[j4 h,j4 e]
theorem Sh(a:Int)(b:Str):decide ((Sum.inl a:Key)=Sum.inr b)=false:=j4 (fun q=>nomatch q)
theorem Sg(a:Str)(b:Int):decide ((Sum.inr a:Key)=Sum.inl b)=false:=j4 (fun q=>nomatch q)
noncomputable def cJ(prog:Program)(w:World):PySem.KeyKind prog w Key where
 is:=vR
 hash:=UG w
 inj:=fun v a b F D=>by
  rcases cM F with⟨i,t,rfl,rfl⟩ | ⟨x,t,rfl,rfl⟩
  ·rcases cM D with⟨j,u,rfl,e⟩ | ⟨y,u,rfl,e⟩
   ·injection e with e1 _;rw[e1]
   ·exact nomatch e
  ·rcases cM D with⟨j,u,rfl,e⟩ | ⟨y,u,rfl,e⟩
   ·exact nomatch e
   ·injection e with e1 _;rw[e1]
 byValue:=fun k v h=>by
  rcases cM h with⟨i,t,rfl,rfl⟩ | ⟨x,t,rfl,rfl⟩<;>rfl
 pyHash:=fun z h=>by
  rcases cM z with⟨i,t,rfl,rfl⟩ | ⟨x,t,rfl,rfl⟩
  ·exact wpAny_pyHash_int h
  ·exact wpAny_pyHash_str h
 eqBool:=fun G z h=>by
  rcases cM G with⟨i,t,rfl,rfl⟩ | ⟨x,t,rfl,rfl⟩
  ·rcases cM z with⟨j,u,rfl,rfl⟩ | ⟨y,u,rfl,rfl⟩
   ·rw[Sq]at h;exact wpAny_eqBool_int h
   ·rw[Sh]at h;exact SeqAt.EqAt.int_str i t y u _ _ _ _ h
  ·rcases cM z with⟨j,u,rfl,rfl⟩ | ⟨y,u,rfl,rfl⟩
   ·rw[Sg]at h;exact SeqAt.EqAt.str_int x t j u _ _ _ _ h
   ·rw[Lw]at h;exact wpAny_eqBool_str h
 «strs»:=fun k x t v h=>by
  rcases cM h with⟨i,u,rfl,e⟩ | ⟨y,u,rfl,e⟩
  ·exact nomatch e
  ·injection e with e1 _
   subst e1
   cases v<;>rfl
theorem kh(prog:Program)(w:World)(i:Int)(t:Tok):(cJ prog w).is (.inl i) (.int i t)=true:=G_ i t
theorem j_(prog:Program)(w:World)(x:Str)(t:Tok):(cJ prog w).is (.inr x) (.str x t)=true:=G9 x t
end L2
namespace L2
open PySem PySem.Spec PyProof.Rows
inductive V where
 | non | bl (b:Bool) | int (i:Int) | str (x:Str) | byt (b:Array UInt8) | flt (b:UInt64) | ref (a:Addr) | ty (n:String)
 deriving DecidableEq
noncomputable def RelV:V→Value→Prop
 | .non,u=>u=Value.none
 | .bl b,u=>u=Value.bool b
 | .int i,u=>∃t,u=Value.int i t
 | .str x,u=>∃t,u=Value.str x t
 | .byt b,u=>∃t,u=Value.bytes b t
 | .flt b,u=>∃t,u=Value.float b t
 | .ref a,u=>u=Value.ref a
 | .ty n,u=>u=Value.type n
noncomputable abbrev Vals:List V→List Value→Prop:=Paired RelV
theorem Vals.length{xs:List V}{us:List Value}(r:Vals xs us):xs.length=us.length:=Paired.length r
theorem Vals.get:∀{xs:List V}{us:List Value}{i:Nat}{x:V},Vals xs us→xs[i]?=some x→∃u,us[i]?=some u∧RelV x u
 | _,_,_,_,.nil,e=>by simp at e
 | _,_,0,_,.cons r _,e=>by simp at e;subst e;exact⟨_,rfl,r⟩
 | _,_,i+1,x,.cons _ t,e=>by
  obtain⟨u,h1,h2⟩:=Vals.get (i:=i) (x:=x) t (by simpa using e)
  exact⟨u,by simpa using h1,h2⟩
theorem Vals.append:∀{xs ys:List V}{us j:List Value},Vals xs us→Vals ys j→Vals (xs++ys) (us++j)
 | _,_,_,_,.nil,s=>s
 | _,_,_,_,.cons r t,s=>.cons r (Vals.append t s)
theorem Vals.take:∀{xs:List V}{us:List Value}(n:Nat),Vals xs us→Vals (xs.take n) (us.take n)
 | _,_,0,_=>.nil
 | _,_,_+1,.nil=>.nil
 | _,_,n+1,.cons r t=>.cons r (Vals.take n t)
theorem Vals.drop:∀{xs:List V}{us:List Value}(n:Nat),Vals xs us→Vals (xs.drop n) (us.drop n)
 | _,_,0,r=>r
 | _,_,_+1,.nil=>.nil
 | _,_,n+1,.cons _ t=>Vals.drop n t
noncomputable def n8:Option V→Option Value→Prop
 | some v,some u=>RelV v u
 | none,none=>True
 | _,_=>False
noncomputable def KV{κ:Type}:List (κ×V)→List (κ×Value)→Prop:=Paired fun(p:κ×V)(q:κ×Value)=>p.1=q.1∧RelV p.2 q.2
noncomputable def kV:Key→V
 | .inl i=>.int i
 | .inr x=>.str x
inductive HO where
 | lst (xs:List V)
 | tup (xs:List V)
 | dK (kvs:List (Key×V)) | dT (kvs:List (List Key×V))
 | set (S:Int→Bool) (n:Nat)
 | ins (C dx:Addr) (fs:List (Str×V))
 | own (x:Addr)
 | xd (fs:List (Str×V))
 | met (f x:Addr)
 | rng (lo hi:Int)
 | frz (o:Obj) (u:HO)
 | tbl (ps:Array Value)
 | ext (φ:Heap→Prop)
noncomputable abbrev Hp:=Addr→Option HO
noncomputable def upd(H:Hp)(a:Addr)(o:HO):Hp:=fun b=>if b=a then some o else H b
theorem ak{H:Hp}{a:Addr}{o:HO}:upd H a o a=some o:=by unfold upd;rw[jI rfl]
theorem az{H:Hp}{a b:Addr}{o:HO}(h:b≠a):upd H a o b=H b:=by unfold upd;rw[i9 h]
theorem qK{H:Hp}{a b:Addr}{o u:HO}(h:H a=some o)(h':H b=some u)(d:o≠u):a≠b:=by
 intro e;subst e;rw[h]at h';exact d (Option.some.inj h')
theorem aH{H:Hp}{a b:Addr}{o:HO}(h:H a=some o)(h':H b=none):a≠b:=by
 intro e;subst e;rw[h]at h';cases h'
section
variable (P:Program) (w:World)
noncomputable def cU(H:Hp)(h:Heap)(a:Addr):HO→Prop
 | .lst xs=>xs.length≤sizeLine∧∃(its:List Value)(n:Nat),Vals xs its∧h.get? a=some { cls:=.type "list",data:=.seq its.toArray n }
 | .tup xs=>xs.length≤sizeLine∧∃its:List Value,Vals xs its∧IsTup h a its.toArray
 | .dK kvs=>kvs.length≤sizeLine∧(a==sysModules)=false∧∃vs,KV kvs vs∧h.DictOf (cJ P w) a vs
 | .dT kvs=>kvs.length≤sizeLine∧(a==sysModules)=false∧∃xs:List (List Key×Addr×Value),
   Paired (fun(p:List Key×V)(q:List Key×Addr×Value)=>p.1=q.1∧H q.2.1=some (.tup (p.1.map kV))∧RelV p.2 q.2.2) kvs xs ∧
   ∃o es ep,h.get? a=some o∧o.ExactDict∧o.data=.dict es ep∧es.toList=xs.map (entryOfKey (tupleKind (cJ P w)))∧(xs.map (·.1)).Nodup
 | .set S n=>h.SetOf (intKind P w) a S n
 | .ins C dx fs=>H dx=some (.own a)∧fs.length≤1000∧dx≠a∧h.get? a=some (PySem.W.instObj C dx) ∧
   ∃mA,h.Ns1 dx mA∧(∀f,n8 (fs.lookup f) (mA f))∧PySem.Within mA (fs.map (·.1))
 | .own _=>∃o,h.get? a=some o
 | .xd fs=>∃mA,h.Ns1 a mA∧∀f,n8 (fs.lookup f) (mA f)
 | .rng lo hi=>∃t u v,h.get? a=some { cls:=.type "range",data:=.fields #[.int lo t,.int hi u,.int 1 v] }
 | .frz o u=>h.get? a=some o∧cU H h a u
 | .tbl ps=>h.get? a=some { cls:=.none,data:=.fields ps }
 | .met f x=>h.get? a=some (PySem.W.methodObj (.ref f) (.ref x))
 | .ext φ=>φ h∧(∃o,h.get? a=some o)∧∀h1 h2:Heap,φ h1→(∀o,h1.get? a=some o→h2.get? a=some o)→φ h2
noncomputable def mY(H:Hp)(h:Heap):Prop:=∀a o,H a=some o→cU P w H h a o
end
section
variable {P:Program} {w:World} {H H':Hp} {h h':Heap} {a:Addr} {o:HO}
theorem cU.lt(x:cU P w H h a o):a<h.objs.size:=by
 cases o with
 | lst xs=>obtain⟨_,_,_,_,e⟩:=x;exact Heap.lt_size e
 | tup xs=>obtain⟨_,_,_,p⟩:=x;exact p.lt
 | dK kvs=>obtain⟨_,_,_,_,o,_,_,e,_⟩:=x;exact Heap.lt_size e
 | dT kvs=>obtain⟨_,_,_,_,o,_,_,e,_⟩:=x;exact Heap.lt_size e
 | set S n=>obtain⟨o,_,_,_,e,_⟩:=x;exact Heap.lt_size e
 | ins C dx fs=>obtain⟨_,_,_,e,_⟩:=x;exact Heap.lt_size e
 | own y=>obtain⟨_,e⟩:=x;exact Heap.lt_size e
 | xd fs=>obtain⟨_,⟨_,_,_,e,_⟩,_⟩:=x;exact Heap.lt_size e
 | rng lo hi=>obtain⟨_,_,_,e⟩:=x;exact Heap.lt_size e
 | frz j u=>obtain⟨e,_⟩:=x;exact Heap.lt_size e
 | tbl ps=>exact Heap.lt_size (show h.get? a=some _ from x)
 | met f y=>exact Heap.lt_size (show h.get? a=some _ from x)
 | ext φ=>obtain⟨_,⟨_,e⟩,_⟩:=x;exact Heap.lt_size e
theorem Paired.Uy{α β:Type}{F G:α→β→Prop}:∀{l₁:List α}{l₂:List β},Paired F l₁ l₂→(∀a b,F a b→G a b)→Paired G l₁ l₂
 | _,_,.nil,_=>.nil
 | _,_,.cons r t,f=>.cons (f _ _ r) (Paired.Uy t f)
theorem cU.stay(x:cU P w H h a o)(k:∀b u,(b=a∨H b=some (.own a))→h.get? b=some u→h'.get? b=some u)
  (D:∀b,H b=some (.own a)→H' b=some (.own a)) (F:∀b xs,H b=some (.tup xs)→H' b=some (.tup xs)):cU P w H' h' a o:=by
 induction o with
 | lst xs=>obtain⟨z,its,n,r,e⟩:=x;exact⟨z,its,n,r,k _ _ (.inl rfl) e⟩
 | tup xs=>obtain⟨z,its,r,j,e,c⟩:=x;exact⟨z,its,r,j,k _ _ (.inl rfl) e,c⟩
 | dK kvs=>obtain⟨z,y,vs,r,j,es,ep,e,c⟩:=x;exact⟨z,y,vs,r,j,es,ep,k _ _ (.inl rfl) e,c⟩
 | dT kvs =>
  obtain⟨z,y,xs,r,j,es,ep,e,c⟩:=x
  exact⟨z,y,xs,Paired.Uy r fun p q z=>⟨z.1,F _ _ z.2.1,z.2.2⟩,j,es,ep,k _ _ (.inl rfl) e,c⟩
 | set S n=>obtain⟨j,es,ep,t,e,c⟩:=x;exact⟨j,es,ep,t,k _ _ (.inl rfl) e,c⟩
 | ins C dx fs =>
  obtain⟨d,z,ne,e,mA,⟨od,es,ep,e2,c⟩,r⟩:=x
  exact⟨D _ d,z,ne,k _ _ (.inl rfl) e,mA,⟨od,es,ep,k _ _ (.inr d) e2,c⟩,r⟩
 | own y=>obtain⟨j,e⟩:=x;exact⟨j,k _ _ (.inl rfl) e⟩
 | xd fs=>obtain⟨mA,⟨od,es,ep,e,c⟩,r⟩:=x;exact⟨mA,⟨od,es,ep,k _ _ (.inl rfl) e,c⟩,r⟩
 | rng lo hi=>obtain⟨t,u,v,e⟩:=x;exact⟨t,u,v,k _ _ (.inl rfl) e⟩
 | frz j u G=>obtain⟨e,q⟩:=x;exact⟨k _ _ (.inl rfl) e,G q⟩
 | tbl ps =>
  have e:h.get? a=some { cls:=.none,data:=.fields ps }:=x
  show h'.get? a=some { cls:=.none,data:=.fields ps }
  exact k a _ (.inl rfl) e
 | met f y =>
  have e:h.get? a=some (PySem.W.methodObj (.ref f) (.ref y)):=x
  show h'.get? a=some (PySem.W.methodObj (.ref f) (.ref y))
  exact k a _ (.inl rfl) e
 | ext φ=>obtain⟨p,⟨o,e⟩,st⟩:=x;exact⟨st _ _ p fun o q=>k _ _ (.inl rfl) q,⟨o,k _ _ (.inl rfl) e⟩,st⟩
theorem mY.lt(x:mY P w H h)(e:H a=some o):a<h.objs.size:=(x a o e).lt
theorem mY.fresh(x:mY P w H h)(e:h.objs.size≤a):H a=none:=by
 cases q:H a with
 | none=>rfl
 | some u=>exact absurd (ib (x.lt q) e) (Nat.lt_irrefl _)
theorem mY.kept(x:mY P w H h)(k:∀b u,h.get? b=some u→h'.get? b=some u):mY P w H h':=fun a o e =>
 (x a o e).stay (fun b u _ q=>k b u q) (fun _ q=>q) fun _ _ q=>q
theorem mY.laid(x:mY P w H h)(k:∀b u,h.get? b=some u→h'.get? b=some u)(D:h.objs.size≤a)(new:cU P w (upd H a o) h' a o):mY P w (upd H a o) h':=fun b u e=>by
 have z:=x.fresh D
 by_cases j:b=a
 ·subst j;rw[ak]at e;cases e;exact new
 ·rw[az j]at e
  exact(x b u e).stay (fun c v _ q=>k c v q) (fun c q=>by rw[az (aH q z)];exact q) fun c xs q=>by rw[az (aH q z)];exact q
end
noncomputable def Rd(H:Hp)(a:Addr)(u:HO):Prop:=H a=some u∨∃o,H a=some (.frz o u)
theorem Rd.ok{P:Program}{w:World}{H:Hp}{h:Heap}{a:Addr}{u:HO}(r:Rd H a u)(x:mY P w H h):cU P w H h a u:=by
 rcases r with r | ⟨o,r⟩
 ·exact x a u r
 ·obtain⟨_,q⟩:=x a _ r
  exact q
noncomputable def Vt:Option HO→Prop
 | some (.lst _)=>True
 | some (.dK _)=>True
 | some (.dT _)=>True
 | some (.set _ _)=>True
 | some (.ins _ _ _)=>True
 | some (.ext _)=>True
 | _=>False
section
variable {P:Program} {w:World} {H:Hp} {h h':Heap} {x e:Addr} {o':HO}
theorem mY.write(ok:mY P w H h)(G:Vt (H x))(S:e=x∨H e=some (.own x))(k:∀b u,b≠e→h.get? b=some u→h'.get? b=some u)(O:∃u,h'.get? e=some u)
  (new:cU P w (upd H x o') h' x o'):mY P w (upd H x o') h':=fun b u q=>by
 have D:∀c y,H c=some (.own y)→c≠x:=fun c y r z=>by subst z;rw[r]at G;exact G
 have F:∀c xs,H c=some (.tup xs)→c≠x:=fun c xs r z=>by subst z;rw[r]at G;exact G
 by_cases J:b=x
 ·subst J;rw[ak]at q;cases q;exact new
 ·rw[az J]at q
  by_cases j:b=e
  ·have U:H b=some (.own x):=by
    rcases S with z | z
    ·exact absurd (j.trans z) J
    ·rw[j];exact z
   rw[q]at U;cases U
   obtain⟨v,Y⟩:=O
   exact⟨v,by rw[j];exact Y⟩
  ·refine(ok b u q).stay (fun c v L r=>k c v ?_ r) (fun c r=>by rw[az (D c b r)];exact r) fun c xs r=>by rw[az (F c xs r)];exact r
   rcases L with rfl | L
   ·exact j
   ·rintro rfl
    rcases S with z | z
    ·exact D c b L z
    ·rw[L]at z;cases z;exact J rfl
end
structure Un (fs ex:List Addr) (H H':Hp) (h h':Heap):Prop where
 keep:∀b o,h.get? b=some o→H b=none→b∉fs→b∉ex→h'.get? b=some o
 slot:∀b o,h.get? b=some o→H b=none→b∈fs→b∉ex→∃sl,h'.get? b=some { o with slots:=sl }
 free:∀b o,h.get? b=some o→H b=none→b∉ex→H' b=none
 there:∀b o,h.get? b=some o→b∉ex→∃o',h'.get? b=some o'
 tups:∀b xs,H b=some (.tup xs)→H' b=some (.tup xs)
 frzs:∀b o u,H b=some (.frz o u)→H' b=some (.frz o u)
 tbls:∀b ps,H b=some (.tbl ps)→∃more,H' b=some (.tbl (ps++more))
section
variable {fs fs' ex ex':List Addr} {H H1 H2:Hp} {h h1 h2 h':Heap} {a x e:Addr} {o:HO}
theorem Un.any(u:Un fs ex H H1 h h1){b:Addr}{j:Obj}(q:h.get? b=some j)(n:H b=none)(hx:b∉ex):∃sl,h1.get? b=some { j with slots:=sl }:=by
 by_cases z:b∈fs
 ·exact u.slot b j q n z hx
 ·exact⟨j.slots,u.keep b j q n z hx⟩
theorem Un.kept(k:∀b u,h.get? b=some u→h'.get? b=some u):Un fs ex H H h h' :=
 ⟨fun b j q _ _ _=>k b j q,fun b j q _ _ _=>⟨j.slots,k b j q⟩,fun _ _ _ n _=>n,fun b j q _=>⟨j,k b j q⟩,fun _ _ q=>q,fun _ _ _ q=>q,fun _ ps q=>⟨#[],by rw[q];simp⟩⟩
theorem Un.refl:Un fs ex H H h h:=Un.kept fun _ _ q=>q
theorem Un.laid(k:∀b u,h.get? b=some u→h'.get? b=some u)(z:h.objs.size≤a)(j:H a=none):Un fs ex H (upd H a o) h h' where
 keep:=fun b u q _ _ _=>k b u q
 slot:=fun b u q _ _ _=>⟨u.slots,k b u q⟩
 free:=fun b u q n _=>by rw[az (i3 (ib (Heap.lt_size q) z))];exact n
 there:=fun b u q _=>⟨u,k b u q⟩
 tups:=fun b xs q=>by rw[az (aH q j)];exact q
 frzs:=fun b u xs q=>by rw[az (aH q j)];exact q
 tbls:=fun b ps q=>⟨#[],by rw[az (aH q j),q];simp⟩
theorem Un.write(D:Vt (H x))(L:e=x∨H e=some (.own x))(k:∀b u,b≠e→h.get? b=some u→h'.get? b=some u)(G:∃u,h'.get? e=some u):Un fs ex H (upd H x o) h h':=by
 have hx:∀b,H b=none→b≠x:=fun b n z=>by subst z;rw[n]at D;exact D
 have J:∀b,H b=none→b≠e:=fun b n z=>by
  subst z
  rcases L with r | r
  ·exact hx b n r
  ·rw[n]at r;cases r
 have F:∀b u,H b=some u→¬Vt (some u)→b≠x:=fun b u q nm z=>by subst z;rw[q]at D;exact nm D
 refine⟨fun b u q n _ _=>k b u (J b n) q,fun b u q n _ _=>⟨u.slots,k b u (J b n) q⟩,fun b u q n _=>by rw[az (hx b n)];exact n,fun b u q _=>?_,
  fun b xs q=>by rw[az (F b _ q fun z=>z)];exact q,fun b u xs q=>by rw[az (F b _ q fun z=>z)];exact q,fun b ps q=>⟨#[],by rw[az (F b _ q fun z=>z),q];simp⟩⟩
 by_cases j:b=e
 ·subst j;exact G
 ·exact⟨u,k b u j q⟩
end
noncomputable def Vm(h:Heap)(H:Hp):List Addr:=(List.range h.objs.size).filter fun a=>(H a).isSome
noncomputable def xO(h:Heap)(H:Hp):Heap:=PySem.W.hideAll h (Vm h H)
theorem Hf(h:Heap)(H:Hp):(xO h H).objs.size=h.objs.size:=PySem.W.hideAll_size _ _
theorem L_{h:Heap}{H:Hp}{b:Addr}{o:Obj}(e:h.get? b=some o)(n:H b=none):(xO h H).get? b=some o :=
 PySem.W.hideAll_get _ e fun j=>by
  have q:(H b).isSome=true:=(List.mem_filter.mp j).2
  rw[n]at q;simp at q
theorem O8{h:Heap}{H:Hp}{b:Addr}{o:Obj}(e:(xO h H).get? b=some o):h.get? b=some o∧H b=none:=by
 have j:h.get? b=some o:=PySem.W.of_hideAll (Vm h H) e
 refine⟨j,?_⟩
 cases q:H b with
 | none=>rfl
 | some x =>
  have D:b∈Vm h H:=List.mem_filter.mpr ⟨j'.mpr (Heap.lt_size j),by simp[q]⟩
  have z:(xO h H).get? b=none:=PySem.W.hideAll_none (Vm h H) D
  rw[z]at e;cases e
end L2
namespace L2
open PySem PySem.Spec PyProof.Rows
structure Mod (K:PySem.W.Frag) (mg:Str→Option Value) (base:Heap):Prop where
 kin:K.In base
 glob:base.Ns mainGlobals mg
 blt:∃mb,base.Ns builtinsNs mb∧∀x:Str,x ≠ "__name__"→mb x=bootBuiltins x
 nolimit:base.NoLimit
structure Cx where
 prog:Program
 w:World
 K:PySem.W.Frag
 mg:Str→Option Value
 base:Heap
 A:Around
 N:List Str
 s_0:Shared
 H_0:Hp
 env:Env
 outer:List Env
 stack:List Env
 ex:List Addr
 fn:Str→Bool
 calm:Bool
 pn:List (Addr×Obj)
 xe:Value→Shared→Prop
noncomputable def frs(l:List Env):List Addr:=l.filterMap (·.frame)
noncomputable abbrev Cx.fs(X:Cx):List Addr:=frs X.outer
noncomputable def Ve(sc:Scope)(x:Str):Prop:=sc.names.lookup x=some .local∨sc.names.lookup x=some .cell∨sc.names.lookup x=some .free
noncomputable def Loc(sc:Scope)(x:Str):Prop:=sc.names.lookup x=some .local∨sc.names.lookup x=some .cell
noncomputable def Look(env:Env)(h:Heap)(m:Str→Option Value)(x:Str)(u:Value):Prop :=
 (env.kindOf x=some .local∧m x=some u)∨((env.kindOf x=some .cell∨env.kindOf x=some .free)∧∃c,env.cells.lookup x=some c∧h.IsCell c (some u))
structure Cx.Ok (X:Cx):Prop where
 mod:Mod X.K X.mg X.base
 kind:X.env.scope.kind=.function
 glob:X.env.globals=mainGlobals
 blt:X.env.builtins=builtinsNs
 above:X.s_0.heap.objs.size≤X.env.locals
 inj:∀x y c,X.env.cells.lookup x=some c→X.env.cells.lookup y=some c→x=y
 has:∀x,(X.env.kindOf x=some .cell∨X.env.kindOf x=some .free)→∃c,X.env.cells.lookup x=some c
 cab:∀x c,X.fn x=true→X.env.cells.lookup x=some c→X.s_0.heap.objs.size≤c
 hd:X.calm=true→X.A.handled=none
 frames:X.A.frames=some X.stack
 stk:X.stack=X.outer∨(X.stack=X.env::X.outer∧X.env.frame=some X.env.locals)
 exf:∀b∈X.ex,b≠X.env.locals∧∀x c,X.env.cells.lookup x=some c→c≠b
 bs:∀b o,X.base.get? b=some o→X.s_0.heap.get? b=some o∧X.H_0 b=none
 bsz:X.base.objs.size≤X.s_0.heap.objs.size
 noex:∀b o,X.base.get? b=some o→b∉X.ex
 exfs:∀b∈X.ex,b∉X.fs
 nO:X.s_0.heap.FunFrames X.base X.outer
 frf:∀b∈X.fs,X.H_0 b=none
structure Inv (X:Cx) (pins:List (Addr×Obj)) (σ:List (Option V)) (H:Hp) (s:Shared):Prop where
 ok:X.Ok
 os:s.os=X.s_0.os
 bare:AllBare s.gens
 base:Un X.fs X.ex X.H_0 H X.s_0.heap s.heap
 loc:∃m,s.heap.Ns X.env.locals m∧∀(i:Nat)(x:Str)(v:V),X.N[i]?=some x→σ[i]?=some (some v)→Ve X.env.scope x→∃u,RelV v u∧Look X.env s.heap m x u
 cell:∀x c,X.env.cells.lookup x=some c→∃v,s.heap.IsCell c v
 free:H X.env.locals=none
 freeC:∀x c,X.env.cells.lookup x=some c→H c=none
 pin:∀p∈X.pn++pins,s.heap.get? p.1=some p.2∧H p.1=none∧p.1≠X.env.locals∧p.1∉X.fs∧∀v,p.2.data≠.cell v
 hok:mY X.prog X.w H s.heap
 len:σ.length=X.N.length
section
variable {X:Cx} {pins:List (Addr×Obj)} {σ:List (Option V)} {H H':Hp} {s:Shared} {h':Heap}
theorem Cx.Ok.Wa(ok:X.Ok){b:Addr}{o:Obj}(e:X.base.get? b=some o):b∉X.fs:=fun j=>by
 have:=(ok.nO.mem j).1
 rw[e]at this;cases this
theorem Inv.bs(I:Inv X pins σ H s):∀b o,X.base.get? b=some o→s.heap.get? b=some o∧H b=none:=fun b o e =>
 ⟨I.base.keep b o (I.ok.bs b o e).1 (I.ok.bs b o e).2 (I.ok.Wa e) (I.ok.noex b o e),I.base.free b o (I.ok.bs b o e).1 (I.ok.bs b o e).2 (I.ok.noex b o e)⟩
theorem Inv.bk(I:Inv X pins σ H s):∀b o,X.base.get? b=some o→s.heap.get? b=some o:=fun b o e=>(I.bs b o e).1
theorem Inv.mod(I:Inv X pins σ H s):Mod X.K X.mg X.base:=I.ok.mod
theorem Inv.o6(I:Inv X pins σ H s):X.K.In s.heap:=I.ok.mod.kin.keeps I.bk
theorem Inv.fr(I:Inv X pins σ H s):∃m,Fr X.base X.env.locals s.heap m :=
 let⟨m,hn,_⟩:=I.loc
 ⟨m,hn,I.bk,ip I.ok.bsz I.ok.above⟩
theorem Inv.lt(I:Inv X pins σ H s):X.env.locals<s.heap.objs.size:=let⟨_,hn,_⟩:=I.loc;hn.lt
theorem Inv.sz(I:Inv X pins σ H s):X.s_0.heap.objs.size≤s.heap.objs.size:=ip I.ok.above (Nat.le_of_lt I.lt)
theorem Inv.V_(I:Inv X pins σ H s){a:Addr}(h:s.heap.objs.size≤a):a∉X.fs:=fun j=>by
 obtain⟨_,o,z,_⟩:=I.ok.nO.mem j
 exact absurd (ib (Heap.lt_size z) (ip I.sz h)) (Nat.lt_irrefl _)
theorem Inv.QQ(I:Inv X pins σ H s):∀x c,X.env.cells.lookup x=some c→c≠X.env.locals:=fun x c e z=>by
 obtain⟨v,o,F,hd⟩:=I.cell x c e
 obtain⟨m,⟨o',es,ep,j,D,_⟩,_⟩:=I.loc
 rw[z,j]at F;cases F;rw[D]at hd;cases hd
theorem Inv.nO(I:Inv X pins σ H s):s.heap.FunFrames X.base X.outer:=by
 have all:∀(l:List Env),(∀b∈frs l,b∈X.fs)→X.s_0.heap.FunFrames X.base l→s.heap.FunFrames X.base l:=by
  intro l
  induction l with
  | nil=>intro _ _;trivial
  | cons env r Y =>
   intro G O
   obtain⟨Z,⟨L,o,j,J,S,hd⟩,U⟩:=O
   have D:L∈X.fs:=G L (by unfold frs;rw[List.filterMap_cons,j];exact b')
   obtain⟨sl,e⟩:=I.base.slot L o S (I.ok.frf L D) D fun z=>I.ok.exfs L z D
   exact⟨Z,⟨L,_,j,J,e,hd⟩,Y (fun b F=>G b (by unfold frs;rw[List.filterMap_cons,j];exact am _ F)) U⟩
 exact all X.outer (fun _ F=>F) I.ok.nO
theorem Inv.stack(I:Inv X pins σ H s):s.heap.FunFrames X.base X.stack:=by
 rcases I.ok.stk with e | ⟨e,j⟩
 ·rw[e];exact I.nO
 ·rw[e]
  obtain⟨m,z,_⟩:=I.loc
  refine .cons (by rw[I.ok.kind];decide) j z ?_ I.nO
  exact Heap.get?_none_of_le (ip I.ok.bsz I.ok.above)
theorem Inv.Ag(I:Inv X pins σ H s):∀b∈frs X.stack,b∈X.env.locals::X.fs:=fun b j=>by
 rcases I.ok.stk with e | ⟨e,z⟩
 ·rw[e]at j;exact am _ j
 ·rw[e]at j
  unfold frs at j
  rw[List.filterMap_cons,z]at j
  exact j
theorem Inv.jb(I:Inv X pins σ H s):∀b∈frs X.stack,H b=none:=fun b j=>by
 rcases hU.mp (I.Ag b j)with e | j
 ·rw[e];exact I.free
 ·obtain⟨_,o,D,_⟩:=I.ok.nO.mem j
  exact I.base.free b o D (I.ok.frf b j) fun z=>I.ok.exfs b z j
theorem Inv.step{g':Array GenState}{t':Nat}{d':Drawn}{ch:List Addr}(I:Inv X pins σ H s)
  (D:∀b∈ch,(b∈X.ex∨X.s_0.heap.objs.size≤b)∧b≠X.env.locals∧(∀x c,X.env.cells.lookup x=some c→c≠b)∧∀p∈X.pn++pins,p.1≠b)
  (keep:∀b o,b≠X.env.locals→b∉X.fs→b∉ch→s.heap.get? b=some o→H b=none→h'.get? b=some o)
  (slot:∀b o,b≠X.env.locals→b∈X.fs→b∉ch→s.heap.get? b=some o→H b=none→∃sl,h'.get? b=some { o with slots:=sl }) (free:∀b o,b∉ch→s.heap.get? b=some o→H b=none→H' b=none)
  (there:∀b o,b∉ch→s.heap.get? b=some o→∃o',h'.get? b=some o')
  (tups:∀b xs,H b=some (.tup xs)→H' b=some (.tup xs)) (frzs:∀b o u,H b=some (.frz o u)→H' b=some (.frz o u)) (tbls:∀b ps,H b=some (.tbl ps)→∃more,H' b=some (.tbl (ps++more)))
  (ns:∀m,s.heap.Ns X.env.locals m→h'.Ns X.env.locals m) (hok:mY X.prog X.w H' h') (hg:AllBare g') :
  Inv X pins σ H' { s with heap:=h',gens:=g',drawn:=d',toks:=t' }:=by
 have O:∀b o,X.s_0.heap.get? b=some o→b≠X.env.locals:=fun b o e=>i3 (ib (Heap.lt_size e) I.ok.above)
 have G:∀b o,X.s_0.heap.get? b=some o→b∉X.ex→b∉ch:=fun b o e hx J=>by
  rcases(D b J).1 with z | z
  ·exact hx z
  ·exact absurd (ib (Heap.lt_size e) z) (Nat.lt_irrefl _)
 have j:∀x c,X.env.cells.lookup x=some c→∀v,s.heap.IsCell c v→h'.IsCell c v:=fun x c e v ⟨o,L,hd⟩=>by
  have F:c∉ch:=fun z=>(D c z).2.2.1 x c e rfl
  by_cases Z:c∈X.fs
  ·obtain⟨sl,q⟩:=slot c o (I.QQ x c e) Z F L (I.freeC x c e)
   exact⟨_,q,hd⟩
  ·exact⟨o,keep c o (I.QQ x c e) Z F L (I.freeC x c e),hd⟩
 refine⟨I.ok,I.os,hg,⟨fun b o e n J hx=>?_,fun b o e n J hx=>?_,fun b o e n hx=>?_,fun b o e hx=>?_,fun b xs e=>tups b xs (I.base.tups b xs e),fun b o xs e=>frzs b o xs (I.base.frzs b o xs e),fun b ps e=>?_⟩,?_,fun x c e=>?_,?_,fun x c e=>?_,fun p U=>?_,hok,I.len⟩
 ·exact keep b o (O b o e) J (G b o e hx) (I.base.keep b o e n J hx) (I.base.free b o e n hx)
 ·obtain⟨sl,e1⟩:=I.base.slot b o e n J hx
  obtain⟨S,e2⟩:=slot b _ (O b o e) J (G b o e hx) e1 (I.base.free b o e n hx)
  exact⟨S,e2⟩
 ·obtain⟨o',e1⟩:=I.base.there b o e hx
  exact free b o' (G b o e hx) e1 (I.base.free b o e n hx)
 ·obtain⟨o',e1⟩:=I.base.there b o e hx
  exact there b o' (G b o e hx) e1
 ·obtain⟨m1,e1⟩:=I.base.tbls b ps e
  obtain⟨m2,e2⟩:=tbls b _ e1
  exact⟨m1++m2,by rw[e2,Array.append_assoc]⟩
 ·obtain⟨m,hn,hl⟩:=I.loc
  refine⟨m,ns m hn,fun i x v e1 e2 e3=>?_⟩
  obtain⟨u,r,l⟩:=hl i x v e1 e2 e3
  refine⟨u,r,?_⟩
  rcases l with l | ⟨k,c,e,z⟩
  ·exact .inl l
  ·exact .inr ⟨k,c,e,j x c e _ z⟩
 ·obtain⟨v,z⟩:=I.cell x c e
  exact⟨v,j x c e v z⟩
 ·obtain⟨m,⟨o,_,_,L,_⟩,_⟩:=I.loc
  exact free _ o (fun z=>(D _ z).2.1 rfl) L I.free
 ·obtain⟨v,o,L,hd⟩:=I.cell x c e
  exact free c o (fun z=>(D c z).2.2.1 x c e rfl) L (I.freeC x c e)
 ·obtain⟨e,n,ne,Y,d⟩:=I.pin p U
  have F:p.1∉ch:=fun z=>(D p.1 z).2.2.2 p U rfl
  exact⟨keep p.1 p.2 ne Y F e n,free p.1 p.2 F e n,ne,Y,d⟩
theorem Inv.un{t':Nat}(I:Inv X pins σ H s)(u:Un X.fs [] H H' s.heap h')(hok:mY X.prog X.w H' h'):Inv X pins σ H' { s with heap:=h',toks:=t' }:=by
 obtain⟨m,⟨o,es,ep,J,r⟩,_⟩:=id I.loc
 obtain⟨sl,O⟩:=u.any J I.free (by simp)
 exact I.step (g':=s.gens) (d':=s.drawn) (ch:=[]) (fun _ z=>nomatch z) (fun b o _ G _ e n=>u.keep b o e n G (by simp)) (fun b o _ G _ e n=>u.slot b o e n G (by simp)) (fun b o _ e n=>u.free b o e n (by simp)) (fun b o _ e=>u.there b o e (by simp)) u.tups u.frzs u.tbls (fun U L=>by
  obtain⟨o',F,D,j,S⟩:=L
  rw[J]at j;cases j
  exact⟨_,F,D,O,S⟩) hok I.bare
theorem Inv.call{g':Array GenState}{t':Nat}{d':Drawn}{ch:List Addr}(I:Inv X pins σ H s)(u:Un (frs X.stack) ch H H' s.heap h')(hok:mY X.prog X.w H' h')(U:AllBare g')
  (D:∀b∈ch,(b∈X.ex∨X.s_0.heap.objs.size≤b)∧b≠X.env.locals∧(∀x c,X.env.cells.lookup x=some c→c≠b)∧∀p∈X.pn++pins,p.1≠b) :
  Inv X pins σ H' { s with heap:=h',gens:=g',drawn:=d',toks:=t' }:=by
 obtain⟨m,⟨o,es,ep,O,r⟩,_⟩:=id I.loc
 obtain⟨sl,J⟩:=u.any O I.free fun z=>(D _ z).2.1 rfl
 exact I.step (ch:=ch) D (fun b o J Z j e n=>u.keep b o e n (fun z=>(hU.mp (I.Ag b z)).elim J Z) j) (fun b o _ _ j e n=>u.any e n j) (fun b o j e n=>u.free b o e n j) (fun b o j e=>u.there b o e j) u.tups u.frzs u.tbls (fun m' S=>by
  obtain⟨o',L,G,F,Y⟩:=S
  rw[O]at F;cases F
  exact⟨_,L,G,J,Y⟩) hok U
theorem Inv.turned{t':Nat}{it:Addr}(I:Inv X pins σ H s)(k:∀b o,b≠it→s.heap.get? b=some o→h'.get? b=some o)(J:H it=none)(F:it≠X.env.locals)
  (h1:it∈X.ex∨X.s_0.heap.objs.size≤it) (h2:∀x c,X.env.cells.lookup x=some c→c≠it) (L:∀p∈X.pn++pins,p.1≠it):Inv X pins σ H { s with heap:=h',toks:=t' }:=by
 have D:∀b u,H b=some u→b≠it:=fun b u e z=>by rw[z,J]at e;cases e
 refine I.step (g':=s.gens) (d':=s.drawn) (ch:=[it]) (fun b S=>?_) (fun b o _ _ j e _=>k b o (fun z=>j (by simp[z])) e) (fun b o _ _ j e _=>⟨o.slots,k b o (fun z=>j (by simp[z])) e⟩) (fun _ _ _ _ n=>n)
  (fun b o j e=>⟨o,k b o (fun z=>j (by simp[z])) e⟩) (fun _ _ e=>e) (fun _ _ _ e=>e) (fun b ps e=>⟨#[],by rw[e];simp⟩) (fun m G=>?_) (fun b u e=>?_) I.bare
 ·have e:b=it:=by simpa using S
  subst e
  exact⟨h1,F,h2,L⟩
 ·obtain⟨o,es,ep,O,r⟩:=G
  exact⟨o,es,ep,k _ o (Ne.symm F) O,r⟩
 ·refine(I.hok b u e).stay (fun c v j q=>k c v ?_ q) (fun _ q=>q) fun _ _ q=>q
  rcases j with z | z
  ·rw[z];exact D b u e
  ·exact D c _ z
theorem Inv.tok(I:Inv X pins σ H s)(t:Nat):Inv X pins σ H { s with toks:=t }:=I.un (h':=s.heap) (t':=t) Un.refl I.hok
theorem Inv.kept{t':Nat}(I:Inv X pins σ H s)(k:∀b u,s.heap.get? b=some u→h'.get? b=some u):Inv X pins σ H { s with heap:=h',toks:=t' }:=I.un (Un.kept k) (I.hok.kept k)
theorem Inv.laid{a:Addr}{o:HO}{t':Nat}(I:Inv X pins σ H s)(k:∀b u,s.heap.get? b=some u→h'.get? b=some u)(j:s.heap.objs.size≤a)(new:cU X.prog X.w (upd H a o) h' a o) :
  Inv X pins σ (upd H a o) { s with heap:=h',toks:=t' }:=I.un (Un.laid k j (I.hok.fresh j)) (I.hok.laid k j new)
theorem Inv.write{x e:Addr}{o:HO}{t':Nat}(I:Inv X pins σ H s)(z:Vt (H x))(D:e=x∨H e=some (.own x))(k:∀b u,b≠e→s.heap.get? b=some u→h'.get? b=some u)(j:∃u,h'.get? e=some u)
  (new:cU X.prog X.w (upd H x o) h' x o):Inv X pins σ (upd H x o) { s with heap:=h',toks:=t' }:=I.un (Un.write z D k j) (I.hok.write z D k j new)
theorem Inv.weak{σ':List (Option V)}(I:Inv X pins σ H s)(j:σ'.length=σ.length)(w:∀(i:Nat) v,σ'[i]?=some (some v)→σ[i]?=some (some v)):Inv X pins σ' H s :=
 ⟨I.ok,I.os,I.bare,I.base,let⟨m,hn,hl'⟩:=I.loc;⟨m,hn,fun i x v e1 e2 e3=>hl' i x v e1 (w i v e2) e3⟩,I.cell,I.free,I.freeC,I.pin,I.hok,j.trans I.len⟩
theorem Inv.xn{j:List (Addr×Obj)}(I:Inv X pins σ H s)(h:∀p∈j,s.heap.get? p.1=some p.2∧H p.1=none∧p.1≠X.env.locals∧p.1∉X.fs∧∀v,p.2.data≠.cell v):Inv X j σ H s :=
 ⟨I.ok,I.os,I.bare,I.base,I.loc,I.cell,I.free,I.freeC,fun p D=>(List.mem_append.mp D).elim (fun z=>I.pin p (List.mem_append_left _ z)) (h p),I.hok,I.len⟩
theorem uC{N:List Str}(z:N.Nodup){i j:Nat}{x:Str}(a:N[i]?=some x)(b:N[j]?=some x):i=j:=by
 obtain⟨h1,e1⟩:=hZ.mp a
 obtain⟨h2,e2⟩:=hZ.mp b
 exact(List.getElem_inj z).mp (e1.trans e2.symm)
theorem vH{M:Model}{A:Around}{E:Value→Shared→Prop}{i:Nat}{x:Str}{v:V}{u:Value}{Q:Unit→Shared→Prop}(I:Inv X pins σ H s)(hN:X.N.Nodup)(hi:X.N[i]?=some x)(hx:Loc X.env.scope x)(r:RelV v u)
  (h:∀s',Inv X pins (σ.set i (some v)) H s'→(∃a,Heap.SameBut a s.heap s'.heap∧(a=X.env.locals∨X.env.cells.lookup x=some a))→Q () s') (hf:X.fn x=true∨X.env.scope.names.lookup x=some .local:=by first | exact .inl rfl | exact .inr rfl | assumption):wpAny M A (storeName X.env x u) Q E s:=by
 obtain⟨m,hn,hl⟩:=id I.loc
 have Y:(X.env.scope.kind==.class||(X.env.scope.kind==.module&&X.env.locals != X.env.globals))=false:=by rw[I.ok.kind];rfl
 have hiσ:i<σ.length:=by rw[I.len];exact(hZ.mp hi).1
 have QQ:=I.QQ
 have F:∀{a:Addr}{h':Heap},(∃o,s.heap.get? a=some o∧H a=none)→Heap.SameBut a s.heap h'→mY X.prog X.w H h':=fun{a h'} ha D b ob e=>by
  obtain⟨_,_,J⟩:=ha
  refine(I.hok b ob e).stay (fun c w' G q=>(D.2 c ?_).trans q) (fun _ q=>q) fun _ _ q=>q
  rintro rfl
  rcases G with rfl | G
  ·rw[J]at e;cases e
  ·rw[J]at G;cases G
 rcases hx with L | L
 ·refine wpAny_storeName_local L hn (fun h' af D=>?_) Y
  obtain⟨oL,_,_,ag,_⟩:=id hn
  refine h _ ⟨I.ok,I.os,I.bare,⟨fun b o e n O hx=>?_,fun b o e n O hx=>?_,I.base.free,fun b o e hx=>?_,I.base.tups,I.base.frzs,I.base.tbls⟩,⟨_,af,fun j y v' e1 e2 e3=>?_⟩,fun y c e=>?_,I.free,I.freeC,fun p hp=>?_,F ⟨oL,ag,I.free⟩ D,by simpa using I.len⟩ ⟨_,D,.inl rfl⟩
  ·exact(D.2 b (i3 (ib (Heap.lt_size e) I.ok.above))).trans (I.base.keep b o e n O hx)
  ·obtain⟨sl,e1⟩:=I.base.slot b o e n O hx
   exact⟨sl,(D.2 b (i3 (ib (Heap.lt_size e) I.ok.above))).trans e1⟩
  ·obtain⟨o',e1⟩:=I.base.there b o e hx
   exact⟨o',(D.2 b (i3 (ib (Heap.lt_size e) I.ok.above))).trans e1⟩
  ·by_cases U:j=i
   ·subst U
    rw[hi]at e1;cases e1
    rw[List.getElem?_set_self hiσ]at e2
    cases e2
    exact⟨u,r,.inl ⟨L,by simp⟩⟩
   ·rw[List.getElem?_set_ne (Ne.symm U)]at e2
    obtain⟨u',r',q⟩:=hl j y v' e1 e2 e3
    refine⟨u',r',?_⟩
    rcases q with⟨k,e⟩ | ⟨k,c,e,z⟩
    ·refine .inl ⟨k,?_⟩
     have:y≠x:=fun e=>U (uC hN e1 (e▸hi))
     simp[this,e]
    ·exact .inr ⟨k,c,e,z.sameBut D (QQ y c e)⟩
  ·obtain⟨w',z⟩:=I.cell y c e
   exact⟨w',z.sameBut D (QQ y c e)⟩
  ·obtain⟨e,n,ne,nf,d⟩:=I.pin p hp
   exact⟨(D.2 p.1 ne).trans e,n,ne,nf,d⟩
 ·have S:X.fn x=true:=by
   rcases hf with z | z
   ·exact z
   ·rw[z]at L;cases L
  obtain⟨c,G⟩:=I.ok.has x (.inl L)
  obtain⟨w',z⟩:=I.cell x c G
  refine wpAny_storeName_cell I.ok.kind L G z (fun h' ae D=>?_)
  obtain⟨oc,ac,aa⟩:=id z
  refine h { s with heap:=h' } ⟨I.ok,I.os,I.bare,⟨fun b o e n O hx=>?_,fun b o e n O hx=>?_,I.base.free,fun b o e hx=>?_,I.base.tups,I.base.frzs,I.base.tbls⟩,⟨m,hn.sameBut D (Ne.symm (QQ x c G)),fun j y v' e1 e2 e3=>?_⟩,fun y c' e=>?_,I.free,I.freeC,fun p hp=>?_,F ⟨oc,ac,I.freeC x c G⟩ D,by simpa using I.len⟩ ⟨c,D,.inr G⟩
  ·exact(D.2 b (i3 (ib (Heap.lt_size e) (I.ok.cab x c S G)))).trans (I.base.keep b o e n O hx)
  ·obtain⟨sl,e1⟩:=I.base.slot b o e n O hx
   exact⟨sl,(D.2 b (i3 (ib (Heap.lt_size e) (I.ok.cab x c S G)))).trans e1⟩
  ·obtain⟨o',e1⟩:=I.base.there b o e hx
   exact⟨o',(D.2 b (i3 (ib (Heap.lt_size e) (I.ok.cab x c S G)))).trans e1⟩
  ·by_cases U:j=i
   ·subst U
    rw[hi]at e1;cases e1
    rw[List.getElem?_set_self hiσ]at e2
    cases e2
    exact⟨u,r,.inr ⟨.inl L,c,G,ae⟩⟩
   ·rw[List.getElem?_set_ne (Ne.symm U)]at e2
    obtain⟨u',r',q⟩:=hl j y v' e1 e2 e3
    refine⟨u',r',?_⟩
    rcases q with q | ⟨k,c',e,z'⟩
    ·exact .inl q
    ·refine .inr ⟨k,c',e,z'.sameBut D ?_⟩
     rintro rfl
     exact U (uC hN e1 (I.ok.inj _ _ _ e G▸hi))
  ·by_cases Z:c'=c
   ·subst Z;exact⟨_,ae⟩
   ·obtain⟨w2,z2⟩:=I.cell y c' e
    exact⟨w2,z2.sameBut D Z⟩
  ·obtain⟨e,n,ne,nf,d⟩:=I.pin p hp
   refine⟨(D.2 p.1 ?_).trans e,n,ne,nf,d⟩
   intro q
   rw[q,ac]at e
   have q':oc=p.2:=Option.some.inj e
   exact d w' (by rw[←q'];exact aa)
theorem tX{M:Model}{A:Around}{E:Value→Shared→Prop}{i:Nat}{x:Str}{v:V}{u:Value}{Q:Unit→Shared→Prop}(I:Inv X pins σ H s)(z:X.N.Nodup)(hi:X.N[i]?=some x)(hx:Loc X.env.scope x)(r:RelV v u)
  (h:∀s',Inv X pins (σ.set i (some v)) H s'→Q () s') (j:X.fn x=true∨X.env.scope.names.lookup x=some .local:=by first | exact .inl rfl | exact .inr rfl | assumption):wpAny M A (storeName X.env x u) Q E s :=
 vH I z hi hx r (fun s' D _=>h s' D) j
theorem Inv.call'{s':Shared}{ch:List Addr}(I:Inv X pins σ H s)(D:s'.os=s.os)(u:Un (frs X.stack) ch H H' s.heap s'.heap)(hok:mY X.prog X.w H' s'.heap)(z:AllBare s'.gens)
  (j:∀b∈ch,(b∈X.ex∨X.s_0.heap.objs.size≤b)∧b≠X.env.locals∧(∀x c,X.env.cells.lookup x=some c→c≠b)∧∀p∈X.pn++pins,p.1≠b):Inv X pins σ H' s':=by
 obtain⟨h',g',d',t',o'⟩:=s'
 have e:o'=s.os:=D
 subst e
 exact I.call (g':=g') (t':=t') (d':=d') u hok z j
end
noncomputable abbrev XK:=Value→Option Addr→Hp→Prop
noncomputable abbrev St:=List (Option V)
noncomputable abbrev VK:=V→Hp→Prop
noncomputable abbrev TE:=St→Hp→VK→Prop
noncomputable abbrev TT:=St→Hp→(Bool→Hp→Prop)→Prop
noncomputable abbrev TA:=St→Hp→(List V→Hp→Prop)→Prop
structure Ends where
 nx:St→Hp→Prop
 rt:VK
 bk:St→Hp→Prop:=fun _ _=>False
 ct:St→Hp→Prop:=fun _ _=>False
noncomputable abbrev TS:=Ends→St→Hp→Prop
noncomputable def EP(X:Cx)(pins:List (Addr×Obj))(σ:St)(Q:VK)(u:Value)(s':Shared):Prop:=∃v H',Inv X pins σ H' s'∧RelV v u∧Q v H'
noncomputable def TP(X:Cx)(pins:List (Addr×Obj))(σ:St)(Q:Bool→Hp→Prop)(b:Bool)(s':Shared):Prop:=∃H',Inv X pins σ H' s'∧Q b H'
noncomputable def AP(X:Cx)(pins:List (Addr×Obj))(σ:St)(Q:List V→Hp→Prop)(us:List Value)(s':Shared):Prop:=∃vs H',Inv X pins σ H' s'∧Vals vs us∧Q vs H'
noncomputable def SP(X:Cx)(pins:List (Addr×Obj))(D:Ends)(f:Flow)(s':Shared):Prop :=
 match f with
 | .next=>∃σ' H',Inv X pins σ' H' s'∧D.nx σ' H'
 | .brk=>∃σ' H',Inv X pins σ' H' s'∧D.bk σ' H'
 | .cont=>∃σ' H',Inv X pins σ' H' s'∧D.ct σ' H'
 | .ret u=>∃v σ' H',Inv X pins σ' H' s'∧RelV v u∧D.rt v H'
noncomputable def PE(X:Cx)(e:Expr)(t:TE):Prop :=
 ∀(pins:List (Addr×Obj))(s:Shared)(σ:St)(H:Hp)(Q:VK),Inv X pins σ H s→t σ H Q→wpAny (model X.prog X.w) X.A (eval e X.env) (EP X pins σ Q) X.xe s
noncomputable def PT(X:Cx)(e:Expr)(t:TT):Prop :=
 ∀(pins:List (Addr×Obj))(s:Shared)(σ:St)(H:Hp)(Q:Bool→Hp→Prop),Inv X pins σ H s→t σ H Q→wpAny (model X.prog X.w) X.A (isTrue e X.env (eval e X.env)) (TP X pins σ Q) X.xe s
noncomputable def PW(X:Cx)(e:Expr)(t:TT):Prop :=
 ∀(whole:Sem Value)(pins:List (Addr×Obj))(s:Shared)(σ:St)(H:Hp)(Q:Bool→Hp→Prop),Inv X pins σ H s→t σ H Q→wpAny (model X.prog X.w) X.A (isTrue e X.env whole) (TP X pins σ Q) X.xe s
theorem PW.pt{X:Cx}{e:Expr}{t:TT}(h:PW X e t):PT X e t:=h _
noncomputable def PA(X:Cx)(es:List Expr)(t:TA):Prop :=
 ∀(pos:Pos)(pins:List (Addr×Obj))(s:Shared)(σ:St)(H:Hp)(Q:List V→Hp→Prop),Inv X pins σ H s→t σ H Q→wpAny (model X.prog X.w) X.A (spliced (backTo pos (starEach es X.env))) (AP X pins σ Q) X.xe s
noncomputable def PS(X:Cx)(st:Stmt)(t:TS):Prop :=
 ∀(pins:List (Addr×Obj))(s:Shared)(σ:St)(H:Hp)(D:Ends),Inv X pins σ H s→t D σ H→wpAny (model X.prog X.w) X.A (exec st X.env) (SP X pins D) X.xe s
noncomputable def zX(X:Cx)(st:List Stmt)(t:TS):Prop :=
 ∀(pins:List (Addr×Obj))(s:Shared)(σ:St)(H:Hp)(D:Ends),Inv X pins σ H s→t D σ H→wpAny (model X.prog X.w) X.A (execs st X.env) (SP X pins D) X.xe s
theorem cG{α:Type}{t:Sem α}{Q j:α→Shared→Prop}{M:Model}{A:Around}{E:Value→Shared→Prop}{s:Shared}(h:wpAny M A t Q E s)(z:∀a s,Q a s→j a s):wpAny M A t j E s:=wpAny_mono h z fun _ _ x=>x
end L2
namespace L2
open PySem PySem.Spec PyProof.Rows
section
variable {X:Cx}
noncomputable def pP(i:Nat):TE:=fun σ H Q=>∃v,σ[i]?=some (some v)∧Q v H
noncomputable def tC(v:V):TE:=fun _ H Q=>Q v H
theorem Ku{i:Nat}{x:Str}{pos:Pos}(S:X.N[i]?=some x)(O:Ve X.env.scope x)(hd:(x==("__debug__" : Str))=false:=by decide)(D:(x==("__classdict__" : Str))=false:=by decide):PE X (.Name x pos) (pP i):=by
 intro pins s σ H Q I h
 obtain⟨v,e,h⟩:=h
 obtain⟨m,J,L⟩:=I.loc
 obtain⟨u,r,l⟩:=L i x v S e O
 have fin:EP X pins σ Q u s:=⟨v,H,I,r,h⟩
 rcases l with⟨z,G⟩ | ⟨z,c,F,j⟩
 ·exact wpAny_Name (wpAny_loadName_local I.ok.kind z J G fin) hd
 ·rcases z with z | z
  ·exact wpAny_Name (wpAny_loadName_cell I.ok.kind z F j fin) hd
  ·exact wpAny_Name (wpAny_loadName_free I.ok.kind z F j fin D) hd
theorem aB{i j pos}:PE X (.Constant (.int i) j pos) (tC (.int i)):=fun _ _ _ H _ I h=>wpAny_Constant_int ⟨.int i,H,I.tok _,⟨_,rfl⟩,h⟩
theorem Bk{j pos}:PE X (.Constant .none j pos) (tC .non):=fun _ _ _ H _ I h=>Constant_none ⟨.non,H,I,rfl,h⟩
theorem bA{x j pos}:PE X (.Constant (.str x) j pos) (tC (.str x)):=fun _ _ _ H _ I h=>Calls.Constant_str ⟨.str x,H,I.tok _,⟨_,rfl⟩,h⟩
noncomputable def Gl(X:Cx)(x:Str):Prop:=X.env.kindOf x=some .globalImplicit
theorem lU{E:Value→Shared→Prop}{pins:List (Addr×Obj)}{s:Shared}{σ:St}{H:Hp}{x:Str}{u:Value}{pos:Pos}{Q:Value→Shared→Prop}(I:Inv X pins σ H s)(z:Gl X x)(j:X.mg x=some u)(h:Q u s)
  (hd:(x==("__debug__" : Str))=false:=by decide):wpAny (model X.prog X.w) X.A (eval (.Name x pos) X.env) Q E s :=
 Calls.Name_function_global I.ok.kind z (Calls.loadGlobal_global (by rw[I.ok.glob];exact I.mod.glob.keeps I.bk) j h) hd
theorem qe{E:Value→Shared→Prop}{pins:List (Addr×Obj)}{s:Shared}{σ:St}{H:Hp}{x:Str}{u:Value}{pos:Pos}{Q:Value→Shared→Prop}(I:Inv X pins σ H s)(z:Gl X x)(j:X.mg x=none)(F:bootBuiltins x=some u)(h:Q u s)
  (D:x ≠ "__name__":=by decide) (hd:(x==("__debug__" : Str))=false:=by decide):wpAny (model X.prog X.w) X.A (eval (.Name x pos) X.env) Q E s:=by
 obtain⟨mb,h1,h2⟩:=I.mod.blt
 exact Calls.Name_function_global I.ok.kind z (Calls.loadGlobal_builtin (by rw[I.ok.glob];exact I.mod.glob.keeps I.bk) j (by rw[I.ok.blt];exact h1.keeps I.bk) ((h2 x D).trans F) h) hd
theorem b_{x:Str}{v:V}{u:Value}{pos:Pos}(z:Gl X x)(j:X.mg x=some u)(r:RelV v u)(hd:(x==("__debug__" : Str))=false:=by decide):PE X (.Name x pos) (tC v) :=
 fun _ _ _ H _ I h=>lU I z j ⟨v,H,I,r,h⟩ hd
variable {a b:Expr} {ta tb:TE} {pos:Pos}
noncomputable def PC(X:Cx)(op:CmpOp)(a b:Expr)(t:TE):Prop :=
 ∀(pins:List (Addr×Obj))(s:Shared)(σ:St)(H:Hp)(Q:VK),Inv X pins σ H s→t σ H Q →
  wpAny (model X.prog X.w) X.A (eval a X.env) (fun v s₁=>wpAny (model X.prog X.w) X.A (eval b X.env) (fun u s₂=>wpAny (model X.prog X.w) X.A (compareOp op v u) (EP X pins σ Q) X.xe s₂) X.xe s₁) X.xe s
theorem Lh(b:Expr){op:CmpOp}(h:op≠.In)(h2:op≠.NotIn):behindInMarks op b=false:=by
 have e1:(op==CmpOp.In)=false:=by cases op<;>first | rfl | exact absurd rfl h
 have e2:(op==CmpOp.NotIn)=false:=by cases op<;>first | rfl | exact absurd rfl h2
 cases b<;>simp[behindInMarks,e1,e2]
noncomputable def Iz(ta:TE):TE:=fun σ H Q=>ta σ H fun x H1=>Q (.bl (decide (x=.non))) H1
theorem RelV.Le{x:V}{v:Value}(r:RelV x v):(v==Value.none)=decide (x=.non):=by
 cases x with
 | non=>cases r;rfl
 | bl _=>cases r;rfl
 | int _=>obtain⟨t,rfl⟩:=r;rfl
 | str _=>obtain⟨t,rfl⟩:=r;rfl
 | byt _=>obtain⟨t,rfl⟩:=r;rfl
 | flt _=>obtain⟨t,rfl⟩:=r;rfl
 | ref _=>cases r;rfl
 | ty _=>cases r;rfl
theorem RC{j pos'}(G:PE X a ta):PC X .Is a (.Constant .none j pos') (Iz ta):=by
 intro pins s σ H Q I h
 refine cG (G pins s σ H _ I h) fun v s1 ⟨x,H1,z,D,F⟩=>?_
 exact Constant_none (is_none_gen ⟨.bl _,H1,z,by rw[D.Le];rfl,F⟩)
noncomputable def tB(t:TE):TT:=fun σ H Q=>t σ H fun x H1=>∃c,x=.bl c∧Q c H1
theorem Bg{op:CmpOp}{t:TE}(h:PC X op a b t)(h1:behindInMarks op b=false:=by first | exact Lh _ (by decide) (by decide) | rfl):PT X (.Compare a [op] [b] pos) (tB t):=by
 intro pins s σ H Q I hw
 refine wpAny_isTrue_Compare1 (cG (h pins s σ H _ I hw) fun v s1 h1=>cG h1 fun u s2 h2=>cG h2 fun c F ⟨x,H1,j,z,D⟩=>?_) h1
 obtain⟨d,rfl,q⟩:=D
 cases z
 exact wpAny_truthy_bool ⟨H1,j,q⟩
theorem eG{e:Expr}{t:TE}(h:PE X e t)(F:∀whole,isTrue e X.env whole=(do let v ←whole;standAt e.pos;holding [v] (truthy v)):=by intro _;rfl):PT X e (tB t):=by
 intro pins s σ H Q I hw
 refine isTrue_plain (cG (h pins s σ H _ I hw) fun v s1 ⟨x,H1,j,z,D⟩=>?_) (F _)
 obtain⟨d,rfl,q⟩:=D
 cases z
 exact wpAny_truthy_bool ⟨H1,j,q⟩
variable {tA tB':TT} {rest:List Expr}
noncomputable def IV(t u:TT):TT:=fun σ H Q=>t σ H fun c H1=>if c=true then u σ H1 Q else Q false H1
noncomputable def T3(t u:TT):TT:=fun σ H Q=>t σ H fun c H1=>if c=true then Q true H1 else u σ H1 Q
noncomputable def Iw(t:TT):TT:=fun σ H Q=>t σ H fun c H1=>Q (!c) H1
theorem gQ(j:PT X a tA):PW X (.BoolOp .And [a] pos) tA:=by
 intro z pins s σ H Q I h
 refine isTrue_and (cG (j pins s σ H Q I h) fun c s1 e=>?_)
 cases c with
 | true=>exact isTrue_and_nil e
 | false=>exact e
theorem jV(j:PT X a tA):PW X (.BoolOp .Or [a] pos) tA:=by
 intro z pins s σ H Q I h
 refine isTrue_or (cG (j pins s σ H Q I h) fun c s1 e=>?_)
 cases c with
 | false=>exact isTrue_or_nil e
 | true=>exact e
theorem jW(D:PT X a tA)(G:PW X (.BoolOp .And (b::rest) pos) tB'):PW X (.BoolOp .And (a::b::rest) pos) (IV tA tB'):=by
 intro F pins s σ H Q I h
 refine isTrue_and (cG (D pins s σ H _ I h) fun c s1 ⟨H1,j,z⟩=>?_)
 cases c with
 | true=>exact G F pins s1 σ H1 Q j z
 | false=>exact⟨H1,j,z⟩
theorem m_(D:PT X a tA)(G:PW X (.BoolOp .Or (b::rest) pos) tB'):PW X (.BoolOp .Or (a::b::rest) pos) (T3 tA tB'):=by
 intro F pins s σ H Q I h
 refine isTrue_or (cG (D pins s σ H _ I h) fun c s1 ⟨H1,j,z⟩=>?_)
 cases c with
 | true=>exact⟨H1,j,z⟩
 | false=>exact G F pins s1 σ H1 Q j z
theorem jX(j:PT X a tA):PT X (.UnaryOp .Not a pos) (Iw tA):=by
 intro pins s σ H Q I h
 exact isTrue_not (j pins s σ H (fun c H1=>Q (!c) H1) I h)
noncomputable def yI(ta tb:TE):TE:=fun σ H Q=>ta σ H fun x H1=>∃c,x=.bl c∧if c=true then tb σ H1 Q else Q (.bl false) H1
noncomputable def Iu(ta tb:TE):TE:=fun σ H Q=>ta σ H fun x H1=>∃c,x=.bl c∧if c=true then Q (.bl true) H1 else tb σ H1 Q
noncomputable def yE(ta:TE):TE:=fun σ H Q=>ta σ H fun x H1=>∃c,x=.bl c∧Q (.bl (!c)) H1
theorem Bj{op}{t:TE}(h:PE X a t):PE X (.BoolOp op [a] pos) t:=fun pins s σ H Q I hw=>BoolOp_one (h pins s σ H Q I hw)
theorem RB(D:PE X a ta)(G:PE X (.BoolOp .And (b::rest) pos) tb):PE X (.BoolOp .And (a::b::rest) pos) (yI ta tb):=by
 intro pins s σ H Q I h
 refine BoolOp_and (cG (D pins s σ H _ I h) fun v s1 ⟨x,H1,z,F,j⟩=>?_)
 obtain⟨c,rfl,j⟩:=j
 cases F
 refine wpAny_truthy_bool ?_
 cases c with
 | true=>exact G pins s1 σ H1 Q z j
 | false=>exact⟨.bl false,H1,z,rfl,j⟩
theorem Ky(D:PE X a ta)(G:PE X (.BoolOp .Or (b::rest) pos) tb):PE X (.BoolOp .Or (a::b::rest) pos) (Iu ta tb):=by
 intro pins s σ H Q I h
 refine BoolOp_or (cG (D pins s σ H _ I h) fun v s1 ⟨x,H1,z,F,j⟩=>?_)
 obtain⟨c,rfl,j⟩:=j
 cases F
 refine wpAny_truthy_bool ?_
 cases c with
 | false=>exact G pins s1 σ H1 Q z j
 | true=>exact⟨.bl true,H1,z,rfl,j⟩
theorem Rx(F:PE X a ta):PE X (.UnaryOp .Not a pos) (yE ta):=by
 intro pins s σ H Q I h
 refine UnaryOp_ (cG (F pins s σ H _ I h) fun v s1 ⟨x,H1,z,D,j⟩=>?_)
 obtain⟨c,rfl,j⟩:=j
 cases D
 exact not_of (wpAny_truthy_bool ⟨.bl (!c),H1,z,rfl,j⟩)
noncomputable def T7(t:TT)(ta tb:TE):TE:=fun σ H Q=>t σ H fun c H1=>if c=true then ta σ H1 Q else tb σ H1 Q
theorem uw{c:Expr}(G:PT X c tA)(F:PE X a ta)(D:PE X b tb):PE X (.IfExp c a b pos) (T7 tA ta tb):=by
 intro pins s σ H Q I h
 refine wpAny_IfExp (cG (G pins s σ H _ I h) fun d s1 ⟨H1,j,z⟩=>?_)
 cases d with
 | true=>exact F pins s1 σ H1 Q j z
 | false=>exact D pins s1 σ H1 Q j z
end
end L2
namespace L2
open PySem PySem.Spec PyProof.Rows
noncomputable def bV(K:PySem.W.Frag)(H:Hp)(a:Addr)(xs:List V):Prop :=
 Rd H a (.lst xs) ∨
  ∃(o:Obj)(its:Array Value)(n:Nat),K.lookup a=some o∧o.cls=.type "list"∧o.dict=none∧o.data=.seq its n∧its.size≤sizeLine∧Vals xs its.toList
noncomputable def cR(K:PySem.W.Frag)(H:Hp)(a:Addr)(xs:List V):Prop :=
 Rd H a (.tup xs) ∨
  ∃(o:Obj)(its:Array Value)(n:Nat),K.lookup a=some o∧o.cls=.type "tuple"∧o.data=.seq its n∧its.size≤sizeLine∧Vals xs its.toList
noncomputable def Wk:Value→Option V
 | .none=>some .non
 | .bool b=>some (.bl b)
 | .int i _=>some (.int i)
 | .str x _=>some (.str x)
 | .bytes b _=>some (.byt b)
 | .float b _=>some (.flt b)
 | .ref a=>some (.ref a)
 | .type n=>some (.ty n)
 | _=>none
theorem RelV.abs{x:V}{u:Value}(r:RelV x u):Wk u=some x:=by
 cases x with
 | non=>cases r;rfl
 | bl _=>cases r;rfl
 | int _=>obtain⟨t,rfl⟩:=r;rfl
 | str _=>obtain⟨t,rfl⟩:=r;rfl
 | byt _=>obtain⟨t,rfl⟩:=r;rfl
 | flt _=>obtain⟨t,rfl⟩:=r;rfl
 | ref _=>cases r;rfl
 | ty _=>cases r;rfl
theorem RelV.inj{x y:V}{u:Value}(r:RelV x u)(q:RelV y u):x=y:=Option.some.inj (r.abs.symm.trans q.abs)
theorem Vals.inj:∀{xs ys:List V}{us:List Value},Vals xs us→Vals ys us→xs=ys
 | _,_,_,.nil,.nil=>rfl
 | _,_,_,.cons r t,.cons j t'=>by rw[r.inj j,Vals.inj t t']
section
variable {X:Cx} {pins:List (Addr×Obj)} {σ:St} {H:Hp} {s:Shared} {a:Addr} {xs ys:List V}
theorem bV.of{K:PySem.W.Frag}(h:H a=some (.lst xs)):bV K H a xs:=.inl (.inl h)
theorem cR.of{K:PySem.W.Frag}(h:H a=some (.tup xs)):cR K H a xs:=.inl (.inl h)
theorem Inv.list(I:Inv X pins σ H s)(h:bV X.K H a xs):∃its:List Value,Vals xs its∧PlainL s.heap a its.toArray∧xs.length≤sizeLine:=by
 rcases h with h | ⟨o,its,n,D,F,hd,j,hz,r⟩
 ·obtain⟨z,its,n,r,e⟩:=h.ok I.hok
  exact⟨its,r,⟨_,n,e,rfl,rfl,rfl⟩,z⟩
 ·refine⟨its.toList,r,⟨o,n,I.o6 a o D,F,hd,by simpa using j⟩,?_⟩
  have e:=r.length
  simp only[Array.length_toList]at e
  omega
theorem Inv.tuple(I:Inv X pins σ H s)(h:cR X.K H a xs):∃its:List Value,Vals xs its∧IsTup s.heap a its.toArray∧xs.length≤sizeLine:=by
 rcases h with h | ⟨o,its,n,D,F,j,hz,r⟩
 ·obtain⟨z,its,r,p⟩:=h.ok I.hok
  exact⟨its,r,p,z⟩
 ·refine⟨its.toList,r,⟨o,I.o6 a o D,F,n,by simpa using j⟩,?_⟩
  have e:=r.length
  simp only[Array.length_toList]at e
  omega
theorem Inv.uE(I:Inv X pins σ H s)(h:bV X.K H a xs)(h':bV X.K H a ys):xs=ys:=by
 obtain⟨its,r,⟨o,n,e,_,_,d⟩,_⟩:=I.list h
 obtain⟨its',D,⟨o',F,j,_,_,d'⟩,_⟩:=I.list h'
 rw[e]at j;cases j
 rw[d]at d'
 injection d' with z _
 have:its=its':=by simpa using congrArg Array.toList z
 subst this
 exact r.inj D
theorem Inv.Fx(I:Inv X pins σ H s)(h:cR X.K H a xs)(h':cR X.K H a ys):xs=ys:=by
 obtain⟨its,r,⟨o,e,_,n,d⟩,_⟩:=I.tuple h
 obtain⟨its',D,⟨o',j,_,F,d'⟩,_⟩:=I.tuple h'
 rw[e]at j;cases j
 rw[d]at d'
 injection d' with z _
 have:its=its':=by simpa using congrArg Array.toList z
 subst this
 exact r.inj D
end
section
variable {X:Cx} {pins:List (Addr×Obj)} {σ:St} {H:Hp} {s:Shared} {E:Value→Shared→Prop}
end
section
variable {X:Cx} {st:Stmt} {rest:List Stmt} {t u:TS} {e:Expr} {te:TE} {pos:Pos}
noncomputable def yF:TS:=fun D σ H=>D.nx σ H
noncomputable def Ip(t u:TS):TS:=fun D σ H=>t { D with nx:=u D } σ H
theorem aP:zX X [] yF:=fun _ _ σ H _ I h=>wpAny_execs_nil ⟨σ,H,I,h⟩
theorem aq(h1:PS X st t)(h2:zX X rest u):zX X (st::rest) (Ip t u):=by
 intro pins s σ H D I h
 refine wpAny_execs_cons (cG (h1 pins s σ H { D with nx:=u D } I h) fun f s1 q=>?_)
 cases f with
 | next =>
  obtain⟨σ',H',j,q⟩:=q
  exact h2 pins s1 σ' H' D j q
 | ret v=>exact q
 | brk=>exact q
 | cont=>exact q
theorem ao(h1:PS X st t):zX X [st] t:=by
 intro pins s σ H D I h
 refine wpAny_execs_cons (cG (h1 pins s σ H D I h) fun f s1 q=>?_)
 cases f with
 | next=>exact wpAny_execs_nil q
 | ret v=>exact q
 | brk=>exact q
 | cont=>exact q
theorem Inv.quiet{pins:List (Addr×Obj)}{σ:St}{H:Hp}{s:Shared}(I:Inv X pins σ H s):interactive X.env=false:=by simp[interactive,I.ok.kind]
noncomputable def yH(te:TE):TS:=fun D σ H=>te σ H fun _ H1=>D.nx σ H1
theorem aM(G:PE X e te)(j:swapsWith e none pos.line X.env=pure false:=by rfl):PS X (.Expr e pos) (yH te):=by
 intro pins s σ H D I h
 exact wpAny_Expr_any (cG (G pins s σ H _ I h) fun v s1 ⟨x,H1,z,J,F⟩=>⟨σ,H1,z,F⟩) I.quiet j
noncomputable def FQ(te:TE):TS:=fun D σ H=>te σ H D.rt
theorem aV(G:PE X e te):PS X (.Return (some e) pos) (FQ te):=by
 intro pins s σ H D I h
 exact wpAny_Return_some (cG (G pins s σ H _ I h) fun v s1 ⟨x,H1,j,z,F⟩=>⟨x,σ,H1,j,z,F⟩)
noncomputable def yD:TS:=fun D _ H=>D.rt .non H
theorem DP:PS X (.Return none pos) yD:=fun _ _ σ H _ I h=>wpAny_Return_none ⟨.non,σ,H,I,rfl,h⟩
noncomputable def FZ(c:TT)(t u:TS):TS:=fun D σ H=>c σ H fun b H1=>if b=true then t D σ H1 else u D σ H1
theorem aX{c:Expr}{a b:List Stmt}{tc:TT}(J:PT X c tc)(F:zX X a t)(G:zX X b u):PS X (.If c a b pos) (FZ tc t u):=by
 intro pins s σ H D I h
 refine wpAny_If (cG (J pins s σ H _ I h) fun d s1 ⟨H1,j,z⟩=>?_)
 cases d with
 | true=>exact F pins s1 σ H1 D j z
 | false=>exact G pins s1 σ H1 D j z
end
noncomputable abbrev TG:=V→St→Hp→(St→Hp→Prop)→Prop
noncomputable abbrev S6:=List V→St→Hp→(St→Hp→Prop)→Prop
noncomputable def PG(X:Cx)(target:Expr)(t:TG):Prop :=
 ∀(pins:List (Addr×Obj))(s:Shared)(σ:St)(H:Hp)(v:V)(u:Value)(Q:St→Hp→Prop),Inv X pins σ H s→RelV v u→t v σ H Q →
  wpAny (model X.prog X.w) X.A (assign target X.env u) (fun _ s'=>∃σ' H',Inv X pins σ' H' s'∧Q σ' H') X.xe s
noncomputable def Vs(X:Cx)(ts:List Expr)(t:S6):Prop :=
 ∀(pins:List (Addr×Obj))(s:Shared)(σ:St)(H:Hp)(vs:List V)(us:List Value)(Q:St→Hp→Prop),Inv X pins σ H s→Vals vs us→t vs σ H Q →
  wpAny (model X.prog X.w) X.A (assignInOrder ((assignEach ts X.env).map (·.2)) us) (fun _ s'=>∃σ' H',Inv X pins σ' H' s'∧Q σ' H') X.xe s
section
variable {X:Cx} {pos:Pos}
noncomputable def qP(i:Nat):TG:=fun v σ H Q=>Q (σ.set i (some v)) H
theorem cW{i:Nat}{x:Str}(z:X.N.Nodup)(hi:X.N[i]?=some x)(hx:Loc X.env.scope x)(j:X.fn x=true∨X.env.scope.names.lookup x=some .local:=by first | exact .inl rfl | exact .inr rfl | assumption):PG X (.Name x pos) (qP i):=by
 intro pins s σ H v u Q I r h
 exact wpAny_assign_Name (tX I z hi hx r (fun s' D=>⟨_,H,D,h⟩) j)
noncomputable def Wh:S6:=fun vs σ H Q=>vs=[]∧Q σ H
noncomputable def U_(t:TG)(u:S6):S6:=fun vs σ H Q=>∃v r,vs=v::r∧t v σ H fun σ' H'=>u r σ' H' Q
theorem DW:Vs X [] Wh:=by
 intro pins s σ H vs us Q I r h
 obtain⟨e,h⟩:=h
 subst e
 cases r
 exact assignInOrder_nil ⟨σ,H,I,h⟩
theorem iH{e:Expr}{es:List Expr}{t:TG}{u:S6}(h1:PG X e t)(h2:Vs X es u)
  (j:(assignEach (e::es) X.env).map (·.2)=assign e X.env::(assignEach es X.env).map (·.2):=by rfl):Vs X (e::es) (U_ t u):=by
 intro pins s σ H vs us Q I r h
 obtain⟨v,G,e1,h⟩:=h
 subst e1
 cases r with
 | cons r D =>
  rw[j]
  refine assignInOrder_cons (cG (h1 pins s σ H _ _ _ I r h) fun _ s1 ⟨σ1,H1,z,F⟩=>?_)
  exact h2 pins s1 σ1 H1 _ _ Q z D F
noncomputable def Wf(K:PySem.W.Frag)(n:Nat)(t:S6):TG:=fun v σ H Q=>∃a xs,v=.ref a∧cR K H a xs∧xs.length=n∧t xs σ H Q
theorem Kr{es:List Expr}{k:Nat}{t:S6}{n:Nat}(O:X.calm=true)(h:Vs X es t)
  (D:(assignEach es X.env).length=n:=by rfl) (j:(assignEach es X.env).findIdx? (·.1)=none:=by rfl):PG X (.Tuple es k pos) (Wf X.K n t):=by
 intro pins s σ H v u Q I r hw
 obtain⟨a,xs,e1,J,F,hw⟩:=hw
 subst e1
 cases r
 obtain⟨its,z,L,hz⟩:=I.tuple J
 refine assign_Tuple_tuple (I.ok.hd O) L (by simp[D,←F,z.length]) j fun h' hx=>?_
 have G:Inv X pins σ H { s with heap:=h' }:=I.kept (t':=s.toks) fun b o e=>hx b o (i3 (Heap.lt_size e)) e
 exact h pins _ σ H xs _ Q G (by simpa using z) hw
noncomputable def F_(te:TE)(g:TG):TS:=fun D σ H=>te σ H fun x H1=>g x σ H1 D.nx
theorem bu{i:Nat}{x:Str}{e:Expr}{te:TE}{pos':Pos}(S:X.N.Nodup)(hi:X.N[i]?=some x)(hx:Loc X.env.scope x)(O:PE X e te)(j:swapsWith e (some (.Name x pos')) pos.line X.env=pure false:=by rfl)(z:X.fn x=true∨X.env.scope.names.lookup x=some .local:=by first | exact .inl rfl | exact .inr rfl | assumption) :
  PS X (.Assign [.Name x pos'] e pos) (F_ te (qP i)):=by
 intro pins s σ H D I h
 refine wpAny_Assign_Name (cG (O pins s σ H _ I h) fun v s1 ⟨y,H1,F,G,L⟩=>?_) j
 exact tX F S hi hx G (fun s2 J=>⟨_,H1,J,L⟩) z
end
section
variable {X:Cx} {pos:Pos}
noncomputable def Q7(c:TT)(tb:TS):TS:=fun D σ H=>∃W:Nat→St→Hp→Prop,(∃m,W m σ H)∧∀m σ H,W m σ H →
 c σ H fun b H1=>if b=true then ∃N:St→Hp→Prop,(∀σ' H',N σ' H'→∃j,j<m∧W j σ' H')∧tb { D with nx:=N,ct:=N,bk:=D.nx } σ H1 else D.nx σ H1
theorem gA{c:Expr}{body:List Stmt}{tc:TT}{tb:TS}(U:PassesOwn (model X.prog X.w) X.A X.env X.xe)(hc:PT X c tc)(hb:zX X body tb):PS X (.While c body [] pos) (Q7 tc tb):=by
 intro pins s σ H D I h
 obtain⟨W,⟨m0,w0⟩,turn⟩:=h
 refine wpAny_While (codeAny_whileLoop (fun n s'=>∃σ' H',Inv X pins σ' H' s'∧W n σ' H') ?_ m0 ⟨σ,H,I,w0⟩)
 rintro n s1 ⟨σ1,H1,I1,w1⟩
 refine wpAny_passesOwn U (cG (hc pins s1 σ1 H1 _ I1 (turn n σ1 H1 w1)) fun b s2 ⟨H2,Y,F⟩=>?_)
 cases b with
 | true =>
  obtain⟨N,Z,F⟩:=F
  rw[jI rfl]
  refine wpAny_passesOwn U (cG (hb pins s2 σ1 H2 _ Y F) fun f s3 z=>?_)
  cases f with
  | next =>
   obtain⟨σ3,j,O,S⟩:=z
   obtain⟨L,G,J⟩:=Z σ3 j S
   exact⟨L,G,σ3,j,O,J⟩
  | cont =>
   obtain⟨σ3,j,O,S⟩:=z
   obtain⟨L,G,J⟩:=Z σ3 j S
   exact⟨L,G,σ3,j,O,J⟩
  | brk=>exact z
  | ret v=>exact z
 | false =>
  rw[i9 io]
  exact wpAny_execs_nil ⟨σ1,H2,Y,F⟩
end
structure It where
 go:Nat→Hp→Prop
 yld:Nat→Hp→V→Hp→Prop
 stop:Nat→Hp→Prop
noncomputable def mZ(X:Cx)(pins:List (Addr×Obj))(H:Hp)(b:Addr):Prop :=
 H b=none∧b≠X.env.locals∧b∉X.fs∧(b∈X.ex∨X.s_0.heap.objs.size≤b)∧(∀x c,X.env.cells.lookup x=some c→c≠b)∧∀p∈X.pn++pins,p.1≠b
theorem Inv.zB{X:Cx}{pins:List (Addr×Obj)}{σ:St}{H H':Hp}{s:Shared}{b:Addr}(I:Inv X pins σ H s)(j:s.heap.objs.size≤b)(F:H' b=none):mZ X pins H' b:=by
 refine⟨F,Nat.ne_of_gt (ib I.lt j),I.V_ j,.inr (ip I.sz j),fun x c e z=>?_,fun p D z=>?_⟩
 ·obtain⟨v,q⟩:=I.cell x c e
  exact absurd (ib q.lt (by rw[z];exact j)) (Nat.lt_irrefl _)
 ·exact absurd (ib (Heap.lt_size (I.pin p D).1) (by rw[z];exact j)) (Nat.lt_irrefl _)
structure Turn (P:Program) (w:World) (K:PySem.W.Frag) (tg:Expr) (J:It) (fp:List Addr) (it:Addr) (tn:Nat→Heap→Prop):Prop where
 mem:it∈fp
 obj:∀i h,tn i h→∀b∈fp,∃o,h.get? b=some o∧∀v,o.data≠.cell v
 keep:∀i h h',tn i h→(∀b∈fp,∀o,h.get? b=some o→h'.get? b=some o)→tn i h'
 item:∀(X:Cx),X.prog=P→X.w=w→X.K=K→X.calm=true→∀(i:Nat)(pins:List (Addr×Obj))(s:Shared)(σ:St)(H:Hp)(E:Value→Shared→Prop),Inv X pins σ H s→(∀b∈fp,mZ X pins H b)→tn i s.heap→J.go i H →
  wpAny (model P w) X.A (pyNext (.ref it)) (fun r s1=>∃u,r=some u ∧
   wpAny (model P w) X.A (letOwnedTupleGo tg (.ref it) u) (fun _ s2=>∃x H',Inv X pins σ H' s2∧RelV x u∧J.yld i H x H'∧tn (i+1) s2.heap∧∀b∈fp,H' b=none) E s1) E s
 done:∀(X:Cx),X.prog=P→X.w=w→X.K=K→X.calm=true→∀(i:Nat)(pins:List (Addr×Obj))(s:Shared)(σ:St)(H:Hp)(E:Value→Shared→Prop),Inv X pins σ H s→(∀b∈fp,mZ X pins H b)→tn i s.heap→J.stop i H →
  wpAny (model P w) X.A (pyNext (.ref it)) (fun r s1=>r=none∧Inv X pins σ H s1) E s
 self:∀(A:Around)(i:Nat)(s:Shared)(Q:Value→Shared→Prop)(E:Value→Shared→Prop),tn i s.heap→Q (.ref it) s→wpAny (model P w) A (pyIter (.ref it)) Q E s
noncomputable abbrev TI:=St→Hp→(It→Hp→Prop)→Prop
noncomputable def PIE(X:Cx)(pins:List (Addr×Obj))(σ:St)(tg:Expr)(R:It→Hp→Prop)(j:Value)(s2:Shared):Prop :=
 ∃(it:Addr)(fp:List Addr)(tn:Nat→Heap→Prop)(J:It)(H':Hp),j=.ref it∧Inv X pins σ H' s2∧Turn X.prog X.w X.K tg J fp it tn∧tn 0 s2.heap∧(∀b∈fp,mZ X pins H' b)∧R J H'
noncomputable def PI(X:Cx)(tg iter:Expr)(j:TI):Prop :=
 ∀(pins:List (Addr×Obj))(s:Shared)(σ:St)(H:Hp)(R:It→Hp→Prop),Inv X pins σ H s→j σ H R →
  wpAny (model X.prog X.w) X.A (eval iter X.env) (fun v s1=>wpAny (model X.prog X.w) X.A (pyIter v) (PIE X pins σ tg R) X.xe s1) X.xe s
theorem Mf{M:Model}{A:Around}{E:Value→Shared→Prop}{s:Shared}{tg:Expr}{it:Addr}{u:Value}{o:Obj}{n:String}{vs:Array Value}{Q:Unit→Shared→Prop}(z:s.heap.get? it=some o)(D:o.cls=.type n)(hd:o.data=.fields vs)
    (F:["enumerate","zip","dict_itemiterator","dict_reverseitemiterator","odict_iterator","itertools.zip_longest","itertools.pairwise"].contains n=false) (j:Q () s):wpAny M A (letOwnedTupleGo tg (.ref it) u) Q E s:=by
  unfold letOwnedTupleGo
  cases tg<;>first
    | exact wpAny_pure j
    | (cases u<;>first
        | exact wpAny_pure j
        | (refine wpAny_bind (wpAny_load z ?_)
           rw[D,hd]
           show wpAny M A (if(["enumerate","zip","dict_itemiterator","dict_reverseitemiterator","odict_iterator","itertools.zip_longest","itertools.pairwise"].contains n&&vs[0]?==some (rawInt _))=true then _ else _) Q E s
           rw[i9 (by intro h;rw[F,Bool.false_and]at h;cases h)]
           exact wpAny_pure j))
noncomputable def QV(K:PySem.W.Frag)(a:Addr):It :=
 ⟨fun i H=>∃xs x,bV K H a xs∧xs[i]?=some x,fun i H x H'=>H'=H∧∀xs,bV K H a xs→xs[i]?=some x,fun i H=>∃xs,bV K H a xs∧xs.length≤i⟩
noncomputable def Vk(K:PySem.W.Frag)(a:Addr):It :=
 ⟨fun i H=>∃xs x,cR K H a xs∧xs[i]?=some x,fun i H x H'=>H'=H∧∀xs,cR K H a xs→xs[i]?=some x,fun i H=>∃xs,cR K H a xs∧xs.length≤i⟩
noncomputable def Tq(lo:Int)(n:Nat):It:=⟨fun i _=>i<n,fun i H x H'=>H'=H∧x=.int (lo+i),fun i _=>n≤i⟩
theorem Fw{P:Program}{w:World}{K:PySem.W.Frag}{tg:Expr}(a it:Addr):Turn P w K tg (QV K a) [it] it (fun i h=>h.IsListIter it a i) where
 mem:=by simp
 obj:=fun i h st b j=>by
  have e:b=it:=by simpa using j
  subst e
  obtain⟨o,e,c,d⟩:=st
  exact⟨o,e,fun v z=>by rw[d]at z;cases z⟩
 keep:=fun i h h' st k=>st.at fun o e=>k it (by simp) o e
 item:=by
  intro X S hw Z hc i pins s σ H E I F st L
  subst S hw Z
  obtain⟨xs,x,G,hx⟩:=L
  obtain⟨its,O,p,hz⟩:=I.list G
  obtain⟨u,hu,ru⟩:=O.get hx
  obtain⟨U,f1,f2,J,Y,f5⟩:=F it (by simp)
  refine wpAny_pyNext_list_item st p.isList (x:=u) (by simpa using hu) fun h' D sb=>?_
  have I1:Inv X pins σ H { s with heap:=h' }:=I.turned (t':=s.toks) (fun b o j e=>(sb.2 b j).trans e) U f1 J Y f5
  obtain⟨o,e,c,d⟩:=id D
  exact⟨u,rfl,Mf (s:={ s with heap:=h' }) e c d (by decide) ⟨x,H,I1,ru,⟨rfl,fun ys hy=>by rw[I.uE hy G];exact hx⟩,D,fun b j=>(F b j).1⟩⟩
 done:=by
  intro X S hw Z hc i pins s σ H E I F st L
  subst S hw Z
  obtain⟨xs,G,hx⟩:=L
  obtain⟨its,O,p,hz⟩:=I.list G
  obtain⟨U,f1,f2,J,Y,f5⟩:=F it (by simp)
  have hl:=O.length
  exact wpAny_pyNext_list_end (I.ok.hd hc) st p.isList (by simp;omega) fun h' eb=>⟨rfl,I.turned (t':=s.toks) (fun b o j e=>eb b o j e) U f1 J Y f5⟩
 self:=fun _ _ _ _ _ st h=>wpAny_pyIter_listiter st h
theorem z_{P:Program}{w:World}{K:PySem.W.Frag}{tg:Expr}(a it:Addr):Turn P w K tg (Vk K a) [it] it (fun i h=>h.IsTupleIter it a i) where
 mem:=by simp
 obj:=fun i h st b j=>by
  have e:b=it:=by simpa using j
  subst e
  obtain⟨o,e,c,d⟩:=st
  exact⟨o,e,fun v z=>by rw[d]at z;cases z⟩
 keep:=fun i h h' st k=>st.at fun o e=>k it (by simp) o e
 item:=by
  intro X S hw Z hc i pins s σ H E I F st L
  subst S hw Z
  obtain⟨xs,x,G,hx⟩:=L
  obtain⟨its,O,p,hz⟩:=I.tuple G
  obtain⟨u,hu,ru⟩:=O.get hx
  obtain⟨U,f1,f2,J,Y,f5⟩:=F it (by simp)
  refine wpAny_pyNext_tuple_item st (show s.heap.IsTuple a its.toArray from p) (x:=u) (by simpa using hu) fun h' D sb=>?_
  have I1:Inv X pins σ H { s with heap:=h' }:=I.turned (t':=s.toks) (fun b o j e=>(sb.2 b j).trans e) U f1 J Y f5
  obtain⟨o,e,c,d⟩:=id D
  exact⟨u,rfl,Mf (s:={ s with heap:=h' }) e c d (by decide) ⟨x,H,I1,ru,⟨rfl,fun ys hy=>by rw[I.Fx hy G];exact hx⟩,D,fun b j=>(F b j).1⟩⟩
 done:=by
  intro X S hw Z hc i pins s σ H E I F st L
  subst S hw Z
  obtain⟨xs,G,hx⟩:=L
  obtain⟨its,O,p,hz⟩:=I.tuple G
  obtain⟨U,f1,f2,J,Y,f5⟩:=F it (by simp)
  have hl:=O.length
  exact wpAny_pyNext_tuple_end (I.ok.hd hc) st (show s.heap.IsTuple a its.toArray from p) (by simp;omega) fun h' eb=>⟨rfl,I.turned (t':=s.toks) (fun b o j e=>eb b o j e) U f1 J Y f5⟩
 self:=fun _ _ _ _ _ st h=>wpAny_pyIter_tupleiter st h
theorem Aa{P:Program}{w:World}{K:PySem.W.Frag}{tg:Expr}(it:Addr)(lo:Int)(n:Nat):Turn P w K tg (Tq lo n) [it] it (fun i h=>IsRangeIter h it (lo+(i:Nat)*1) ((n:Int)-(i:Nat)) 1) where
 mem:=by simp
 obj:=fun i h st b j=>by
  have e:b=it:=by simpa using j
  subst e
  exact⟨_,st,fun v z=>by
   have z':Data.fields _=Data.cell v:=z
   cases z'⟩
 keep:=fun i h h' st k=>k it (by simp) _ st
 item:=by
  intro X L hw U Y i pins s σ H E I F st J
  subst L hw U
  obtain⟨O,f1,f2,G,S,Z⟩:=F it (by simp)
  have W:=Walks.range (prog:=X.prog) (w:=X.w) (I.ok.hd Y) it lo 1 n
  refine W.item i s _ _ J st fun v h' tk hv D kk=>?_
  obtain⟨t,rfl⟩:=hv
  have I1:Inv X pins σ H { s with heap:=h',toks:=tk }:=I.turned (fun b o j e=>kk b o (by simpa using j) e) O f1 G S Z
  refine⟨_,rfl,Mf (s:={ s with heap:=h',toks:=tk }) (n:="range_iterator") D rfl rfl (by decide) ⟨.int (lo+i),H,I1,⟨t,?_⟩,⟨rfl,rfl⟩,D,fun b j=>(F b j).1⟩⟩
  rw[Int.mul_one]
 done:=by
  intro X L hw U Y i pins s σ H E I F st J
  subst L hw U
  obtain⟨O,f1,f2,G,S,Z⟩:=F it (by simp)
  exact wpAny_pyNext_range_end (I.ok.hd Y) st (by have:n≤i:=J;omega) fun h' eb=>⟨rfl,I.turned (t':=s.toks) (fun b o j e=>eb b o j e) O f1 G S Z⟩
 self:=fun _ _ _ _ _ st h=>wpAny_pyIter_rangeiter st h
end L2
namespace L2
open PySem PySem.Spec PyProof.Rows
section
variable {X:Cx} {tg:Expr}
noncomputable def U7(K:PySem.W.Frag)(tl:TE):TI:=fun σ H R=>tl σ H fun x H1=>∃a,x=.ref a∧(∃xs,bV K H1 a xs)∧R (QV K a) H1
noncomputable def We(K:PySem.W.Frag)(tl:TE):TI:=fun σ H R=>tl σ H fun x H1=>∃a,x=.ref a∧(∃xs,cR K H1 a xs)∧R (Vk K a) H1
theorem ji{l:Expr}{tl:TE}(z:PE X l tl):PI X tg l (U7 X.K tl):=by
 intro pins s σ H R I h
 refine cG (z pins s σ H _ I h) fun v s1 ⟨x,H1,j,D,G⟩=>?_
 obtain⟨a,e,⟨xs,F⟩,q⟩:=G
 subst e
 cases D
 obtain⟨its,L,p,hz⟩:=j.list F
 refine wpAny_pyIter_list p.isList ?_
 refine⟨s1.heap.objs.size,[s1.heap.objs.size],_,_,H1,rfl,j.kept (t':=s1.toks) fun b o e=>Heap.get?_push_of_some _ e,Fw a _,⟨_,Heap.get?_push_size _ rfl,rfl,rfl⟩,fun b J=>?_,q⟩
 have e:b=s1.heap.objs.size:=by simpa using J
 subst e
 exact j.zB (f' _) (j.hok.fresh (f' _))
theorem Ko{l:Expr}{tl:TE}(z:PE X l tl):PI X tg l (We X.K tl):=by
 intro pins s σ H R I h
 refine cG (z pins s σ H _ I h) fun v s1 ⟨x,H1,j,D,G⟩=>?_
 obtain⟨a,e,⟨xs,F⟩,q⟩:=G
 subst e
 cases D
 obtain⟨its,L,p,hz⟩:=j.tuple F
 refine wpAny_pyIter_tuple (show s1.heap.IsTuple a its.toArray from p) ?_
 refine⟨s1.heap.objs.size,[s1.heap.objs.size],_,_,H1,rfl,j.kept (t':=s1.toks) fun b o e=>Heap.get?_push_of_some _ e,z_ a _,⟨_,Heap.get?_push_size _ rfl,rfl,rfl⟩,fun b J=>?_,q⟩
 have e:b=s1.heap.objs.size:=by simpa using J
 subst e
 exact j.zB (f' _) (j.hok.fresh (f' _))
theorem Kc{pins:List (Addr×Obj)}{σ:St}{H:Hp}{s:Shared}{R:It→Hp→Prop}{E:Value→Shared→Prop}{lo hi:Int}{t u v:Tok}{tk:Nat}(I:Inv X pins σ H s)(h1:-(2 ^ 62)≤lo)(h2:lo<2 ^ 62)(z:-(2 ^ 62)≤hi)(D:hi<2 ^ 62)
  (q:R (Tq lo (hi-lo).toNat) H):wpAny (model X.prog X.w) X.A (pyIter (.ref s.heap.objs.size)) (PIE X pins σ tg R) E { s with heap:=s.heap.push { cls:=.type "range",data:=.fields #[.int lo t,.int hi u,.int 1 v] },toks:=tk }:=by
 refine wpAny_pyIter_range (IsRange.new ..) (small_one h1 h2 z D) ?_
 have j:Inv X pins σ H { s with heap:=s.heap.push { cls:=.type "range",data:=.fields #[.int lo t,.int hi u,.int 1 v] },toks:=tk }:=I.kept fun b o e=>Heap.get?_push_of_some _ e
 refine⟨(s.heap.push { cls:=.type "range",data:=.fields #[.int lo t,.int hi u,.int 1 v] }).objs.size,[(s.heap.push { cls:=.type "range",data:=.fields #[.int lo t,.int hi u,.int 1 v] }).objs.size],_,_,H,rfl,
  j.kept (t':=tk) fun b o e=>Heap.get?_push_of_some _ e,Aa _ lo (hi-lo).toNat,?_,fun b F=>?_,q⟩
 ·have e1:lo+((0:Nat):Int)*1=lo:=by simp
  have e2:(((hi-lo).toNat:Nat):Int)-((0:Nat):Int)=Builtin.Range.rangeSize lo hi 1:=by rw[rangeSize_one];split<;>omega
  show IsRangeIter _ _ (lo+((0:Nat):Int)*1) ((((hi-lo).toNat:Nat):Int)-((0:Nat):Int)) 1
  rw[e1,e2]
  exact Heap.get?_push_size _ rfl
 ·have e:b=(s.heap.push { cls:=.type "range",data:=.fields #[.int lo t,.int hi u,.int 1 v] }).objs.size:=by simpa using F
  subst e
  exact j.zB (f' _) (j.hok.fresh (f' _))
noncomputable def U6(ta:TA):TI:=fun σ H R=>ta σ H fun vs H1=>∃i j:Int,vs=[.int i,.int j]∧(-(2 ^ 62)≤i∧i<2 ^ 62∧-(2 ^ 62)≤j∧j<2 ^ 62)∧R (Tq i (j-i).toNat) H1
theorem Gr{a b:Expr}{ta:TA}{p pos:Pos}(L:Gl X "range")(J:X.mg "range"=none)(O:PA X [a,b] ta)(G:starEach [a,b] X.env=[(false,eval a X.env),(false,eval b X.env)]:=by rfl)(z:starEach [b] X.env=[(false,eval b X.env)]:=by rfl) :
  PI X tg (.Call (.Name "range" p) [a,b] [] pos) (U6 ta):=by
 intro pins s σ H R I h
 refine Call_ (qe I L J boot_range (PyProof.Rows.callWith_type1 (cG (O pos pins s σ H _ I h) fun us s1 ⟨vs,H1,Y,Z,F⟩=>?_) (by rw[G,z]) (by rw[z];rfl)))
 obtain⟨i,j,e,⟨F,U,S,q4⟩,q⟩:=F
 subst e
 cases Z with
 | cons r D =>
  cases D with
  | cons r' D =>
   cases D
   obtain⟨t,rfl⟩:=r
   obtain⟨t',rfl⟩:=r'
   exact call_range_2 (Kc Y F U S q4 q)
noncomputable def VF(z:TI)(g:TG)(tb:TS):TS:=fun D σ H=>z σ H fun J H1=>∃W:Nat→Nat→St→Hp→Prop,(∃m,W 0 m σ H1)∧∀i m σ H,W i m σ H →
 (J.stop i H∧D.nx σ H)∨(J.go i H∧∃N:St→Hp→Prop,(∀σ' H',N σ' H'→∃j,j<m∧W (i+1) j σ' H')∧∀x H',J.yld i H x H'→g x σ H' fun σ2 H2=>tb { D with nx:=N,ct:=N,bk:=D.nx } σ2 H2)
noncomputable def pY(fp:List Addr)(h:Heap):List (Addr×Obj):=fp.filterMap fun b=>(h.get? b).map fun o=>(b,o)
theorem jl{fp:List Addr}{h:Heap}{b:Addr}{o:Obj}(j:b∈fp)(e:h.get? b=some o):(b,o)∈pY fp h:=List.mem_filterMap.mpr ⟨b,j,by rw[e];rfl⟩
theorem GZ{fp:List Addr}{h:Heap}{p:Addr×Obj}(j:p∈pY fp h):p.1∈fp∧h.get? p.1=some p.2:=by
 obtain⟨b,z,e⟩:=List.mem_filterMap.mp j
 cases q:h.get? b with
 | none=>rw[q]at e;cases e
 | some o =>
  rw[q]at e
  have D:(b,o)=p:=Option.some.inj e
  subst D
  exact⟨z,q⟩
theorem Inv.pinned{pins:List (Addr×Obj)}{σ:St}{H:Hp}{s:Shared}{fp:List Addr}(I:Inv X pins σ H s)(F:∀b∈fp,mZ X pins H b)(J:∀b∈fp,∃o,s.heap.get? b=some o∧∀v,o.data≠.cell v):Inv X (pins++pY fp s.heap) σ H s :=
 I.xn fun p G=>(List.mem_append.mp G).elim (fun z=>I.pin p (List.mem_append_right _ z)) fun z=>by
  obtain⟨j,e⟩:=GZ z
  obtain⟨L,f1,f2,_⟩:=F p.1 j
  obtain⟨o,D,d⟩:=J p.1 j
  rw[e]at D;cases D
  exact⟨e,L,f1,f2,d⟩
theorem Inv.jM{pins pl:List (Addr×Obj)}{σ:St}{H:Hp}{s:Shared}(I:Inv X (pins++pl) σ H s):Inv X pins σ H s:=I.xn fun p j=>I.pin p (List.mem_append_right _ (List.mem_append_left _ j))
theorem uq{iter:Expr}{body:List Stmt}{wi:TI}{g:TG}{tb:TS}{pos:Pos}(Y:PassesOwn (model X.prog X.w) X.A X.env X.xe)(hc:X.calm=true)(hi:PI X tg iter wi)(hg:PG X tg g)(j:zX X body tb)
  (hs:∀x,foldedSetIterable iter X.env x=pure x:=by intro _;rfl):PS X (.For tg iter body [] pos) (VF wi g tb):=by
 intro pins s σ H D I h
 refine wpAny_For (cG (hi pins s σ H _ I h) fun v s1 h1=>cG h1 fun af s2 h2=>?_) hs
 obtain⟨it,fp,tn,J,H2,e,I2,T,aa,f2,W,⟨m0,w0⟩,turn⟩:=h2
 subst e
 have F:∀{H':Hp},(∀b∈fp,H' b=none)→∀b∈fp,mZ X pins H' b:=fun hn b j=>⟨hn b j,(f2 b j).2⟩
 refine codeAny_forLoop_any (fun n s'=>∃i σ' H',Inv X pins σ' H' s'∧tn i s'.heap∧(∀b∈fp,H' b=none)∧W i n σ' H') ?_ m0 ⟨0,σ,H2,I2,aa,fun b j=>(f2 b j).1,w0⟩
 rintro n s3 ⟨i,σ3,H3,I3,U,S,w3⟩
 rcases turn i n σ3 H3 w3 with⟨stop,qn⟩ | ⟨go,N,hN,step⟩
 ·refine wpAny_passesOwn Y (cG (T.done X rfl rfl rfl hc i pins s3 σ3 H3 X.xe I3 (F S) U stop) fun r s4 ⟨hr,I4⟩=>?_)
  subst hr
  exact wpAny_execs_nil ⟨σ3,H3,I4,qn⟩
 ·refine wpAny_passesOwn Y (cG (T.item X rfl rfl rfl hc i pins s3 σ3 H3 X.xe I3 (F S) U go) fun r s4 ⟨u,hr,h4⟩=>?_)
  subst hr
  refine wpAny_passesOwn Y (cG h4 fun _ s5 hz=>?_)
  obtain⟨x,H5,I5,r5,y5,O,ac⟩:=hz
  have ae:=I5.pinned (F ac) (T.obj _ _ O)
  refine wpAny_passesOwn Y (cG (hg _ s5 σ3 H5 x u _ ae r5 (step x H5 y5)) fun _ s6 ⟨σ6,H6,I6,q6⟩=>?_)
  refine wpAny_passesOwn Y (cG (j _ s6 σ6 H6 _ I6 q6) fun f s7 L=>?_)
  have again:∀{σ7:St}{G:Hp},Inv X (pins++pY fp s5.heap) σ7 G s7→N σ7 G→∃m,m<n∧∃i σ' H',Inv X pins σ' H' s7∧tn i s7.heap∧(∀b∈fp,H' b=none)∧W i m σ' H':=fun{σ7 G} z Z=>by
   obtain⟨m',hm,w7⟩:=hN σ7 G Z
   refine⟨m',hm,i+1,σ7,G,z.jM,T.keep _ _ _ O fun b j o e=>(z.pin (b,o) (List.mem_append_right _ (List.mem_append_right _ (jl j e)))).1,fun b j=>?_,w7⟩
   obtain⟨o,e,d⟩:=T.obj _ _ O b j
   exact(z.pin (b,o) (List.mem_append_right _ (List.mem_append_right _ (jl j e)))).2.1
  cases f with
  | next=>obtain⟨σ7,G,z,Z⟩:=L;exact again z Z
  | cont=>obtain⟨σ7,G,z,Z⟩:=L;exact again z Z
  | brk=>obtain⟨σ7,G,z,L⟩:=L;exact⟨σ7,G,z.jM,L⟩
  | ret v=>obtain⟨x7,σ7,G,z,r7,L⟩:=L;exact⟨x7,σ7,G,z.jM,r7,L⟩
end
theorem Mi{K:PySem.W.Frag}{a:Addr}{xs:List V}{g:TG}{tb:TS}{D:Ends}{σ:St}{H:Hp}(Pv:Nat→St→Hp→Prop)(h0:Pv 0 σ H)(J:∀i σ H,i≤xs.length→Pv i σ H→bV K H a xs)
  (F:∀i x σ H,xs[i]?=some x→Pv i σ H→g x σ H fun σ2 H2=>tb { D with nx:=Pv (i+1),ct:=Pv (i+1),bk:=D.nx } σ2 H2) (hd:∀σ H,Pv xs.length σ H→D.nx σ H) :
  ∃W:Nat→Nat→St→Hp→Prop,(∃m,W 0 m σ H)∧∀i m σ H,W i m σ H →
   ((QV K a).stop i H∧D.nx σ H)∨((QV K a).go i H∧∃N:St→Hp→Prop,(∀σ' H',N σ' H'→∃z,z<m∧W (i+1) z σ' H')∧∀x H',(QV K a).yld i H x H'→g x σ H' fun σ2 H2=>tb { D with nx:=N,ct:=N,bk:=D.nx } σ2 H2):=by
 refine⟨fun i m σ H=>m=xs.length-i∧i≤xs.length∧Pv i σ H,⟨xs.length,by simp,Nat.zero_le _,h0⟩,?_⟩
 rintro i m σ H ⟨rfl,hi,p⟩
 have q:=J i σ H hi p
 by_cases j:i<xs.length
 ·refine .inr ⟨⟨xs,xs[i],q,by simp[j]⟩,Pv (i+1),fun σ' H' G=>⟨xs.length-(i+1),by omega,rfl,j,G⟩,fun x H' y=>?_⟩
  obtain⟨e,y⟩:=y
  subst e
  exact F i x σ _ (y xs q) p
 ·have e:i=xs.length:=by omega
  subst e
  exact .inl ⟨⟨xs,q,f' _⟩,hd σ H p⟩
theorem El{K:PySem.W.Frag}{a:Addr}{xs:List V}{g:TG}{tb:TS}{D:Ends}{σ:St}{H:Hp}(Pv:Nat→St→Hp→Prop)(h0:Pv 0 σ H)(J:∀i σ H,i≤xs.length→Pv i σ H→cR K H a xs)
  (F:∀i x σ H,xs[i]?=some x→Pv i σ H→g x σ H fun σ2 H2=>tb { D with nx:=Pv (i+1),ct:=Pv (i+1),bk:=D.nx } σ2 H2) (hd:∀σ H,Pv xs.length σ H→D.nx σ H) :
  ∃W:Nat→Nat→St→Hp→Prop,(∃m,W 0 m σ H)∧∀i m σ H,W i m σ H →
   ((Vk K a).stop i H∧D.nx σ H)∨((Vk K a).go i H∧∃N:St→Hp→Prop,(∀σ' H',N σ' H'→∃z,z<m∧W (i+1) z σ' H')∧∀x H',(Vk K a).yld i H x H'→g x σ H' fun σ2 H2=>tb { D with nx:=N,ct:=N,bk:=D.nx } σ2 H2):=by
 refine⟨fun i m σ H=>m=xs.length-i∧i≤xs.length∧Pv i σ H,⟨xs.length,by simp,Nat.zero_le _,h0⟩,?_⟩
 rintro i m σ H ⟨rfl,hi,p⟩
 have q:=J i σ H hi p
 by_cases j:i<xs.length
 ·refine .inr ⟨⟨xs,xs[i],q,by simp[j]⟩,Pv (i+1),fun σ' H' G=>⟨xs.length-(i+1),by omega,rfl,j,G⟩,fun x H' y=>?_⟩
  obtain⟨e,y⟩:=y
  subst e
  exact F i x σ _ (y xs q) p
 ·have e:i=xs.length:=by omega
  subst e
  exact .inl ⟨⟨xs,q,f' _⟩,hd σ H p⟩
theorem Hj{lo:Int}{n:Nat}{g:TG}{tb:TS}{D:Ends}{σ:St}{H:Hp}(Pv:Nat→St→Hp→Prop)(h0:Pv 0 σ H)
  (F:∀i σ H,i<n→Pv i σ H→g (.int (lo+i)) σ H fun σ2 H2=>tb { D with nx:=Pv (i+1),ct:=Pv (i+1),bk:=D.nx } σ2 H2) (hd:∀σ H,Pv n σ H→D.nx σ H) :
  ∃W:Nat→Nat→St→Hp→Prop,(∃m,W 0 m σ H)∧∀i m σ H,W i m σ H →
   ((Tq lo n).stop i H∧D.nx σ H)∨((Tq lo n).go i H∧∃N:St→Hp→Prop,(∀σ' H',N σ' H'→∃z,z<m∧W (i+1) z σ' H')∧∀x H',(Tq lo n).yld i H x H'→g x σ H' fun σ2 H2=>tb { D with nx:=N,ct:=N,bk:=D.nx } σ2 H2):=by
 refine⟨fun i m σ H=>m=n-i∧i≤n∧Pv i σ H,⟨n,by simp,Nat.zero_le _,h0⟩,?_⟩
 rintro i m σ H ⟨rfl,hi,p⟩
 by_cases j:i<n
 ·refine .inr ⟨j,Pv (i+1),fun σ' H' G=>⟨n-(i+1),by omega,rfl,j,G⟩,fun x H' y=>?_⟩
  obtain⟨e,y⟩:=y
  subst e y
  exact F i σ _ j p
 ·have e:i=n:=by omega
  subst e
  exact .inl ⟨f' _,hd σ H p⟩
end L2
namespace L2
open PySem PySem.Spec PyProof.Rows
noncomputable abbrev R2:=V→V→Hp→VK→Prop
noncomputable def oA(X:Cx)(f:Value→Value→Sem Value)(r:R2):Prop :=
 ∀(pins:List (Addr×Obj))(s:Shared)(σ:St)(H:Hp)(x y:V)(v u:Value)(Q:VK),Inv X pins σ H s→RelV x v→RelV y u→r x y H Q →
  wpAny (model X.prog X.w) X.A (f v u) (EP X pins σ Q) X.xe s
noncomputable def Wm(X:Cx)(f:Value→Sem Value)(r:V→Hp→VK→Prop):Prop :=
 ∀(pins:List (Addr×Obj))(s:Shared)(σ:St)(H:Hp)(x:V)(v:Value)(Q:VK),Inv X pins σ H s→RelV x v→r x H Q →
  wpAny (model X.prog X.w) X.A (f v) (EP X pins σ Q) X.xe s
noncomputable def nu(X:Cx)(f:Value)(r:List V→Hp→VK→Prop):Prop :=
 ∀(pins:List (Addr×Obj))(s:Shared)(σ:St)(H:Hp)(xs:List V)(us:List Value)(Q:VK),Inv X pins σ H s→Vals xs us→r xs H Q →
  wpAny (model X.prog X.w) X.A (call f us) (EP X pins σ Q) X.xe s
noncomputable def Wn(X:Cx)(r:V→Hp→(Bool→Hp→Prop)→Prop):Prop :=
 ∀(pins:List (Addr×Obj))(s:Shared)(σ:St)(H:Hp)(x:V)(v:Value)(Q:Bool→Hp→Prop),Inv X pins σ H s→RelV x v→r x H Q →
  wpAny (model X.prog X.w) X.A (truthy v) (TP X pins σ Q) X.xe s
noncomputable def Iv(r:R2)(ta tb:TE):TE:=fun σ H Q=>ta σ H fun x H1=>tb σ H1 fun y H2=>r x y H2 Q
noncomputable def WD(r:V→Hp→VK→Prop)(ta:TE):TE:=fun σ H Q=>ta σ H fun x H1=>r x H1 Q
noncomputable def rI(C:Int→Int→Prop)(g:Int→Int→V):R2:=fun x y H Q=>∃i j,x=.int i∧y=.int j∧C i j∧Q (g i j) H
noncomputable def Bd(g:Int→Int→V):R2:=fun x y H Q=>∃i j,x=.int i∧y=.int j∧Q (g i j) H
noncomputable def rU(g:Int→V):V→Hp→VK→Prop:=fun x H Q=>∃i,x=.int i∧Q (g i) H
section
variable {X:Cx} {a b c:Expr} {ta tb tc:TE} {pos:Pos}
theorem SM(z:PE X a ta)(O:PE X b tb){pins:List (Addr×Obj)}{s:Shared}{σ:St}{H:Hp}{R:V→V→Hp→Prop}(I:Inv X pins σ H s)
  (h:ta σ H fun x H1=>tb σ H1 fun y H2=>R x y H2) {Q:Value→Shared→Prop} {f:Value→Value→Sem Value}
  (j:∀v u s2 x y H2,Inv X pins σ H2 s2→RelV x v→RelV y u→R x y H2→wpAny (model X.prog X.w) X.A (f v u) Q X.xe s2) :
  wpAny (model X.prog X.w) X.A (eval a X.env) (fun v s₁=>wpAny (model X.prog X.w) X.A (eval b X.env) (fun u s₂=>wpAny (model X.prog X.w) X.A (f v u) Q X.xe s₂) X.xe s₁) X.xe s:=by
 refine cG (z pins s σ H _ I h) fun v s1 ⟨x,H1,F,G,J⟩=>?_
 refine cG (O pins s1 σ H1 _ F J) fun u s2 ⟨y,H2,L,S,D⟩=>?_
 exact j v u s2 x y H2 L G S D
theorem dM{op:Operator}{r:R2}(D:oA X (binaryOp op) r)(z:PE X a ta)(G:PE X b tb):PE X (.BinOp a op b pos) (Iv r ta tb):=by
 intro pins s σ H Q I h
 exact wpAny_BinOp (SM z G I h fun v u s2 x y H2 F J j q=>D pins s2 σ H2 x y v u Q F J j q)
theorem eN{op:UnaryOp}{r:V→Hp→VK→Prop}(F:Wm X (unaryOp op) r)(G:PE X a ta):PE X (.UnaryOp op a pos) (WD r ta):=by
 intro pins s σ H Q I h
 exact UnaryOp_ (cG (G pins s σ H _ I h) fun v s1 ⟨x,H1,j,z,D⟩=>F pins s1 σ H1 x v Q j z D)
theorem V9{f:Value→Value→Sem Value}{C:Int→Int→Prop}{g:Int→Int→Int}
  (rule:∀(i j:Int)(t u:Tok)(s:Shared)(Q:Value→Shared→Prop)(E:Value→Shared→Prop),C i j→Q (.int (g i j) s.toks) { s with toks:=s.toks+1 }→wpAny (model X.prog X.w) X.A (f (.int i t) (.int j u)) Q E s) :
  oA X f (rI C fun i j=>.int (g i j)):=by
 intro pins s σ H x y v u Q I F z h
 obtain⟨i,j,rfl,rfl,D,q⟩:=h
 obtain⟨t,rfl⟩:=F
 obtain⟨t',rfl⟩:=z
 exact rule i j t t' s _ _ D ⟨.int (g i j),H,I.tok _,⟨_,rfl⟩,q⟩
theorem Us{f:Value→Value→Sem Value}{g:Int→Int→Int}
  (rule:∀(i j:Int)(t u:Tok)(s:Shared)(Q:Value→Shared→Prop)(E:Value→Shared→Prop),Q (.int (g i j) s.toks) { s with toks:=s.toks+1 }→wpAny (model X.prog X.w) X.A (f (.int i t) (.int j u)) Q E s) :
  oA X f (Bd fun i j=>.int (g i j)):=by
 intro pins s σ H x y v u Q I D z h
 obtain⟨i,j,rfl,rfl,q⟩:=h
 obtain⟨t,rfl⟩:=D
 obtain⟨t',rfl⟩:=z
 exact rule i j t t' s _ _ ⟨.int (g i j),H,I.tok _,⟨_,rfl⟩,q⟩
theorem Oj{f:Value→Value→Sem Value}{g:Int→Int→Bool}
  (rule:∀(i j:Int)(t u:Tok)(s:Shared)(Q:Value→Shared→Prop)(E:Value→Shared→Prop),Q (.bool (g i j)) s→wpAny (model X.prog X.w) X.A (f (.int i t) (.int j u)) Q E s) :
  oA X f (Bd fun i j=>.bl (g i j)):=by
 intro pins s σ H x y v u Q I D z h
 obtain⟨i,j,rfl,rfl,q⟩:=h
 obtain⟨t,rfl⟩:=D
 obtain⟨t',rfl⟩:=z
 exact rule i j t t' s _ _ ⟨.bl (g i j),H,I,rfl,q⟩
noncomputable def Te(i j:Int):Prop:=(-(2 ^ 64)<i∧i<2 ^ 64)∨(-(2 ^ 64)<j∧j<2 ^ 64)
theorem Te.ok{i j:Int}(h:Te i j):IntMulOk i j:=by
 rcases h with⟨h1,h2⟩ | ⟨h1,h2⟩
 ·exact .of_left (intBits_le_64 h1 h2)
 ·exact .of_right (intBits_le_64 h1 h2)
theorem pZ:oA X (binaryOp .Add) (Bd fun i j=>.int (i+j)):=Us fun _ _ _ _ _ _ _ q=>add_int q
theorem uA:oA X (binaryOp .Sub) (Bd fun i j=>.int (i-j)):=Us fun _ _ _ _ _ _ _ q=>sub_int q
theorem KY:oA X (binaryOp .Mult) (rI Te fun i j=>.int (i*j)):=V9 fun _ _ _ _ _ _ _ z q=>mul_int q z.ok
theorem RJ:oA X (binaryOp .Mod) (rI (fun _ j=>0<j) fun i j=>.int (i % j)):=V9 fun i j _ _ _ _ _ z q=>by
 have h1:(0:Int)<j:=z
 exact mod_int' (by omega) (by rw[Int.fmod_eq_emod_of_nonneg i (by omega)];exact q)
theorem Wz{f:Value→Sem Value}{g:Int→Int}
  (rule:∀(i:Int)(t:Tok)(s:Shared)(Q:Value→Shared→Prop)(E:Value→Shared→Prop),Q (.int (g i) s.toks) { s with toks:=s.toks+1 }→wpAny (model X.prog X.w) X.A (f (.int i t)) Q E s) :
  Wm X f (rU fun i=>.int (g i)):=by
 intro pins s σ H x v Q I j h
 obtain⟨i,rfl,q⟩:=h
 obtain⟨t,rfl⟩:=j
 exact rule i t s _ _ ⟨.int (g i),H,I.tok _,⟨_,rfl⟩,q⟩
theorem cV:Wm X (unaryOp .USub) (rU fun i=>.int (-i)):=Wz fun _ _ _ _ _ q=>neg_int q
end
noncomputable def Az:V→V→Bool
 | .non,.non=>true | .non,.int _=>true | .int _,.non=>true | .non,.bl _=>true | .bl _,.non=>true | .non,.str _=>true | .str _,.non=>true
 | .int _,.int _=>true | .bl _,.bl _=>true | .str _,.str _=>true | .byt _,.byt _=>true
 | .int _,.str _=>true | .str _,.int _=>true | .bl _,.str _=>true | .str _,.bl _=>true
 | _,_=>false
noncomputable def Uq:R2:=fun x y H Q=>Az x y=true∧Q (.bl (decide (x=y))) H
noncomputable def Um:R2:=fun x y H Q=>Az x y=true∧Q (.bl (!decide (x=y))) H
theorem Et{i j:Int}:decide (V.int i=V.int j)=(i==j):=by
 rw[iX]
 simp
theorem Mr{i j:Bool}:decide (V.bl i=V.bl j)=(i==j):=by
 rw[iX]
 simp
theorem Es{i j:Str}:decide (V.str i=V.str j)=(i==j):=by
 rw[iX]
 simp
theorem Eu{i j:Array UInt8}:decide (V.byt i=V.byt j)=(i.toList==j.toList):=by
 rw[iX]
 cases i
 cases j
 simp
section
variable {X:Cx} {a b c:Expr} {ta tb tc:TE} {pos:Pos}
theorem bL{pins:List (Addr×Obj)}{σ:St}{H:Hp}{s:Shared}{Q:VK}{k k':Bool}(I:Inv X pins σ H s)(q:Q (.bl k) H)(e:k=k'):EP X pins σ Q (.bool k') s:=by
 subst e
 exact⟨.bl k,H,I,rfl,q⟩
theorem cz:oA X (compareOp .Eq) Uq:=by
 intro pins s σ H x y v u Q I F z h
 obtain⟨D,q⟩:=h
 cases x with
 | non =>
  cases F
  cases y with
  | non=>cases z;exact PySem.EqNone.eq_none_none (bL I q (by simp))
  | bl j=>cases z;exact PySem.EqNone.eq_none_bool (bL I q (by simp))
  | int j=>obtain⟨t',rfl⟩:=z;exact PySem.EqNone.eq_none_int (bL I q (by simp))
  | str j=>obtain⟨t',rfl⟩:=z;exact PySem.EqNone.eq_none_str (bL I q (by simp))
  | _=>exact absurd (show false=true from D) io
 | bl i =>
  cases F
  cases y with
  | non=>cases z;exact PySem.EqNone.eq_bool_none (bL I q (by simp))
  | bl j=>cases z;exact eq_bool (bL I q Mr)
  | str j=>obtain⟨t',rfl⟩:=z;exact PySem.EqMixed.eq_bool_str (bL I q (by simp))
  | _=>exact absurd (show false=true from D) io
 | int i =>
  obtain⟨t,rfl⟩:=F
  cases y with
  | non=>cases z;exact PySem.EqNone.eq_int_none (bL I q (by simp))
  | int j=>obtain⟨t',rfl⟩:=z;exact eq_int (bL I q Et)
  | str j=>obtain⟨t',rfl⟩:=z;exact PySem.EqMixed.eq_int_str (bL I q (by simp))
  | _=>exact absurd (show false=true from D) io
 | str i =>
  obtain⟨t,rfl⟩:=F
  cases y with
  | non=>cases z;exact PySem.EqNone.eq_str_none (bL I q (by simp))
  | bl j=>cases z;exact PySem.EqMixed.eq_str_bool (bL I q (by simp))
  | int j=>obtain⟨t',rfl⟩:=z;exact PySem.EqMixed.eq_str_int (bL I q (by simp))
  | str j=>obtain⟨t',rfl⟩:=z;exact eq_str (bL I q Es)
  | _=>exact absurd (show false=true from D) io
 | byt i =>
  obtain⟨t,rfl⟩:=F
  cases y with
  | byt j=>obtain⟨t',rfl⟩:=z;exact PySem.W.eq_bytes (bL I q Eu)
  | _=>exact absurd (show false=true from D) io
 | _=>cases y<;>exact absurd (show false=true from D) io
theorem vL:oA X (compareOp .NotEq) Um:=by
 intro pins s σ H x y v u Q I F z h
 obtain⟨D,q⟩:=h
 cases x with
 | non =>
  cases F
  cases y with
  | non=>cases z;exact PySem.EqNone.ne_none_none (bL I q (by simp))
  | bl j=>cases z;exact PySem.EqNone.ne_none_bool (bL I q (by simp))
  | int j=>obtain⟨t',rfl⟩:=z;exact PySem.EqNone.ne_none_int (bL I q (by simp))
  | str j=>obtain⟨t',rfl⟩:=z;exact PySem.EqNone.ne_none_str (bL I q (by simp))
  | _=>exact absurd (show false=true from D) io
 | bl i =>
  cases F
  cases y with
  | non=>cases z;exact PySem.EqNone.ne_bool_none (bL I q (by simp))
  | bl j=>cases z;exact ne_bool (bL I q (congrArg not Mr))
  | str j=>obtain⟨t',rfl⟩:=z;exact PySem.EqMixed.ne_bool_str (bL I q (by simp))
  | _=>exact absurd (show false=true from D) io
 | int i =>
  obtain⟨t,rfl⟩:=F
  cases y with
  | non=>cases z;exact PySem.EqNone.ne_int_none (bL I q (by simp))
  | int j=>obtain⟨t',rfl⟩:=z;exact ne_int (bL I q (congrArg not Et))
  | str j=>obtain⟨t',rfl⟩:=z;exact PySem.EqMixed.ne_int_str (bL I q (by simp))
  | _=>exact absurd (show false=true from D) io
 | str i =>
  obtain⟨t,rfl⟩:=F
  cases y with
  | non=>cases z;exact PySem.EqNone.ne_str_none (bL I q (by simp))
  | bl j=>cases z;exact PySem.EqMixed.ne_str_bool (bL I q (by simp))
  | int j=>obtain⟨t',rfl⟩:=z;exact PySem.EqMixed.ne_str_int (bL I q (by simp))
  | str j=>obtain⟨t',rfl⟩:=z;exact ne_str (bL I q (congrArg not Es))
  | _=>exact absurd (show false=true from D) io
 | byt i =>
  obtain⟨t,rfl⟩:=F
  cases y with
  | byt j=>obtain⟨t',rfl⟩:=z;exact PySem.W.ne_bytes (bL I q (congrArg not Eu))
  | _=>exact absurd (show false=true from D) io
 | _=>cases y<;>exact absurd (show false=true from D) io
theorem Eb:oA X (compareOp .Lt) (Bd fun i j=>.bl (decide (i<j))):=Oj fun _ _ _ _ _ _ _ q=>lt_int q
theorem nj:oA X (compareOp .LtE) (Bd fun i j=>.bl (decide (i≤j))):=Oj fun _ _ _ _ _ _ _ q=>le_int q
theorem qF:oA X (compareOp .Gt) (Bd fun i j=>.bl (decide (j<i))):=Oj fun _ _ _ _ _ _ _ q=>gt_int q
theorem qG:oA X (compareOp .GtE) (Bd fun i j=>.bl (decide (j≤i))):=Oj fun _ _ _ _ _ _ _ q=>ge_int q
theorem aL(b:Expr){op:CmpOp}(h:op≠.In:=by decide)(h2:op≠.NotIn:=by decide):behindInMarks op b=false:=by
 have e1:(op==CmpOp.In)=false:=by cases op<;>first | rfl | exact absurd rfl h
 have e2:(op==CmpOp.NotIn)=false:=by cases op<;>first | rfl | exact absurd rfl h2
 cases b<;>simp[behindInMarks,e1,e2]
theorem sS{op:CmpOp}{r:R2}(F:oA X (compareOp op) r)(D:PE X a ta)(J:PE X b tb)(z:behindInMarks op b=false):PE X (.Compare a [op] [b] pos) (Iv r ta tb):=by
 intro pins s σ H Q I h
 exact wpAny_Compare1 (SM D J I h fun v u s2 x y H2 G L j q=>F pins s2 σ H2 x y v u Q G L j q) z
noncomputable def vD(t:TE):TT:=fun σ H Q=>t σ H fun x H'=>∃k,x=.bl k∧Q k H'
theorem aG{op:CmpOp}{r:R2}(U:oA X (compareOp op) r)(F:PE X a ta)(hb:PE X b tb)(D:behindInMarks op b=false):PT X (.Compare a [op] [b] pos) (vD (Iv r ta tb)):=by
 intro pins s σ H Q I h
 refine wpAny_isTrue_Compare1 (cG (F pins s σ H _ I h) fun v s1 ⟨x,H1,O,S,Z⟩=>cG (hb pins s1 σ H1 _ O Z) fun u s2 ⟨y,H2,Y,r2,L⟩ =>
  cG (U pins s2 σ H2 x y v u _ Y S r2 L) fun c s3 ⟨z,j,I3,G,k,e,J⟩=>?_) D
 subst e
 cases G
 exact wpAny_truthy_bool ⟨j,I3,J⟩
noncomputable def Ae(r G:R2)(ta tb tc:TE):TE:=fun σ H Q=>ta σ H fun x H1=>tb σ H1 fun y H2=>r x y H2 fun z j=>∃k,z=.bl k ∧
 (if k=true then tc σ j fun D F=>G y D F Q else Q (.bl false) j)
theorem ux{op j:CmpOp}{r J:R2}(ho:oA X (compareOp op) r)(D:oA X (compareOp j) J)(Y:PE X a ta)(hb:PE X b tb)(hc:PE X c tc)
  (U:lastMarks [op,j] [b,c]=false:=by with_unfolding_all rfl):PE X (.Compare a [op,j] [b,c] pos) (Ae r J ta tb tc):=by
 intro pins s σ H Q I h
 refine Compare_chain (cG (Y pins s σ H _ I h) fun v s1 ⟨x,H1,I1,r1,q1⟩=>chain_link (cG (hb pins s1 σ H1 _ I1 q1) fun u s2 ⟨y,H2,I2,L,q2⟩ =>
  cG (ho pins s2 σ H2 x y v u _ I2 r1 L q2) fun d s3 ⟨z,F,O,Z,k,e,G⟩=>?_)) U
 subst e
 cases Z
 refine wpAny_truthy_bool ?_
 cases k with
 | false=>exact ite_ff ⟨.bl false,F,O,rfl,G⟩
 | true=>exact ite_tt (chain_last (cG (hc pins s3 σ F _ O G) fun w' s4 ⟨S,H4,I4,r4,q4⟩=>D pins s4 σ H4 y S u w' Q I4 L r4 q4))
theorem Kg{op j:CmpOp}{r J:R2}(ho:oA X (compareOp op) r)(D:oA X (compareOp j) J)(Z:PE X a ta)(hb:PE X b tb)(hc:PE X c tc)
  (Y:lastMarks [op,j] [b,c]=false:=by with_unfolding_all rfl):PT X (.Compare a [op,j] [b,c] pos) (vD (Ae r J ta tb tc)):=by
 intro pins s σ H Q I h
 refine isTrue_chain (cG (Z pins s σ H _ I h) fun v s1 ⟨x,H1,I1,r1,q1⟩=>test_link (cG (hb pins s1 σ H1 _ I1 q1) fun u s2 ⟨y,H2,I2,L,q2⟩ =>
  cG (ho pins s2 σ H2 x y v u _ I2 r1 L q2) fun d s3 ⟨z,F,O,r3,k,e,G⟩=>?_)) Y
 subst e
 cases r3
 refine wpAny_truthy_bool ?_
 cases k with
 | false =>
  obtain⟨k',e',q'⟩:=G
  cases e'
  exact ite_ff ⟨F,O,q'⟩
 | true =>
  refine ite_tt (test_last (cG (hc pins s3 σ F _ O G) fun w' s4 ⟨S,H4,I4,r4,q4⟩=>cG (D pins s4 σ H4 y S u w' _ I4 L r4 q4) fun d' s5 hz=>?_))
  obtain⟨z2,H5,I5,U,k2,e2,q5⟩:=hz
  subst e2
  cases U
  exact wpAny_truthy_bool ⟨H5,I5,q5⟩
noncomputable def Vf(K:PySem.W.Frag)(x:V)(H:Hp)(k:Bool):Prop :=
 match x with
 | .non=>k=false
 | .bl b=>k=b
 | .int i=>k=(i != 0)
 | .str y=>y.length≤sizeLine∧k=((y.length:Int) != 0)
 | .byt y=>y.size≤sizeLine∧k=((y.size:Int) != 0)
 | .ref p=>(∃xs,bV K H p xs∧k=!xs.isEmpty)∨(∃xs,cR K H p xs∧k=!xs.isEmpty)∨∃kvs,H p=some (.dK kvs)∧k=!kvs.isEmpty
 | _=>False
theorem BV{κ:Type}{kvs:List (κ×V)}{vs:List (κ×Value)}(r:KV kvs vs):(!vs.isEmpty)=!kvs.isEmpty:=by
 cases r<;>rfl
theorem uH{xs:List V}{its:List Value}(r:Vals xs its):(!its.toArray.isEmpty)=!xs.isEmpty:=by
 cases r<;>simp
theorem qd:(sizeLine:Nat)<2 ^ 63:=by rw[sizeLine_eq];decide
theorem Q4:Wn X (fun x H Q=>∃k,Vf X.K x H k∧Q k H):=by
 intro pins s σ H x v Q I D h
 obtain⟨k,e,q⟩:=h
 have L:=qd
 have J:sizeLine=16777216:=sizeLine_eq
 cases x with
 | non =>
  cases D
  have j:k=false:=e
  subst j
  exact truthy_none ⟨H,I,q⟩
 | bl b =>
  cases D
  have j:k=b:=e
  subst j
  exact wpAny_truthy_bool ⟨H,I,q⟩
 | int i =>
  obtain⟨t,rfl⟩:=D
  have j:k=(i != 0):=e
  subst j
  exact PySem.P.truthy_int ⟨H,I,q⟩
 | str y =>
  obtain⟨t,rfl⟩:=D
  obtain⟨F,j⟩:y.length≤sizeLine∧k=((y.length:Int) != 0):=e
  subst j
  exact PySem.P.truthy_str (by omega) ⟨H,I.tok _,q⟩
 | byt y =>
  obtain⟨t,rfl⟩:=D
  obtain⟨F,j⟩:y.size≤sizeLine∧k=((y.size:Int) != 0):=e
  subst j
  exact PySem.W.truthy_bytes (by omega) ⟨H,I.tok _,q⟩
 | ref p =>
  cases D
  have j:(∃xs,bV X.K H p xs∧k=!xs.isEmpty)∨(∃xs,cR X.K H p xs∧k=!xs.isEmpty)∨∃kvs,H p=some (.dK kvs)∧k=!kvs.isEmpty:=e
  rcases j with⟨xs,hx,j⟩ | ⟨xs,hx,j⟩ | ⟨kvs,hx,j⟩
  ·subst j
   obtain⟨its,r,pl,hz⟩:=I.list hx
   have z:=r.length
   exact wpAny_truthy_list pl.isList (by simp only[ia];omega) ⟨H,I.tok _,by rw[uH r];exact q⟩
  ·subst j
   obtain⟨its,r,pl,hz⟩:=I.tuple hx
   have z:=r.length
   exact truthy_tuple pl (by simp only[ia];omega) ⟨H,I.tok _,by rw[uH r];exact q⟩
  ·subst j
   obtain⟨hz,G,vs,r,m⟩:kvs.length≤sizeLine∧(p==sysModules)=false∧∃vs,KV kvs vs∧s.heap.DictOf (cJ X.prog X.w) p vs:=I.hok p _ hx
   have z:kvs.length=vs.length:=Paired.length r
   exact wpAny_truthy_dict G m (by omega) ⟨H,I.tok _,by rw[BV r];exact q⟩
 | _=>exact(show False from e).elim
theorem gw(j:PE X a ta)(G:∀whole,isTrue a X.env whole=(do let v ←whole;standAt a.pos;holding [v] (truthy v))) :
  PT X a (fun σ H Q=>ta σ H fun x H'=>∃k,Vf X.K x H' k∧Q k H'):=by
 intro pins s σ H Q I h
 exact isTrue_plain (cG (j pins s σ H _ I h) fun v s1 ⟨x,H1,z,D,F⟩=>Q4 pins s1 σ H1 x v Q z D F) (G _)
theorem uB:oA X (binaryOp .Add) (fun x y H Q=>∃i j,x=.str i∧y=.str j∧i.length+j.length≤sizeLine∧Q (.str (i++j)) H):=by
 intro pins s σ H x y v u Q I D z h
 obtain⟨i,j,rfl,rfl,hz,q⟩:=h
 obtain⟨t,rfl⟩:=D
 obtain⟨t',rfl⟩:=z
 exact add_str (fun t' tk=>⟨.str (i++j),H,I.tok _,⟨_,rfl⟩,q⟩) hz
theorem vals1{x:V}{us:List Value}(r:Vals [x] us):∃u,us=[u]∧RelV x u:=by
 cases r with
 | cons j z=>cases z;exact⟨_,rfl,j⟩
theorem Mu:nu X (.builtin "abs") (fun xs H Q=>∃i,xs=[.int i]∧Q (.int (if i<0 then -i else i)) H):=by
 intro pins s σ H xs us Q I r h
 obtain⟨i,rfl,q⟩:=h
 obtain⟨u,rfl,t,rfl⟩:=vals1 r
 exact call_abs_int fun u tk=>⟨.int (if i<0 then -i else i),H,I.tok _,⟨_,rfl⟩,q⟩
theorem pB:nu X (.type "str") (fun xs H Q=>∃i,xs=[.int i]∧i.natAbs.log2<1920∧Q (.str (toString i)) H):=by
 intro pins s σ H xs us Q I r h
 obtain⟨i,rfl,hz,q⟩:=h
 obtain⟨u,rfl,t,rfl⟩:=vals1 r
 exact PySem.P.str_of_int hz ⟨.str _,H,I.tok _,⟨_,rfl⟩,q⟩
end
end L2
namespace L2
open PySem PySem.Spec PyProof.Rows
structure Dd (h:Heap) (x dx C:Addr) (mA:Str→Option Value):Prop where
 obj:h.get? x=some (PySem.W.instObj C dx)
 ns:h.Ns1 dx mA
 ne:dx≠x
theorem vP{h:Heap}{dx:Addr}{mA:Str→Option Value}(n:h.Ns1 dx mA):∃od,h.get? dx=some od∧∀name,PySem.W.lookIn name od=some (mA name):=by
 obtain⟨o,es,ep,G,hd,L,_,F⟩:=n
 refine⟨o,G,fun name=>?_⟩
 have e:=F name
 unfold nsFind findBy at e
 rw[←Array.find?_toList]at e
 unfold PySem.W.lookIn
 rw[hd]
 dsimp only
 split
 ·rename_i y q
  rw[q]at e
  exact congrArg some e
 ·rename_i q
  rw[q]at e
  have a:es.toList.any (·.refKey)=false:=by
   rw[List.any_eq_false]
   intro y D
   obtain⟨z,t,j⟩:=L y (Array.mem_toList_iff.mp D)
   simp[DictEntry.refKey,j]
  have J:¬es.toList.any (·.refKey)=true:=by rw[a];exact io
  rw[i9 J]
  exact congrArg some e
theorem Dd.look{h:Heap}{x dx C:Addr}{mA:Str→Option Value}(I:Dd h x dx C mA):∃od,PySem.W.InstAt h x (PySem.W.instObj C dx) C (some od)∧∀name,PySem.W.lookIn name od=some (mA name) :=
 let⟨od,ho,hl⟩:=vP I.ns
 ⟨od,⟨I.obj,rfl,rfl,ho⟩,hl⟩
section
variable {prog:Program} {w:World} {A:Around} {E:Value→Shared→Prop} {s:Shared} {K:PySem.W.Frag} {x dx C f:Addr} {mA:Str→Option Value} {name:Str} {v:Value}
theorem Qg{expr:Bool}{Q:Value→Shared→Prop}(X:K.In s.heap)(I:Dd s.heap x dx C mA)(D:PySem.W.plainGet K C name=true)(z:PySem.W.hasDictIn K C=true)
  (F:PySem.W.findIn K (.ref C) name=some none) (L:mA name=some v) (j:PySem.W.handedIn v=true) (h:Q v { s with toks:=s.toks+1 }) :
  wpAny (model prog w) A (getAttr (.ref x) name expr) Q E s:=by
 obtain⟨od,J,G⟩:=I.look
 exact PySem.W.get_value X J (PySem.W.plainGet_of D).1 (PySem.W.findObj_own z F rfl (by rw[G,L])) j h
theorem Mg{pl:Sem Bool}{Q:Value×List Value→Shared→Prop}(X:K.In s.heap)(I:Dd s.heap x dx C mA)(j:PySem.W.plainGet K C name=true)
  (z:PySem.W.findIn K (.ref C) name=some (some (.ref f))) (F:PySem.W.isFn K (.ref f)=true) (G:mA name=none) (h:Q (.ref f,[.ref x]) s) :
  wpAny (model prog w) A (getMethod (.ref x) name pl) Q E s:=by
 obtain⟨od,J,D⟩:=I.look
 exact PySem.W.method_fn X J (PySem.W.plainGet_of j).1 (PySem.W.plainGet_of j).2 z (beq_iff_eq.mp F) (by show(PySem.W.lookIn name od).map (·.isSome)=some false;rw[D,G];rfl) h
theorem NP{ns:List Str}{Q:Unit→Shared→Prop}(X:K.In s.heap)(I:Dd s.heap x dx C mA)
  (O:PySem.W.findIn K (.ref C) "__setattr__"=some (some (.builtin "object.__setattr__"))) (U:PySem.W.plainOver K C=true) (Y:PySem.W.takerIn K C name=some none) (hh:PySem.W.hasDictIn K C=true)
  (hw:PySem.Within mA ns) (hsz:ns.length≤sizeLine)
  (h:∀h',Dd h' x dx C (fun y=>if y=name then some v else mA y)→Heap.SameBut dx s.heap h'→Q () { s with heap:=h',toks:=s.toks+2 }) :
  wpAny (model prog w) A (setAttr (.ref x) name v) Q E s:=by
 obtain⟨od,J,hl⟩:=I.look
 refine PySem.W.set_plain X J O (PySem.W.osa_open (s:={ s with toks:=s.toks+1 }) (r:=none) X J U Y fun b=>?_)
 obtain⟨cd,Z,L⟩:=PySem.W.any_some hh
 have hx:s.heap.get? x=some ⟨.ref C,some dx,.plain,#[]⟩:=I.obj
 refine wpAny_bind (wpAny_pure (wpAny_bind (wpAny_bind (wpAny_loadPart hx (wpAny_bind (PySem.W.Looks.here (s:={ s with toks:=s.toks+1 }) (PySem.W.looks_clsIn X Z) ?_))))))
 rw[L]
 refine wpAny_pure (a:=some dx) (wpAny_bind (wpAny_pure (wpAny_bind ?_)))
 refine wpAny_nsSet1 (s:={ s with toks:=s.toks+1 }) I.ns fun h' z j=>?_
 obtain⟨oD,aa,S,F,D,G⟩:=z.count (PySem.Within.cons name v hw)
 refine wpAny_bind (wpAny_lookBehind F (by rw[D];exact pastItsLine_dict (ip G (by rw[cr];omega))) ?_)
 exact wpAny_pure (h _ ⟨(j.2 _ (Ne.symm I.ne)).trans I.obj,z,I.ne⟩ j)
theorem Lp{R:Result→Shared→Prop}{vs:List Value}{j:List (Str×Value)}(X:K.In s.heap)(z:PySem.W.makesIn K C=true)
    (hi:PySem.W.findIn K (.ref C) "__init__"=some (some (.ref f))) (D:PySem.W.typeIn K (.ref f)=some (.type "function"))
    (h:codeAny (model prog w) (A.under (.builtin "type.__call__" ⟨.ref C::vs,j⟩)) (.call (.ref f) ⟨.ref (s.heap.objs.size+1)::vs,j⟩) (PySem.W.InitBack (s.heap.objs.size+1) R)
      { s with heap:=(s.heap.push PySem.W.emptyDict).push (PySem.W.instObj C s.heap.objs.size) }) :
    codeAny (model prog w) A (.call (.ref C) ⟨vs,j⟩) R s:=by
  obtain⟨F,g,d,t,os⟩:=s
  exact PySem.W.make_core (PySem.W.makes_of X z) (PySem.W.looks_findIn X hi) (fun self=>PySem.W.bind_fn X self D) (.inl rfl) h
end
noncomputable def f9(f:Str)(v:V):List (Str×V)→List (Str×V)
 | []=>[(f,v)]
 | (g,x)::r=>if g=f then(g,v)::r else(g,x)::f9 f v r
theorem qL(f g:Str)(v:V):∀fs:List (Str×V),(f9 f v fs).lookup g=if g=f then some v else fs.lookup g
 | []=>by
  show List.lookup g [(f,v)]=_
  by_cases h:g=f
  ·have j:(g==f)=true:=beq_iff_eq.mpr h
   simp only[List.lookup,j,jI h]
  ·have j:(g==f)=false:=beq_eq_false_iff_ne.mpr h
   simp only[List.lookup,j,i9 h]
 | (k,x)::r=>by
  have D:=qL f g v r
  rw[show f9 f v ((k,x)::r)=(if k=f then(k,v)::r else(k,x)::f9 f v r)from rfl]
  by_cases z:k=f
  ·rw[jI z]
   by_cases h:g=k
   ·have j:(g==k)=true:=beq_iff_eq.mpr h
    simp only[List.lookup,j,jI (h.trans z)]
   ·have j:(g==k)=false:=beq_eq_false_iff_ne.mpr h
    simp only[List.lookup,j,i9 (fun e:g=f=>h (e.trans z.symm))]
  ·rw[i9 z]
   by_cases h:g=k
   ·have j:(g==k)=true:=beq_iff_eq.mpr h
    simp only[List.lookup,j,i9 (fun e:g=f=>z (h.symm.trans e))]
   ·have j:(g==k)=false:=beq_eq_false_iff_ne.mpr h
    simp only[List.lookup,j]
    exact D
theorem qg(f:Str)(v:V):∀fs:List (Str×V),f∈(f9 f v fs).map (·.1)∧∀g,g∈fs.map (·.1)→g∈(f9 f v fs).map (·.1)
 | []=>⟨by simp[f9],fun g h=>by simp at h⟩
 | (k,x)::r=>by
  obtain⟨i1,z⟩:=qg f v r
  rw[show f9 f v ((k,x)::r)=(if k=f then(k,v)::r else(k,x)::f9 f v r)from rfl]
  by_cases j:k=f
  ·rw[jI j]
   subst j
   exact⟨by simp,fun g h=>by simpa using h⟩
  ·rw[i9 j]
   refine⟨?_,fun g h=>?_⟩
   ·rw[i4]
    exact am _ i1
   ·rw[i4]at h ⊢
    rcases hU.mp h with e | e
    ·exact hU.mpr (.inl e)
    ·exact am _ (z g e)
theorem qM(f:Str)(v:V):∀fs:List (Str×V),(f9 f v fs).length≤fs.length+1
 | []=>by simp[f9]
 | (k,x)::r=>by
  have z:=qM f v r
  rw[show f9 f v ((k,x)::r)=(if k=f then(k,v)::r else(k,x)::f9 f v r)from rfl]
  by_cases j:k=f
  ·rw[jI j,cr,cr];omega
  ·rw[i9 j,cr,cr];omega
theorem n8.some_of{v:V}{o:Option Value}(r:n8 (some v) o):∃u,o=some u∧RelV v u:=by
 cases o with
 | none=>exact(show False from r).elim
 | some u=>exact⟨u,rfl,r⟩
theorem n8.none_of{o:Option Value}(r:n8 none o):o=none:=by
 cases o with
 | none=>rfl
 | some u=>exact(show False from r).elim
theorem Hg{v:V}{u:Value}(r:RelV v u):PySem.W.handedIn u=true:=by
 cases v with
 | non=>cases(show u=Value.none from r);rfl
 | bl b=>cases(show u=Value.bool b from r);rfl
 | int i=>obtain⟨t,e⟩:=(show ∃t,u=Value.int i t from r);cases e;rfl
 | str x=>obtain⟨t,e⟩:=(show ∃t,u=Value.str x t from r);cases e;rfl
 | byt b=>obtain⟨t,e⟩:=(show ∃t,u=Value.bytes b t from r);cases e;rfl
 | flt b=>obtain⟨t,e⟩:=(show ∃t,u=Value.float b t from r);cases e;rfl
 | ref a=>cases(show u=Value.ref a from r);rfl
 | ty n=>cases(show u=Value.type n from r);rfl
section
variable {P:Program} {w:World} {H H':Hp} {h h':Heap} {a C dx:Addr} {fs fs':List (Str×V)}
theorem xN(hok:mY P w H h)(e:H a=some (.ins C dx fs)):∃mA,Dd h a dx C mA∧(∀f,n8 (fs.lookup f) (mA f))∧PySem.Within mA (fs.map (·.1))∧fs.length≤1000∧H dx=some (.own a):=by
 obtain⟨d,z,ne,j,mA,n,r,q⟩:=(show cU P w H h a (.ins C dx fs)from hok a _ e)
 exact⟨mA,⟨j,n,ne⟩,r,q,z,d⟩
end
structure Dg (K:PySem.W.Frag) (C:Addr):Prop where
 pg:PySem.W.plainGet K C Str.empty=true
 hd:PySem.W.hasDictIn K C=true
 po:PySem.W.plainOver K C=true
 sa:PySem.W.findIn K (.ref C) "__setattr__"=some (some (.builtin "object.__setattr__"))
theorem Dg.get{K:PySem.W.Frag}{C:Addr}(c:Dg K C)(f:Str):PySem.W.plainGet K C f=true:=c.pg
noncomputable def aO(K:PySem.W.Frag)(C:Addr)(f:Str):Prop:=PySem.W.findIn K (.ref C) f=some none
theorem aO.taker{K:PySem.W.Frag}{C:Addr}{f:Str}(n:aO K C f):PySem.W.takerIn K C f=some none:=by
 unfold PySem.W.takerIn
 rw[show PySem.W.findIn K (.ref C) f=some none from n]
 rfl
structure Meth (K:PySem.W.Frag) (C:Addr) (m:Str) (f:Addr):Prop where
 at_:PySem.W.findIn K (.ref C) m=some (some (.ref f))
 fn:PySem.W.isFn K (.ref f)=true
 kp:PySem.W.keepIn K (.ref f)=true
section
variable {X:Cx} {pins:List (Addr×Obj)} {σ:St} {H:Hp} {s:Shared} {a C dx:Addr} {fs:List (Str×V)} {f:Str} {v:V} {A:Around} {E:Value→Shared→Prop}
theorem uK{b:Bool}{Q:Value→Shared→Prop}(I:Inv X pins σ H s)(e:H a=some (.ins C dx fs))(c:Dg X.K C)(n:aO X.K C f)(l:fs.lookup f=some v)
  (h:∀u s',Inv X pins σ H s'→RelV v u→Q u s'):wpAny (model X.prog X.w) A (getAttr (.ref a) f b) Q E s:=by
 obtain⟨mA,O,r,_,_,_⟩:=xN I.hok e
 obtain⟨u,z,j⟩:=n8.some_of (v:=v) (o:=mA f) (by rw[←l];exact r f)
 exact Qg I.o6 O (c.get f) c.hd n z (Hg j) (h u _ (I.tok _) j)
theorem uJ{m:Str}{g:Addr}{pl:Sem Bool}{Q:Value×List Value→Shared→Prop}(I:Inv X pins σ H s)(e:H a=some (.ins C dx fs))(c:Dg X.K C)(k:Meth X.K C m g)(l:fs.lookup m=none)
  (h:Q (.ref g,[.ref a]) s):wpAny (model X.prog X.w) A (getMethod (.ref a) m pl) Q E s:=by
 obtain⟨mA,O,r,_,_,_⟩:=xN I.hok e
 have j:mA m=none:=n8.none_of (by rw[←l];exact r m)
 exact Mg I.o6 O (c.get m) k.at_ k.fn j h
theorem ud{y:V}{u:Value}{Q:Unit→Shared→Prop}(I:Inv X pins σ H s)(e:H a=some (.ins C dx fs))(c:Dg X.K C)(n:aO X.K C f)(U:fs.length<1000)(G:RelV y u)
  (h:∀s',Inv X pins σ (upd H a (.ins C dx (f9 f y fs))) s'→Q () s'):wpAny (model X.prog X.w) A (setAttr (.ref a) f u) Q E s:=by
 obtain⟨mA,O,r,F,_,D⟩:=xN I.hok e
 have hz:(fs.map (·.1)).length≤sizeLine:=by rw[ap,sizeLine_eq];omega
 refine NP I.o6 O c.sa c.po n.taker c.hd F hz fun h' j L=>h _ ?_
 have hd:∃o,h'.get? dx=some o:=let⟨o,_,_,e',_⟩:=j.ns;⟨o,e'⟩
 refine I.write (x:=a) (e:=dx) (by rw[e];exact True.intro) (.inr D) (fun b q S z=>(L.2 b S).trans z) hd ?_
 refine⟨by rw[az O.ne];exact D,?_,O.ne,j.obj,_,j.ns,fun g=>?_,fun g J=>?_⟩
 ·have:=qM f y fs;omega
 ·show n8 ((f9 f y fs).lookup g) (if g=f then some u else mA g)
  rw[qL]
  by_cases q:g=f
  ·rw[jI q,jI q];exact G
  ·rw[i9 q,i9 q];exact r g
 ·by_cases q:g=f
  ·rw[q];exact(qg f y fs).1
  ·refine(qg f y fs).2 g (F g fun z=>J ?_)
   show(if g=f then some u else mA g)=none
   rw[i9 q];exact z
theorem Inv.made(I:Inv X pins σ H s):Inv X pins σ (upd (upd H s.heap.objs.size (.own (s.heap.objs.size+1))) (s.heap.objs.size+1) (.ins C s.heap.objs.size []))
    { s with heap:=(s.heap.push PySem.W.emptyDict).push (PySem.W.instObj C s.heap.objs.size) }:=by
  have e1:(s.heap.push PySem.W.emptyDict).get? s.heap.objs.size=some PySem.W.emptyDict:=Heap.get?_push_size s.heap rfl
  have e2:((s.heap.push PySem.W.emptyDict).push (PySem.W.instObj C s.heap.objs.size)).get? (s.heap.objs.size+1)=some (PySem.W.instObj C s.heap.objs.size):=by
    have:=Heap.get?_push_size (s.heap.push PySem.W.emptyDict) (o:=PySem.W.instObj C s.heap.objs.size) rfl
    rwa[Heap.size_push]at this
  have e3:(s.heap.push PySem.W.emptyDict).Ns s.heap.objs.size (fun _=>none):=⟨PySem.W.emptyDict,#[],_,e1,rfl,(fun e D=>absurd D (by simp)),fun _=>rfl⟩
  have z:=I.laid (a:=s.heap.objs.size) (o:=.own (s.heap.objs.size+1)) (h':=s.heap.push PySem.W.emptyDict) (t':=s.toks) (fun b u q=>Heap.get?_push_of_some _ q) (f' _) ⟨_,e1⟩
  refine z.laid (a:=s.heap.objs.size+1) (o:=.ins C s.heap.objs.size []) (t':=s.toks) (fun b u q=>Heap.get?_push_of_some _ q) (Nat.le_of_eq (Heap.size_push _ _)) ?_
  have ne:s.heap.objs.size≠s.heap.objs.size+1:=i3 (Nat.lt_succ_self _)
  refine⟨by rw[az ne,ak],Nat.zero_le _,ne,e2,fun _=>none,(Heap.Ns1.of_empty e3).at fun o q=>Heap.get?_push_of_some _ q,fun _=>True.intro,fun y j=>absurd rfl j⟩
theorem Fd{prog:Program}{w:World}{env:Env}{e:Expr}{f:Str}{pos:Pos}{s:Shared}{Q:Value→Shared→Prop}(j:attributeBase e f env (eval e env)=eval e env)
  (h:wpAny (model prog w) A (eval e env) (fun o s₁=>wpAny (model prog w) A (getAttr o f true) Q E s₁) E s):wpAny (model prog w) A (eval (.Attribute e f pos) env) Q E s :=
 Attribute_any_ h (by rw[arm_eval_Attribute,j])
end
noncomputable def Ad(K:PySem.W.Frag)(ta:TE)(f:Str):TE:=fun σ H Q=>ta σ H fun x H1=>∃a C dx fs v,x=.ref a∧H1 a=some (.ins C dx fs)∧Dg K C∧aO K C f∧fs.lookup f=some v∧Q v H1
noncomputable def VM(K:PySem.W.Frag)(ta tv:TE)(f:Str):TS:=fun D σ H=>tv σ H fun y H1=>ta σ H1 fun x H2=>∃a C dx fs,x=.ref a∧H2 a=some (.ins C dx fs)∧Dg K C∧aO K C f∧fs.length<1000 ∧
 D.nx σ (upd H2 a (.ins C dx (f9 f y fs)))
noncomputable def Tc(X:Cx)(op:Operator)(rd:V→V→Hp→VK→Prop):Prop :=
 ∀(pins:List (Addr×Obj))(s:Shared)(σ:St)(H:Hp)(x y:V)(u v:Value)(Q:VK),Inv X pins σ H s→RelV x u→RelV y v→rd x y H Q→wpAny (model X.prog X.w) X.A (inplaceOp op u v) (EP X pins σ Q) X.xe s
noncomputable def N7(K:PySem.W.Frag)(ta tv:TE)(rd:V→V→Hp→VK→Prop)(f:Str):TS:=fun D σ H=>ta σ H fun x H1=>∃a C dx fs v,x=.ref a∧H1 a=some (.ins C dx fs)∧Dg K C∧aO K C f∧fs.lookup f=some v ∧
 tv σ H1 fun y H2=>rd v y H2 fun z F=>∃j fs',F a=some (.ins C j fs')∧fs'.length<1000∧D.nx σ (upd F a (.ins C j (f9 f z fs')))
section
variable {X:Cx} {o e value:Expr} {f:Str} {pos pos' tpos:Pos} {ta tv:TE}
theorem aJ(F:PE X e ta)(G:attributeBase e f X.env (eval e X.env)=eval e X.env):PE X (.Attribute e f pos) (Ad X.K ta f):=by
 intro pins s σ H Q I h
 refine Fd G (cG (F pins s σ H _ I h) fun u s1 hz=>?_)
 obtain⟨x,H1,z,J,a,C,dx,fs,v,ex,j,c,n,l,q⟩:=hz
 subst ex
 obtain rfl:u=Value.ref a:=J
 exact uK z j c n l fun O s2 D L=>⟨v,H1,D,L,q⟩
theorem b8(F:PE X o ta)(J:PE X value tv)(j:swapsWith value (some (.Attribute o f pos')) pos.line X.env=pure false):PS X (.Assign [.Attribute o f pos'] value pos) (VM X.K ta tv f):=by
 intro pins s σ H D I h
 refine plainObj_wpAny_Assign_Attribute (cG (J pins s σ H _ I h) fun u s1 ⟨y,H1,O,z,q⟩=>cG (F pins s1 σ H1 _ O q) fun Y s2 hz=>?_) j
 obtain⟨x,H2,S,U,a,C,dx,fs,ex,G,c,n,l,L⟩:=hz
 subst ex
 obtain rfl:Y=Value.ref a:=U
 exact ud S G c n l z fun s3 Z=>⟨σ,_,Z,L⟩
theorem cH{op:Operator}{rd:V→V→Hp→VK→Prop}(J:PE X o ta)(U:PE X value tv)(j:Tc X op rd):PS X (.AugAssign (.Attribute o f tpos) op value pos) (N7 X.K ta tv rd f):=by
 intro pins s σ H D I h
 refine wpAny_AugAssign_AttributeAny (cG (J pins s σ H _ I h) fun ov s1 hz=>?_)
 obtain⟨x,H1,Y,rx,a,C,dx,fs,v,ex,S,c,n,l,q⟩:=hz
 subst ex
 obtain rfl:ov=Value.ref a:=rx
 refine uK Y S c n l fun u s2 I2 ru=>cG (U pins s2 σ H1 _ I2 q) fun w3 s3 ⟨y,H2,I3,G,O⟩=>cG (j pins s3 σ H2 v y u w3 _ I3 ru G O) fun w4 s4 hz=>?_
 obtain⟨z,H3,I4,Z,aa,fs',F,l',q4⟩:=hz
 exact ud I4 F c n l' Z fun s5 L=>⟨σ,_,L,q4⟩
noncomputable def V3:V→V→Hp→VK→Prop:=fun x y H Q=>∃i j,x=.int i∧y=.int j∧Q (.int (i+j)) H
noncomputable def VP:V→V→Hp→VK→Prop:=fun x y H Q=>∃i j,x=.int i∧y=.int j∧Q (.int (i-j)) H
theorem gC:Tc X .Add V3:=by
 rintro pins s σ H x y u v Q I D z ⟨i,j,rfl,rfl,q⟩
 obtain⟨t,rfl⟩:=(show ∃t,u=Value.int i t from D)
 obtain⟨t',rfl⟩:=(show ∃t',v=Value.int j t' from z)
 exact PyProof.Rows.iadd_int ⟨.int (i+j),H,I.tok _,⟨_,rfl⟩,q⟩
theorem Su:Tc X .Sub VP:=by
 rintro pins s σ H x y u v Q I D z ⟨i,j,rfl,rfl,q⟩
 obtain⟨t,rfl⟩:=(show ∃t,u=Value.int i t from D)
 obtain⟨t',rfl⟩:=(show ∃t',v=Value.int j t' from z)
 exact PyProof.Rows.isub_int ⟨.int (i-j),H,I.tok _,⟨_,rfl⟩,q⟩
end
section
variable {X:Cx} {pins:List (Addr×Obj)} {σ:St} {H:Hp} {s:Shared} {A:Around} {E:Value→Shared→Prop} {Q:Value→Shared→Prop} {c:Value} {b:Bool}
end
end L2
namespace L2
open PySem PySem.Spec PyProof.Rows
structure bG (k:Nat) (A:Around):Prop where
 hd:A.handled=none
 dp:A.depth+3*k+5<recursionLimit
 un:A.units+16*k+200<cLine
theorem bG.mono{j k:Nat}{A:Around}(r:bG k A)(h:j≤k):bG j A:=⟨r.hd,by have:=r.dp;omega,by have:=r.un;omega⟩
theorem bG.deeper{k:Nat}{A:Around}(r:bG (k+1) A)(env:Env):bG k (A.deeper env) :=
 ⟨r.hd,by have:=r.dp;show A.depth+1+3*k+5<_;omega,by have:=r.un;show A.units+3+16*k+200<_;omega⟩
theorem Bx{A:Around}{C:Addr}{us:List Value}{j:List (Str×Value)}:(A.under (.builtin "type.__call__" ⟨.ref C::us,j⟩)).depth=A.depth+1:=by
 first | rfl | simp[Around.under,Code.weight,Code.isCreation,Code.isGuard,Code.isCaller,Code.frames,Code.isFrame,guardIds]
theorem Bw{A:Around}{C:Addr}{us:List Value}{j:List (Str×Value)}:(A.under (.builtin "type.__call__" ⟨.ref C::us,j⟩)).units=A.units+1:=by
 first | rfl | simp[Around.under,Code.cUnits,Code.frames,Code.isFrame]
theorem bG.make{k:Nat}{A:Around}(r:bG (k+1) A)(C:Addr)(us:List Value)(j:List (Str×Value)):bG k (A.under (.builtin "type.__call__" ⟨.ref C::us,j⟩)) :=
 ⟨r.hd,by have:=r.dp;rw[Bx];omega,by have:=r.un;rw[Bw];omega⟩
theorem bG.depth{k:Nat}{A:Around}(r:bG k A):A.depth<recursionLimit:=by have:=r.dp;omega
theorem bG.units{k:Nat}{A:Around}(r:bG k A):A.units+64<cLine:=by have:=r.un;omega
noncomputable def cY:TA:=fun _ H Q=>Q [] H
noncomputable def aZ(ta:TE)(j:TA):TA:=fun σ H Q=>ta σ H fun x H1=>j σ H1 fun xs H2=>Q (x::xs) H2
section
variable {X:Cx} {e:Expr} {es:List Expr} {te:TE} {t:TA} {pos:Pos}
theorem au:PA X [] cY:=fun _ _ _ _ H Q I h=>Calls.spliced_nil ⟨[],H,I,.nil,h⟩
theorem aj(z:PE X e te)(J:PA X es t)(j:starEach (e::es) X.env=(false,eval e X.env)::starEach es X.env:=by rfl):PA X (e::es) (aZ te t):=by
 intro pos pins s σ H Q I h
 rw[j]
 show wpAny _ _ (spliced ((false,eval e X.env)::backTo pos (starEach es X.env))) _ _ s
 refine Calls.spliced_cons (cG (z pins s σ H _ I h) fun u s1 ⟨x,H1,F,G,O⟩=>?_)
 exact cG (J pos pins s1 σ H1 _ F O) fun us s2 ⟨xs,H2,L,S,D⟩=>⟨x::xs,H2,L,.cons G S,D⟩
noncomputable def Io(t:TA):TE:=fun σ H Q=>t σ H fun xs H1=>xs.length≤sizeLine∧∀p,H1 p=none→Q (.ref p) (upd H1 p (.tup xs))
noncomputable def fZ(t:TA):TE:=fun σ H Q=>t σ H fun xs H1=>xs.length≤sizeLine∧∀p,H1 p=none→Q (.ref p) (upd H1 p (.lst xs))
theorem bI{x1}(h:PA X es t):PE X (.Tuple es x1 pos) (Io t):=by
 intro pins s σ H Q I F
 refine wpAny_Tuple_spliced (cG (h pos pins s σ H _ I F) fun us s1 ⟨xs,H1,j,r,z,q⟩=>⟨by rw[←r.length];exact z,?_⟩)
 have D:H1 s1.heap.objs.size=none:=j.hok.fresh (f' _)
 refine⟨.ref s1.heap.objs.size,upd H1 s1.heap.objs.size (.tup xs),j.laid (t':=s1.toks) (fun b u e=>Heap.get?_push_of_some _ e) (f' _) ?_,rfl,q _ D⟩
 exact⟨z,us,r,⟨_,Heap.get?_push_size _ rfl,rfl,_,rfl⟩⟩
theorem bT(h:PA X es t):PE X (.List es pos) (fZ t):=by
 intro pins s σ H Q I F
 refine wpAny_List_spliced (cG (h pos pins s σ H _ I F) fun us s1 ⟨xs,H1,j,r,z,q⟩=>⟨by rw[←r.length];exact z,?_⟩)
 have D:H1 s1.heap.objs.size=none:=j.hok.fresh (f' _)
 refine⟨.ref s1.heap.objs.size,upd H1 s1.heap.objs.size (.lst xs),j.laid (t':=s1.toks) (fun b u e=>Heap.get?_push_of_some _ e) (f' _) ?_,rfl,q _ D⟩
 exact⟨z,us,0,r,Heap.get?_push_size _ rfl⟩
end
noncomputable abbrev Sp:=List V→Hp→VK→XK→Prop
noncomputable abbrev Fo:=List Env→Hp→Shared→XK→Value→Shared→Prop
structure Df (P:Program) (w:World) (K:PySem.W.Frag) (mg:Str→Option Value) (base:Heap) (A:Around) (outer:List Env) (s:Shared) (H:Hp):Prop where
 frames:A.frames=some outer
 mod:Mod K mg base
 bs:∀b o,base.get? b=some o→s.heap.get? b=some o∧H b=none
 bsz:base.objs.size≤s.heap.objs.size
 nO:s.heap.FunFrames base outer
 frf:∀b∈frs outer,H b=none
 hok:mY P w H s.heap
 bare:AllBare s.gens
noncomputable def CE(outer:List Env)(P:Program)(w:World)(H:Hp)(s:Shared)(Q:VK)(u:Value)(s':Shared):Prop :=
 ∃v H',s'.os=s.os∧AllBare s'.gens∧Un (frs outer) [] H H' s.heap s'.heap∧mY P w H' s'.heap∧RelV v u∧Q v H'
noncomputable def CR(CX:Fo)(outer:List Env)(P:Program)(w:World)(H:Hp)(s:Shared)(Q:VK)(E:XK)(r:Result)(s':Shared):Prop :=
 match r with
 | .ok (.ret u)=>CE outer P w H s Q u s'
 | .ok _=>False
 | .error e=>CX outer H s E e s'
structure aF (P:Program) (w:World) (K:PySem.W.Frag) (mg:Str→Option Value) (base:Heap) (CX:Fo) (k:Nat) (f:Addr) (fd:FuncData) (ps:List Str) (sp:Sp):Prop where
 len:∀vs H Q E,sp vs H Q E→vs.length=ps.length
 run:∀(A:Around)(outer:List Env)(s:Shared)(H:Hp)(args:Args)(us:List Value)(vs:List V)(Q:VK)(E:XK),bG k A→Df P w K mg base A outer s H→BindsTo s fd args (ps.zip us)→Vals vs us→sp vs H Q E →
  codeAny (model P w) A (.call (.ref f) args) (CR CX outer P w H s Q E) s
theorem Df.make{P:Program}{w:World}{K:PySem.W.Frag}{mg:Str→Option Value}{base:Heap}{A:Around}{outer:List Env}{s:Shared}{H:Hp}(e:Df P w K mg base A outer s H)(C:Addr)(us:List Value)(j:List (Str×Value)) :
  Df P w K mg base (A.under (.builtin "type.__call__" ⟨.ref C::us,j⟩)) outer s H:=⟨by first | exact e.frames | (simpa[Around.under,Code.envs,Code.isFrame,pushEnvs]using e.frames),e.mod,e.bs,e.bsz,e.nO,e.frf,e.hok,e.bare⟩
section
variable {X:Cx} {pins:List (Addr×Obj)} {σ:St} {H:Hp} {s s':Shared}
theorem Inv.env0(I:Inv X pins σ H s):Df X.prog X.w X.K X.mg X.base X.A X.stack s H :=
 ⟨I.ok.frames,I.ok.mod,I.bs,ip I.ok.bsz I.sz,I.stack,I.jb,I.hok,I.bare⟩
theorem Inv.after{Q:VK}{u:Value}(I:Inv X pins σ H s)(h:CE X.stack X.prog X.w H s Q u s'):EP X pins σ Q u s':=by
 obtain⟨v,H',os,bare,un,hok,r,q⟩:=h
 obtain⟨D,g,d,t,j⟩:=s'
 obtain rfl:j=s.os:=os
 exact⟨v,H',I.call (h':=D) (g':=g) (d':=d) (t':=t) (ch:=[]) un hok bare (fun b z=>absurd z (by simp)),r,q⟩
end
noncomputable def qz(sp:Sp)(dvs:List V)(E:XK)(t:TA):TE:=fun σ H Q=>t σ H fun vs H1=>sp (vs++dvs) H1 Q E
noncomputable def vG(C:Addr)(m:Str)(sp:Sp)(dvs:List V)(E:XK)(ta:TE)(t:TA):TE:=fun σ H Q=>ta σ H fun x H1=>∃a dx fs,x=.ref a∧H1 a=some (.ins C dx fs)∧fs.lookup m=none ∧
 t σ H1 fun vs H2=>sp (x::(vs++dvs)) H2 Q E
noncomputable def T5(C:Addr)(sp:Sp)(dvs:List V)(E:XK)(t:TA):TE:=fun σ H Q=>t σ H fun vs H1=>∀x dx,H1 x=none→H1 dx=none→dx≠x →
 sp (.ref x::(vs++dvs)) (upd (upd H1 dx (.own x)) x (.ins C dx [])) (fun v H2=>v=.non∧Q (.ref x) H2) E
noncomputable def Binds(K:PySem.W.Frag)(fd:FuncData)(ps:List Str)(ds:List Value):Prop :=
 ∀(s:Shared)(us:List Value),K.In s.heap→(us++ds).length=ps.length→BindsTo s fd ⟨us,[]⟩ (ps.zip (us++ds))
theorem Binds.all{K:PySem.W.Frag}{fd:FuncData}{ps:List Str}(h:∀us:List Value,us.length=ps.length→bindArgs fd ⟨us,[]⟩=pure (ps.zip us)):Binds K fd ps []:=fun s us _ j=>by
 rw[i6]at j ⊢
 exact .of_eq (h us j)
noncomputable def iB(CX:Fo)(X:Cx)(E:XK):Prop:=∀(pins:List (Addr×Obj))(σ:St)(H:Hp)(s:Shared)(e:Value)(s':Shared),Inv X pins σ H s→CX X.stack H s E e s'→X.xe e s'
section
variable {X:Cx} {CX:Fo} {k:Nat} {f C:Addr} {fd:FuncData} {ps:List Str} {sp:Sp} {dvs:List V} {ds:List Value} {E:XK} {x m:Str} {p pos apos:Pos} {e o:Expr} {es:List Expr} {ta:TE} {t:TA}
theorem wZ{pins:List (Addr×Obj)}{σ:St}{H:Hp}{s:Shared}{Q:VK}{us:List Value}{vs:List V}(F:aF X.prog X.w X.K X.mg X.base CX k f fd ps sp)(G:bG k X.A)(J:Binds X.K fd ps ds)(hd:Vals dvs ds)(hx:iB CX X E)
  (I:Inv X pins σ H s) (r:Vals vs us) (h:sp (vs++dvs) H Q E):wpAny (model X.prog X.w) X.A (call (.ref f) us) (EP X pins σ Q) X.xe s:=by
 have z:Vals (vs++dvs) (us++ds):=r.append hd
 have D:(us++ds).length=ps.length:=by rw[←z.length];exact F.len _ _ _ _ h
 refine wpAny_call (codeAny_mono (F.run X.A X.stack s H ⟨us,[]⟩ (us++ds) (vs++dvs) Q E G I.env0 (J s us I.o6 D) z h) fun r s' j=>?_)
 cases r with
 | error e=>exact hx pins σ H s e s' I j
 | ok fl =>
  cases fl with
  | ret u=>exact I.after j
  | next=>exact False.elim j
  | brk=>exact False.elim j
  | cont=>exact False.elim j
theorem a_(F:aF X.prog X.w X.K X.mg X.base CX k f fd ps sp)(O:bG k X.A)(J:Gl X x)(G:X.mg x=some (.ref f))(Y:PySem.W.keepIn X.K (.ref f)=true)(U:Binds X.K fd ps ds)(hd:Vals dvs ds)(hx:iB CX X E)
  (L:PA X (e::es) t) (j:(x==("__debug__" : Str))=false:=by decide) (S:starEach (e::es) X.env=(false,eval e X.env)::starEach es X.env:=by rfl) (z:(backTo pos (starEach es X.env)).any (·.1)=false:=by rfl) :
  PE X (.Call (.Name x p) (e::es) [] pos) (qz sp dvs E t):=by
 intro pins s σ H Q I h
 refine wpAny_Call_Name_kw (lU I J G ?_ j)
 refine PySem.W.callWith_K (h₀:=X.base) I.ok.mod.kin Y (cG (L pos pins s σ H _ I h) fun us s1 ⟨vs,H1,D,r,q⟩=>⟨D.o6,?_⟩) S z
 exact wZ F O U hd hx D r q
theorem bc{pl:Sem Bool}(he:PE X o ta)(c:Dg X.K C)(D:Meth X.K C m f)(F:aF X.prog X.w X.K X.mg X.base CX k f fd ps sp)(Z:bG k X.A)(hb:Binds X.K fd ps ds)(hd:Vals dvs ds)(hx:iB CX X E)(O:PA X (e::es) t)
  (j:starEach (e::es) X.env=(false,eval e X.env)::starEach es X.env:=by rfl) (z:(backTo pos (starEach es X.env)).any (·.1)=false:=by rfl)
  (Y:eval (.Call (.Attribute o m apos) (e::es) [] pos) X.env=(do
   let L ←eval o X.env
   standAt apos.atName
   let(f,first) ←holding [L] (getMethod L m pl)
   callWith pos f first (backTo pos (starEach (e::es) X.env)) (backToKw pos (keywordEach [] X.env))):=by rfl) :
  PE X (.Call (.Attribute o m apos) (e::es) [] pos) (vG C m sp dvs E ta t):=by
 intro pins s σ H Q I h
 refine PySem.W.methodCall_KW (pl:=pl) (cG (he pins s σ H _ I h) fun u s1 hz=>?_) Y
 obtain⟨x,H1,G,rx,a,dx,fs,ex,S,l,q⟩:=hz
 subst ex
 obtain rfl:u=Value.ref a:=rx
 refine uJ G S c D l ?_
 refine PySem.W.callWith_K (first:=[.ref a]) (h₀:=X.base) I.ok.mod.kin D.kp (cG (O pos pins s1 σ H1 _ G q) fun us s2 ⟨vs,H2,J,r,U⟩=>⟨J.o6,?_⟩) j z
 exact wZ (us:=.ref a::us) (vs:=.ref a::vs) F Z hb hd hx J (.cons rfl r) U
theorem bQ{pl:Sem Bool}(O:PE X o ta)(c:Dg X.K C)(z:Meth X.K C m f)(F:aF X.prog X.w X.K X.mg X.base CX k f fd ps sp)(L:bG k X.A)(S:Binds X.K fd ps ds)(hd:Vals dvs ds)(hx:iB CX X E)
  (J:eval (.Call (.Attribute o m apos) [] [] pos) X.env=(do
   let D ←eval o X.env
   standAt apos.atName
   let(f,first) ←holding [D] (getMethod D m pl)
   callWith pos f first (backTo pos (starEach [] X.env)) (backToKw pos (keywordEach [] X.env))):=by rfl) :
  PE X (.Call (.Attribute o m apos) [] [] pos) (vG C m sp dvs E ta cY):=by
 intro pins s σ H Q I h
 refine PySem.W.methodCall_KW (pl:=pl) (cG (O pins s σ H _ I h) fun u s1 hz=>?_) J
 obtain⟨x,H1,j,U,a,dx,fs,ex,G,l,q⟩:=hz
 subst ex
 obtain rfl:u=Value.ref a:=U
 refine uJ j G c z l ?_
 exact PySem.W.callWith_K0 (first:=[.ref a]) j.o6 z.kp (wZ (us:=[.ref a]) (vs:=[.ref a]) F L S hd hx j (.cons rfl .nil) q)
structure Mk (K:PySem.W.Frag) (C f:Addr):Prop where
 makes:PySem.W.makesIn K C=true
 init:PySem.W.findIn K (.ref C) "__init__"=some (some (.ref f))
 fn:PySem.W.isFn K (.ref f)=true
 kp:PySem.W.keepIn K (.ref C)=true
theorem J2{pins:List (Addr×Obj)}{σ:St}{H:Hp}{s:Shared}{Q:VK}{us:List Value}{vs:List V}(M:Mk X.K C f)(F:aF X.prog X.w X.K X.mg X.base CX k f fd ps sp)(S:bG (k+1) X.A)(U:Binds X.K fd ps ds)(hd:Vals dvs ds)
  (hx:iB CX X E) (I:Inv X pins σ H s) (r:Vals vs us)
  (h:∀x dx,H x=none→H dx=none→dx≠x→sp (.ref x::(vs++dvs)) (upd (upd H dx (.own x)) x (.ins C dx [])) (fun v H2=>v=.non∧Q (.ref x) H2) E) :
  wpAny (model X.prog X.w) X.A (call (.ref C) us) (EP X pins σ Q) X.xe s:=by
 have D:=h (s.heap.objs.size+1) s.heap.objs.size (I.hok.fresh (Nat.le_succ _)) (I.hok.fresh (f' _)) (i3 (Nat.lt_succ_self _))
 have z:=Inv.made (C:=C) I
 have G:Vals (V.ref (s.heap.objs.size+1)::(vs++dvs)) (Value.ref (s.heap.objs.size+1)::(us++ds)):=.cons rfl (r.append hd)
 have L:(Value.ref (s.heap.objs.size+1)::us++ds).length=ps.length:=by
  have e:=G.length
  rw[F.len _ _ _ _ D]at e
  exact e.symm
 refine wpAny_call (Lp (f:=f) I.o6 M.makes M.init (beq_iff_eq.mp M.fn) (codeAny_mono (F.run _ X.stack _ _ ⟨Value.ref (s.heap.objs.size+1)::us,[]⟩ (Value.ref (s.heap.objs.size+1)::(us++ds)) _ _ E (S.make C us [])
  (z.env0.make C us []) (U _ (Value.ref (s.heap.objs.size+1)::us) z.o6 L) G D) fun r s' j=>?_))
 cases r with
 | error e=>exact hx pins σ _ _ e s' z j
 | ok fl =>
  cases fl with
  | ret u =>
   obtain⟨v,H',Y,J,ev,O⟩:=z.after j
   subst ev
   exact⟨J,⟨V.ref (s.heap.objs.size+1),H',Y,rfl,O⟩⟩
  | next=>exact False.elim j
  | brk=>exact False.elim j
  | cont=>exact False.elim j
theorem sO(M:Mk X.K C f)(F:aF X.prog X.w X.K X.mg X.base CX k f fd ps sp)(O:bG (k+1) X.A)(J:Gl X x)(G:X.mg x=some (.ref C))(U:Binds X.K fd ps ds)(hd:Vals dvs ds)(hx:iB CX X E)
  (L:PA X (e::es) t) (j:(x==("__debug__" : Str))=false:=by decide) (S:starEach (e::es) X.env=(false,eval e X.env)::starEach es X.env:=by rfl) (z:(backTo pos (starEach es X.env)).any (·.1)=false:=by rfl) :
  PE X (.Call (.Name x p) (e::es) [] pos) (T5 C sp dvs E t):=by
 intro pins s σ H Q I h
 refine wpAny_Call_Name_kw (lU I J G ?_ j)
 refine PySem.W.callWith_K (h₀:=X.base) I.ok.mod.kin M.kp (cG (L pos pins s σ H _ I h) fun us s1 ⟨vs,H1,D,r,q⟩=>⟨D.o6,?_⟩) S z
 exact J2 M F O U hd hx D r q
end
noncomputable def PK(X:Cx)(kws:List Keyword)(t:TA):Prop :=
 ∀(pos:Pos)(pins:List (Addr×Obj))(s:Shared)(σ:St)(H:Hp)(Q:List V→Hp→Prop),Inv X pins σ H s→t σ H Q→wpAny (model X.prog X.w) X.A (evalAll ((backToKw pos (keywordEach kws X.env)).map (·.2))) (AP X pins σ Q) X.xe s
section
variable {X:Cx} {CX:Fo} {k:Nat} {f C:Addr} {fd:FuncData} {ps ks:List Str} {sp:Sp} {E:XK} {x m:Str} {p pos apos kpos:Pos} {e o:Expr} {es:List Expr} {kws:List Keyword} {te ta:TE} {t tk:TA} {nm:Option Str}
theorem Rv:PK X [] cY:=fun _ _ _ _ H Q I h=>wpAny_evalAll_nil ⟨[],H,I,.nil,h⟩
theorem Od(j:PE X e te)(G:PK X kws t):PK X (⟨nm,e,kpos⟩::kws) (aZ te t):=by
 intro pos pins s σ H Q I h
 show wpAny _ _ (evalAll ((do let v ←eval e X.env;standAt pos;pure v)::(backToKw pos (keywordEach kws X.env)).map (·.2))) _ _ s
 refine wpAny_evalAll_cons (wpAny_bind (cG (j pins s σ H _ I h) fun u s1 ⟨x,H1,D,F,L⟩=>wpAny_bind (wpAny_standAt (wpAny_pure ?_))))
 exact cG (G pos pins s1 σ H1 _ D L) fun us s2 ⟨xs,H2,J,O,z⟩=>⟨x::xs,H2,J,.cons F O,z⟩
variable {g:List Value→List Value→List Value} {gV:List V→List V→List V}
end
structure aK (N P:List Str) (sc:Scope):Prop where
 kind:sc.kind=.function
 co:sc.isCoroutine=false
 gen:sc.isGenerator=false
 nd:N.Nodup
 pre:N.take P.length=P
 par:∀x∈P,sc.names.lookup x=some .local∨sc.names.lookup x=some .cell
 nofree:∀y∈sc.names,y.2≠.free
theorem v8{kindOf:Str→Option NameKind}{x:Str}:∀{binds:List (Str×Value)}{m:Str→Option Value},(∀v,(x,v)∉binds)→bindL kindOf binds m x=m x
 | [],_,_=>rfl
 | (n,v)::r,m,h=>by
  unfold bindL
  rw[v8 fun w hw=>h w (am _ hw)]
  split
  ·have:x≠n:=by rintro rfl;exact h v b'
   simp[this]
  ·rfl
theorem v_{kindOf:Str→Option NameKind}{x:Str}:∀{binds:List (Str×Value)}{m:Str→Option Value},(∀v,(x,v)∉binds)→bindC kindOf binds m x=m x
 | [],_,_=>rfl
 | (n,v)::r,m,h=>by
  unfold bindC
  rw[v_ fun w hw=>h w (am _ hw)]
  split
  ·rfl
  ·have:x≠n:=by rintro rfl;exact h v b'
   simp[this]
theorem v9{kindOf:Str→Option NameKind}{x:Str}{v:Value}:∀{P:List Str}{vs:List Value}{i:Nat}{m:Str→Option Value},P.Nodup→P[i]?=some x→vs[i]?=some v→kindOf x=some .local →
  bindL kindOf (P.zip vs) m x=some v
 | [],_,_,_,_,h,_,_=>by simp at h
 | _::_,[],_,_,_,_,h,_=>by simp at h
 | p::P,w::vs,0,m,nd,h1,h2,j=>by
  simp at h1 h2;subst h1;subst h2
  show bindL kindOf ((p,w)::P.zip vs) m p=_
  unfold bindL
  rw[v8 fun v z=>(List.nodup_cons.mp nd).1 (List.of_mem_zip z).1,jI j]
  simp
 | p::P,w::vs,i+1,m,nd,h1,h2,j=>by
  show bindL kindOf ((p,w)::P.zip vs) m x=_
  unfold bindL
  exact v9 (i:=i) (List.nodup_cons.mp nd).2 (by simpa using h1) (by simpa using h2) j
theorem wg{kindOf:Str→Option NameKind}{x:Str}{v:Value}:∀{P:List Str}{vs:List Value}{i:Nat}{m:Str→Option Value},P.Nodup→P[i]?=some x→vs[i]?=some v→kindOf x≠some .local →
  bindC kindOf (P.zip vs) m x=some v
 | [],_,_,_,_,h,_,_=>by simp at h
 | _::_,[],_,_,_,_,h,_=>by simp at h
 | p::P,w::vs,0,m,nd,h1,h2,j=>by
  simp at h1 h2;subst h1;subst h2
  show bindC kindOf ((p,w)::P.zip vs) m p=_
  unfold bindC
  rw[v_ fun v z=>(List.nodup_cons.mp nd).1 (List.of_mem_zip z).1,i9 j]
  simp
 | p::P,w::vs,i+1,m,nd,h1,h2,j=>by
  show bindC kindOf ((p,w)::P.zip vs) m x=_
  unfold bindC
  exact wg (i:=i) (List.nodup_cons.mp nd).2 (by simpa using h1) (by simpa using h2) j
noncomputable def start(N:List Str)(vs:List V):St:=vs.map some++List.replicate (N.length-vs.length) none
noncomputable def eU(CX:Fo)(P:Program)(w:World)(K:PySem.W.Frag)(mg:Str→Option Value)(base:Heap)(N:List Str)(qual:Str)(scope:Scope)(f:Addr)(cd:Value)(A:Around)(outer:List Env)(s:Shared)(H:Hp)(E:XK):Cx where
 prog:=P
 w:=w
 K:=K
 mg:=mg
 base:=base
 A:=A.deeper (envOfC qual scope s.heap.objs.size f cd)
 N:=N
 s_0:=s
 H_0:=H
 env:=envOfC qual scope s.heap.objs.size f cd
 outer:=outer
 stack:=envOfC qual scope s.heap.objs.size f cd::outer
 ex:=[]
 calm:=true
 fn:=fun _=>true
 pn:=[]
 xe:=fun e s'=>wpAny (model P w) (A.deeper (envOfC qual scope s.heap.objs.size f cd)) (leaving (envOfC qual scope s.heap.objs.size f cd) e) (fun _ j=>CX outer H s E e j) (fun z j=>CX outer H s E z j) s'
theorem zM{sc:Scope}{n:Nat}{x:Str}(h:sc.names.lookup x=some .cell):∃c,(cellsFrom n sc.names []).lookup x=some c:=by
 have q:=PySem.W.cellsFrom_some sc.names n [] (.inl h)
 exact Option.isSome_iff_exists.mp q
theorem Hc{CX:Fo}{P:Program}{w:World}{K:PySem.W.Frag}{mg:Str→Option Value}{base:Heap}{N ps:List Str}{qual:Str}{scope:Scope}{f:Addr}{cd:Value}{A:Around}{outer:List Env}{s s1:Shared}{H:Hp}{E:XK}{us:List Value}{vs:List V}
  (S:aK N ps scope) (hd:A.handled=none) (j:Df P w K mg base A outer s H) (hl:vs.length=ps.length) (r:Vals vs us)
  (x:InCallC s s.heap.objs.size (bindL (envOfC qual scope s.heap.objs.size f cd).kindOf (ps.zip us) fun _=>none) (cellsFrom (s.heap.objs.size+1) scope.names []) (bindC (envOfC qual scope s.heap.objs.size f cd).kindOf (ps.zip us) fun _=>none) s1) :
  Inv (eU CX P w K mg base N qual scope f cd A outer s H E) [] (start N vs) H s1:=by
 have Z:ps.length≤N.length:=by have:=congrArg List.length S.pre;rw[ii]at this;omega
 obtain⟨h1,tk,rfl,O⟩:=x.done
 have F:∀b:Addr,b∉(eU CX P w K mg base N qual scope f cd A outer s H E).ex:=fun b z=>absurd (show b∈([]:List Addr)from z) (by simp)
 refine⟨⟨j.mod,S.kind,rfl,rfl,f' _,fun y z c h1 h2=>?_,fun y D=>?_,fun y c _ h=>?_,fun _=>hd,Around.frames_deeper j.frames,.inr ⟨rfl,rfl⟩,fun b z=>absurd z (F b),j.bs,j.bsz,fun b _ _=>F b,fun b z=>absurd z (F b),j.nO,j.frf⟩,
  rfl,j.bare,Un.kept O,⟨_,x.toInCall.ns,fun i y v h1 h2 h3=>?_⟩,fun y c h=>⟨_,x.cell y c h⟩,j.hok.fresh (f' _),fun y c h=>?_,fun p G=>absurd (show p∈([]:List (Addr×Obj))from G) (by simp),j.hok.kept O,?_⟩
 ·exact name_of_addr x.apart (PySem.mem_of_lookup h1) (PySem.mem_of_lookup h2)
 ·have D:scope.names.lookup y=some .cell∨scope.names.lookup y=some .free:=D
  rcases D with D | D
  ·exact zM D
  ·exact absurd rfl (S.nofree _ (PySem.mem_of_lookup D))
 ·exact Nat.le_of_lt (x.above y c (PySem.mem_of_lookup h))
 ·have hi:i<vs.length:=by
   unfold start at h2
   by_cases hi:i<vs.length
   ·exact hi
   ·rw[List.getElem?_append_right (by simpa using hi)]at h2
    rw[List.getElem?_replicate]at h2
    split at h2<;>cases h2
  have Y:vs[i]?=some v:=by
   unfold start at h2
   rw[List.getElem?_append_left (by simpa using hi),iA]at h2
   cases e:vs[i]? with
   | none=>rw[e]at h2;cases h2
   | some a=>rw[e]at h2;cases h2;rfl
  obtain⟨u,L,U⟩:=r.get Y
  have G:ps[i]?=some y:=by
   rw[←S.pre,List.getElem?_take_of_lt (by omega)];exact h1
  have J:ps.Nodup:=by rw[←S.pre];exact S.nd.sublist (List.take_sublist _ _)
  refine⟨u,U,?_⟩
  rcases S.par y (j6 G)with k | k
  ·exact .inl ⟨k,v9 J G L k⟩
  ·obtain⟨c,e⟩:=zM (n:=s.heap.objs.size+1) k
   refine .inr ⟨.inl k,c,e,?_⟩
   have q:=x.cell y c e
   rw[wg J G L (by show scope.names.lookup y≠_;rw[k];decide)]at q
   exact q
 ·exact j.hok.fresh (Nat.le_of_lt (x.above y c (PySem.mem_of_lookup h)))
 ·unfold start
  show _=N.length
  rw[gc,ap,List.length_replicate]
  omega
theorem Va{CX:Fo}{P:Program}{w:World}{K:PySem.W.Frag}{mg:Str→Option Value}{base:Heap}{k:Nat}{f:Addr}{name qual:Str}{params:Arguments}{body:List Stmt}{scope:Scope}{dV kV doc pm cdv ct oc:Value}{an od:Option Addr}
  {osl:Array (Option Value)} {N ps:List Str} {sp:Sp} (lk:K.lookup f=some ⟨oc,od,.func (PySem.W.fnOf name qual params body scope dV kV doc pm an cdv ct),osl⟩) (U:PySem.W.codeIn K cdv qual=true) (S:aK N ps scope)
  (len:∀vs H Q E,sp vs H Q E→vs.length=ps.length)
  (z:∀(A:Around)(outer:List Env)(s:Shared)(H:Hp)(vs:List V)(Q:VK)(E:XK),bG k (A.deeper (envOfC qual scope s.heap.objs.size f cdv))→sp vs H Q E →
   ∃t,zX (eU CX P w K mg base N qual scope f cdv A outer s H E) body t∧t { nx:=fun _ H'=>Q .non H',rt:=Q } (start N vs) H) :
  aF P w K mg base CX (k+1) f (PySem.W.fnOf name qual params body scope dV kV doc pm an cdv ct) ps sp:=by
 refine⟨len,fun A outer s H args us vs Q E L F hb r G=>?_⟩
 have hl:=len _ _ _ _ G
 have Z:K.In s.heap:=F.mod.kin.keeps fun b o e=>(F.bs b o e).1
 have Y:s.heap.NoLimit:=F.mod.nolimit.keeps fun b o e=>(F.bs b o e).1
 have j:∀y∈ps.zip us,scope.names.lookup y.1=some .local∨(scope.names.lookup y.1=some .cell∧((cellsFrom (s.heap.objs.size+1) scope.names []).lookup y.1).isSome=true):=fun⟨n,v⟩ hy=>by
  rcases S.par n (List.of_mem_zip hy).1 with q | q
  ·exact .inl q
  ·exact .inr ⟨q,PySem.W.cellsFrom_some _ _ _ (.inl q)⟩
 refine codeAny_call_function L.depth (Z _ _ lk) rfl S.co S.gen rfl (PySem.W.codeRec_of Z U) (hb _ _ _ _ ?_)
 refine wpAny_newFunctionEnv_cells S.kind j fun env he s1 x=>?_
 subst he
 refine⟨Y.keeps x.toInCall.keep,codeAny_func ?_⟩
 obtain⟨t,ht,hq⟩:=z A outer s H vs Q E (L.deeper _) G
 have I:Inv (eU CX P w K mg base N qual scope f cdv A outer s H E) [] (start N vs) H s1:=Hc S L.hd F hl r x
 refine wpAny_mono (ht [] s1 (start N vs) H _ I hq) (fun fl s' D=>?_) fun e s' D=>D
 have fin:∀{σ':St}{H':Hp}{v:V}{u:Value},Inv (eU CX P w K mg base N qual scope f cdv A outer s H E) [] σ' H' s'→RelV v u→Q v H'→CE outer P w H s Q u s' :=
  fun{σ' H' v u} J O q=>⟨v,H',J.os,J.bare,J.base,J.hok,O,q⟩
 cases fl with
 | ret u =>
  obtain⟨v,σ',H',J,O,q⟩:=D
  exact fin J O q
 | next =>
  obtain⟨σ',H',J,q⟩:=D
  exact fin (v:=V.non) (u:=Value.none) J rfl q
 | brk =>
  obtain⟨_,_,_,q⟩:=D
  exact False.elim q
 | cont =>
  obtain⟨_,_,_,q⟩:=D
  exact False.elim q
end L2
namespace L2
open PySem PySem.Spec PyProof.Rows
section
variable {X:Cx} {x:Str} {p pos:Pos} {e:Expr} {es:List Expr} {t:TA} {id T:String} {r:List V→Hp→VK→Prop}
noncomputable def Qy(r:List V→Hp→VK→Prop)(t:TA):TE:=fun σ H Q=>t σ H fun vs H1=>r vs H1 Q
theorem b7(Z:nu X (.builtin id) r)(F:Gl X x)(D:X.mg x=none)(L:bootBuiltins x=some (.builtin id))(G:PA X (e::es) t)(J:x ≠ "__name__":=by decide)(j:(x==("__debug__" : Str))=false:=by decide)
  (Y:starEach (e::es) X.env=(false,eval e X.env)::starEach es X.env:=by rfl) (z:(backTo pos (starEach es X.env)).any (·.1)=false:=by rfl):PE X (.Call (.Name x p) (e::es) [] pos) (Qy r t):=by
 intro pins s σ H Q I h
 refine wpAny_Call_Name_kw (qe I F D L ?_ J j)
 exact PyProof.Rows.callWith_builtin1 (cG (G pos pins s σ H _ I h) fun us s1 ⟨vs,H1,O,S,U⟩=>Z pins s1 σ H1 vs us Q O S U) Y z
theorem iI(Z:nu X (.type T) r)(F:Gl X x)(D:X.mg x=none)(L:bootBuiltins x=some (.type T))(G:PA X (e::es) t)(J:x ≠ "__name__":=by decide)(j:(x==("__debug__" : Str))=false:=by decide)
  (Y:starEach (e::es) X.env=(false,eval e X.env)::starEach es X.env:=by rfl) (z:(backTo pos (starEach es X.env)).any (·.1)=false:=by rfl):PE X (.Call (.Name x p) (e::es) [] pos) (Qy r t):=by
 intro pins s σ H Q I h
 refine wpAny_Call_Name_kw (qe I F D L ?_ J j)
 exact PyProof.Rows.callWith_type1 (cG (G pos pins s σ H _ I h) fun us s1 ⟨vs,H1,O,S,U⟩=>Z pins s1 σ H1 vs us Q O S U) Y z
end
end L2
namespace HT
open PySem PyProof.Rows
section
open PySem.SeqAt
open PySem.AutoSeq1 (wpAny_loadPart')
open PySem.MeetsSeq PySem.MeetsSeq2 PySem.MeetsSeq3
end
section
variable {prog:Program} {w:World} {A:Around} {E:Value→Shared→Prop} {s:Shared}
noncomputable def gf(n d:Nat):Option Int→Nat
 | none=>d
 | some v=>if v<0 then(v+(n:Int)).toNat else min v.toNat n
theorem JZ(n d:Nat):gf n d none=d:=rfl
theorem oN(n d k:Nat):gf n d (some (k:Int))=min k n:=by
 show(if(k:Int)<0 then((k:Int)+(n:Int)).toNat else min (k:Int).toNat n)=min k n
 rw[i9 (by omega),Int.toNat_natCast]
theorem J0(n d:Nat)(hd:d≤n)(o:Option Int):gf n d o≤n:=by
 cases o with
 | none=>exact hd
 | some v =>
  show(if v<0 then(v+(n:Int)).toNat else min v.toNat n)≤n
  by_cases j:v<0
  ·rw[jI j];omega
  ·rw[i9 j];exact Nat.min_le_right _ _
end
end HT
namespace L2
open PySem PySem.Spec PyProof.Rows
noncomputable abbrev TO:=St→Hp→(Option Int→Hp→Prop)→Prop
noncomputable def PO(X:Cx)(e:Option Expr)(t:TO):Prop :=
 ∀(pins:List (Addr×Obj))(s:Shared)(σ:St)(H:Hp)(Q:Option Int→Hp→Prop),Inv X pins σ H s→t σ H Q →
  wpAny (model X.prog X.w) X.A (evalPart e X.env) (fun u s'=>∃o H',Inv X pins σ H' s'∧IsPart u o∧Q o H') X.xe s
noncomputable def Nq:TO:=fun _ H Q=>Q none H
noncomputable def TX(t:TE):TO:=fun σ H Q=>t σ H fun x H1=>∃i,x=.int i∧Q (some i) H1
section
variable {X:Cx} {e:Expr} {te:TE} {lo hi:Option Expr} {tl th:TO} {pos p2:Pos}
theorem DQ:PO X none Nq:=by
 intro pins s σ H Q I h
 rw[evalPart_none]
 exact wpAny_pure ⟨none,H,I,.none,h⟩
theorem gR(h:PE X e te):PO X (some e) (TX te):=by
 intro pins s σ H Q I hw
 rw[evalPart_some]
 refine cG (h pins s σ H _ I hw) fun u s1 ⟨x,H1,j,z,D⟩=>?_
 obtain⟨i,rfl,q⟩:=D
 obtain⟨t,rfl⟩:=z
 exact⟨some i,H1,j,.int i t,q⟩
noncomputable def Wo(X:Cx)(r:V→Option Int→Option Int→Hp→VK→Prop):Prop :=
 ∀(pins:List (Addr×Obj))(s:Shared)(σ:St)(H:Hp)(x:V)(v j z:Value)(lo hi:Option Int)(sl:Addr)(Q:VK),Inv X pins σ H s→RelV x v→s.heap.IsSliceOf sl j z .none→IsPart j lo→IsPart z hi→r x lo hi H Q →
  ∃T id,typeLookup (.type T) "__getitem__"=pure (some (.builtin id))∧s.TypeIs v T∧wpAny (model X.prog X.w) X.A (getItem v (.ref sl)) (EP X pins σ Q) X.xe s
noncomputable def WF(r:V→Option Int→Option Int→Hp→VK→Prop)(te:TE)(tl th:TO):TE:=fun σ H Q=>te σ H fun x H1=>tl σ H1 fun l H2=>th σ H2 fun u j=>r x l u j Q
theorem jZ{r:V→Option Int→Option Int→Hp→VK→Prop}(Z:Wo X r)(he:PE X e te)(J:PO X lo tl)(O:PO X hi th):PE X (.Subscript e (.Slice lo hi none p2) pos) (WF r te tl th):=by
 intro pins s σ H Q I h
 refine Subscript_ (cG (he pins s σ H _ I h) fun v s1 ⟨x,H1,U,Y,q1⟩=>?_)
 refine wpAny_Slice (cG (J pins s1 σ H1 _ U q1) fun D s2 ⟨l,H2,I2,pl,S⟩=>cG (O pins s2 σ H2 _ I2 S) fun z j ⟨u,F,I3,pu,L⟩=>?_)
 rw[evalPart_none]
 refine wpAny_pure ?_
 have I4:Inv X pins σ F { j with heap:=j.heap.push { cls:=.type "slice",data:=.fields #[D,z,.none] } }:=I3.kept (t':=j.toks) fun b ob q=>Heap.get?_push_of_some _ q
 obtain⟨T,id,hT,ht,G⟩:=Z pins { j with heap:=j.heap.push { cls:=.type "slice",data:=.fields #[D,z,.none] } } σ F x v D z l u j.heap.objs.size Q I4 Y (Heap.IsSliceOf.new ..) pl pu L
 show wpAny (model X.prog X.w) X.A (subscriptTail e (.Slice lo hi none p2) v (.ref j.heap.objs.size)) (EP X pins σ Q) X.xe { j with heap:=j.heap.push { cls:=.type "slice",data:=.fields #[D,z,.none] } }
 exact tail_any (ops:=[.ref j.heap.objs.size,v]) ht hT G (by with_unfolding_all rfl)
noncomputable def nU(xs:List V)(lo hi:Option Int):List V:=(xs.drop (HT.gf xs.length 0 lo)).take (HT.gf xs.length xs.length hi-HT.gf xs.length 0 lo)
theorem zJ(xs:List V)(lo hi:Option Int):(nU xs lo hi).length≤xs.length:=by
 unfold nU
 rw[ii,ke]
 omega
end
end L2
namespace L2
open PySem PySem.Spec PyProof.Rows
noncomputable def M_(n:Nat)(i:Int):Option Nat:=if 0≤i then(if i<n then some i.toNat else none)else if -(n:Int)≤i then some (i+n).toNat else none
noncomputable def qX{α:Type}(xs:List α)(i:Int):Option α:=(M_ xs.length i).bind fun j=>xs[j]?
theorem PX{n:Nat}{i:Int}{j:Nat}(h:M_ n i=some j):seqIndex? i n=some j∧j<n∧-(n:Int)≤i∧i<n:=by
 unfold M_ at h
 by_cases h0:0≤i
 ·rw[jI h0]at h
  by_cases h1:i<n
  ·rw[jI h1]at h
   have e:i.toNat=j:=Option.some.inj h
   exact⟨by rw[seqIndex_of h0 h1,e],by omega,by omega,h1⟩
  ·rw[i9 h1]at h;cases h
 ·rw[i9 h0]at h
  by_cases h1:-(n:Int)≤i
  ·rw[jI h1]at h
   have e:(i+n).toNat=j:=Option.some.inj h
   exact⟨by rw[seqIndex_neg (by omega) h1,e],by omega,h1,by omega⟩
  ·rw[i9 h1]at h;cases h
theorem yh{α:Type}{xs:List α}{i:Int}{v:α}(h:qX xs i=some v):∃j,seqIndex? i xs.length=some j∧xs[j]?=some v∧j<xs.length∧-(xs.length:Int)≤i∧i<xs.length:=by
 unfold qX at h
 cases e:M_ xs.length i with
 | none=>rw[e]at h;cases h
 | some j =>
  rw[e]at h
  obtain⟨h1,h2,D,z⟩:=PX e
  exact⟨j,h1,h,h2,D,z⟩
theorem jw{α:Type}{xs:List α}{j:Nat}{v:α}(h:xs[j]?=some v):qX xs (j:Int)=some v:=by
 have z:j<xs.length:=(hZ.mp h).1
 have e:M_ xs.length (j:Int)=some j:=by
  unfold M_
  rw[jI (by omega),jI (by omega)];simp
 unfold qX;rw[e];exact h
noncomputable def tU(b:Expr):Prop:=∀o i,subscripted b false o i=operate [o,i] (getItem o i)
noncomputable def Vv(X:Cx)(r:R2):Prop :=
 ∀(value slice:Expr)(pins:List (Addr×Obj))(s:Shared)(σ:St)(H:Hp)(x y:V)(v u:Value)(Q:VK),Inv X pins σ H s→RelV x v→RelV y u→r x y H Q →
  subscripted slice false v u=operate [v,u] (getItem v u)→wpAny (model X.prog X.w) X.A (subscriptTail value slice v u) (EP X pins σ Q) X.xe s
noncomputable def HH(X:Cx)(id:String)(r:V→List V→Hp→VK→Prop):Prop :=
 ∀(pins:List (Addr×Obj))(s:Shared)(σ:St)(H:Hp)(x:V)(xs:List V)(v:Value)(us:List Value)(Q:VK),Inv X pins σ H s→RelV x v→Vals xs us→r x xs H Q →
  wpAny (model X.prog X.w) X.A (call (.builtin id) (v::us)) (EP X pins σ Q) X.xe s
section
variable {X:Cx} {a b:Expr} {ta tb:TE} {pos:Pos}
theorem bZ{r:R2}(F:Vv X r)(D:PE X a ta)(J:PE X b tb)(j:tU b):PE X (.Subscript a b pos) (Iv r ta tb):=by
 intro pins s σ H Q I h
 exact Subscript_ (SM D J I h fun v u s2 x y H2 G L z q=>F a b pins s2 σ H2 x y v u Q G L z q (j _ _))
noncomputable def Bc(K:PySem.W.Frag):R2:=fun x y H Q=>∃p xs i v,x=.ref p∧y=.int i∧bV K H p xs∧qX xs i=some v∧Q v H
noncomputable def Ke(K:PySem.W.Frag):R2:=fun x y H Q=>∃p xs i v,x=.ref p∧y=.int i∧cR K H p xs∧qX xs i=some v∧Q v H
noncomputable def V1:R2:=fun x y H Q=>∃z i c,x=.str z∧y=.int i∧z.length≤sizeLine∧qX z.cps.toList i=some c∧Q (.str ⟨#[c]⟩) H
theorem dh:Vv X (Bc X.K):=by
 intro value slice pins s σ H x y v u Q I rx L h G
 obtain⟨p,xs,i,z,rfl,rfl,U,Z,q⟩:=h
 cases rx
 obtain⟨t,rfl⟩:=L
 obtain⟨its,r,pl,hz⟩:=I.list U
 obtain⟨j,h1,h2,h3,Y,S⟩:=yh Z
 obtain⟨w,J,F⟩:=r.get h2
 have O:=r.length
 have hn:=qd
 have fin:EP X pins σ Q w s:=⟨z,H,I,F,q⟩
 by_cases h0:0≤i
 ·have D:i.toNat=j:=by
   rw[seqIndex_of h0 S]at h1
   exact Option.some.inj h1
  exact item_listR pl.isList h0 (by omega) (by rw[D];simpa using J) fin G
 ·have D:(i+(its.toArray.size:Int)).toNat=j:=by
   rw[seqIndex_neg (by omega) Y]at h1
   rw[ia,←O]
   exact Option.some.inj h1
  exact subscriptTail_builtinR (x:=w) pl.isList.typeIs slot_list_getitem.lookup
   (wpAny_getItem_list_neg (Q:=fun r s'=>r=w∧EP X pins σ Q r s') pl.isList (by omega) (by rw[ia]<;>omega) (by omega) (by rw[D];simpa using J) ⟨rfl,fin⟩) G
theorem cX:Vv X (Ke X.K):=by
 intro value slice pins s σ H x y v u Q I U G h F
 obtain⟨p,xs,i,z,rfl,rfl,O,S,q⟩:=h
 cases U
 obtain⟨t,rfl⟩:=G
 obtain⟨its,r,pl,hz⟩:=I.tuple O
 obtain⟨j,h1,h2,h3,h4,Z⟩:=yh S
 obtain⟨w,L,D⟩:=r.get h2
 have J:=r.length
 have Y:=qd
 have fin:EP X pins σ Q w s:=⟨z,H,I,D,q⟩
 exact subscriptTail_builtinR (x:=w) pl.typeIs slot_tuple_getitem.lookup
  (getItem_tuple (j:=j) (Q:=fun r s'=>r=w∧EP X pins σ Q r s') pl (by omega) (by omega) (by rw[ia,←J];exact h1) (by simpa using L) ⟨rfl,fin⟩) F
theorem LK:Vv X V1:=by
 intro value slice pins s σ H x y v u Q I S F h D
 obtain⟨z,i,c,rfl,rfl,hz,O,q⟩:=h
 obtain⟨t,rfl⟩:=S
 obtain⟨t',rfl⟩:=F
 obtain⟨j,h1,h2,Y,L,J⟩:=yh O
 have G:z.cps.toList.length=z.length:=by simp[Str.length]
 rw[G]at h1 L J
 have U:=qd
 exact tail_any (typeIs_str s z t) slot_str_getitem.lookup (getItem_str (c:=c) (by
  have e1:decide (i < -(2 ^ 63:Int))=false:=j4 (by omega)
  have e2:decide (i≥2 ^ 63)=false:=j4 (by omega)
  rw[e1,e2,Bool.or_false]) (by rw[h1];simpa using h2) ⟨.str ⟨#[c]⟩,H,I.tok _,⟨_,rfl⟩,q⟩) D
theorem wM(lo hi:Option Int)(n:Nat):(sliceBounds lo hi none n).1=((HT.gf n 0 lo:Nat):Int)∧(sliceBounds lo hi none n).2.1=((HT.gf n n hi:Nat):Int)∧(sliceBounds lo hi none n).2.2=1:=by
 refine⟨?_,?_,rfl⟩
 ·cases lo with
  | none=>simp[sliceBounds,HT.gf]
  | some i =>
   simp only[sliceBounds,HT.gf,Option.getD_none,show(1:Int)>0 by decide,if_true]
   by_cases h:i<0
   ·simp only[h,if_true]<;>omega
   ·simp only[h,if_false]<;>omega
 ·cases hi with
  | none=>simp[sliceBounds,HT.gf]
  | some i =>
   simp only[sliceBounds,HT.gf,Option.getD_none,show(1:Int)>0 by decide,if_true]
   by_cases h:i<0
   ·simp only[h,if_true]<;>omega
   ·simp only[h,if_false]<;>omega
theorem vg(its:List Value)(lo hi:Option Int):slicePick its.toArray lo hi none=((its.drop (HT.gf its.length 0 lo)).take (HT.gf its.length its.length hi-HT.gf its.length 0 lo)).toArray:=by
 obtain⟨h1,h2,j⟩:=wM lo hi its.toArray.size
 unfold slicePick
 rw[h1,h2,j]
 simp only[sliceRange_one,pick_run,ia]<;>rfl
noncomputable def VV(K:PySem.W.Frag):V→Option Int→Option Int→Hp→VK→Prop:=fun x lo hi H Q=>∃a xs,x=.ref a∧bV K H a xs∧∀p,H p=none→Q (.ref p) (upd H p (.lst (nU xs lo hi)))
theorem rW:Wo X (VV X.K):=by
 intro pins s σ H x v O L lo hi sl Q I G D pl F h
 obtain⟨a,xs,rfl,hx,q⟩:=h
 cases G
 obtain⟨its,r,z,hz⟩:=I.list hx
 have j:=r.length
 refine⟨"list",_,slot_list_getitem.lookup,z.isList.typeIs,?_⟩
 refine wpAny_getItem_list_slice z.isList D pl F .none (by simp) ?_ (by rw[ia]<;>omega)
 rw[vg,←j]
 refine⟨.ref s.heap.objs.size,_,I.laid (t':=s.toks) (o:=.lst (nU xs lo hi)) (fun b J q=>Heap.get?_push_of_some _ q) (f' _) ?_,rfl,q _ (I.hok.fresh (f' _))⟩
 exact⟨ip (zJ xs lo hi) hz,_,0,(r.drop (HT.gf xs.length 0 lo)).take (HT.gf xs.length xs.length hi-HT.gf xs.length 0 lo),Heap.get?_push_size _ rfl⟩
noncomputable def fV:V→Bool
 | .non=>true
 | .bl _=>true
 | .int _=>true
 | .str _=>true
 | _=>false
noncomputable def Mm:V→V→Bool
 | .non,.non=>true
 | .bl a,.bl b=>a==b
 | .bl a,.int b=>(if a then 1 else 0)==b
 | .int a,.bl b=>a==(if b then 1 else 0)
 | .int a,.int b=>a==b
 | .str a,.str b=>a==b
 | _,_=>false
theorem Mp{A:Around}{s:Shared}{y x:V}{u v:Value}(z:RelV y u)(j:RelV x v)(F:fV y=true)(D:fV x=true):SeqAt.EqAt A s u v (Mm y x):=by
 cases y with
 | non =>
  cases z
  cases x with
  | non=>cases j;exact SeqAt.EqAt.same _
  | bl b=>cases j;exact SeqAt.EqAt.none_bool b
  | int b=>obtain⟨t,rfl⟩:=j;exact SeqAt.EqAt.none_int b t
  | str b=>obtain⟨t,rfl⟩:=j;exact SeqAt.EqAt.none_str b t
  | _=>exact absurd (show false=true from D) io
 | bl a =>
  cases z
  cases x with
  | non=>cases j;exact SeqAt.EqAt.bool_none a
  | bl b=>cases j;exact SeqAt.EqAt.bool_bool a b
  | int b=>obtain⟨t,rfl⟩:=j;exact SeqAt.EqAt.bool_int a b t
  | str b=>obtain⟨t,rfl⟩:=j;exact SeqAt.EqAt.bool_str a b t
  | _=>exact absurd (show false=true from D) io
 | int a =>
  obtain⟨t',rfl⟩:=z
  cases x with
  | non=>cases j;exact SeqAt.EqAt.int_none a t'
  | bl b=>cases j;exact SeqAt.EqAt.int_bool a t' b
  | int b=>obtain⟨t,rfl⟩:=j;exact SeqAt.EqAt.int_int a t' b t
  | str b=>obtain⟨t,rfl⟩:=j;exact SeqAt.EqAt.int_str a t' b t
  | _=>exact absurd (show false=true from D) io
 | str a =>
  obtain⟨t',rfl⟩:=z
  cases x with
  | non=>cases j;exact SeqAt.EqAt.str_none a t'
  | bl b=>cases j;exact SeqAt.EqAt.str_bool a t' b
  | int b=>obtain⟨t,rfl⟩:=j;exact SeqAt.EqAt.str_int a t' b t
  | str b=>obtain⟨t,rfl⟩:=j;exact SeqAt.EqAt.str_str a t' b t
  | _=>exact absurd (show false=true from D) io
 | _=>exact absurd (show false=true from F) io
noncomputable def z6(x:V)(u:Value):Bool:=match u with
 | .none=>Mm .non x
 | .bool b=>Mm (.bl b) x
 | .int i _=>Mm (.int i) x
 | .str z _=>Mm (.str z) x
 | _=>false
theorem xR{x y:V}{u:Value}(r:RelV y u)(f:fV y=true):z6 x u=Mm y x:=by
 cases y with
 | non=>cases r;rfl
 | bl b=>cases r;rfl
 | int i=>obtain⟨t,rfl⟩:=r;rfl
 | str z=>obtain⟨t,rfl⟩:=r;rfl
 | _=>exact absurd (show false=true from f) io
theorem pI{x:V}:∀{xs:List V}{us:List Value},Vals xs us→xs.all fV=true→us.any (z6 x)=xs.any fun y=>Mm y x
 | _,_,.nil,_=>rfl
 | y::xs,u::us,.cons r t,f=>by
  rw[List.all_cons,h9]at f
  rw[List.any_cons,List.any_cons,xR r f.1,pI t f.2]
theorem iQ{A:Around}{s:Shared}{x:V}{v:Value}(D:RelV x v)(z:fV x=true):∀{xs:List V}{us:List Value},Vals xs us→xs.all fV=true→∀u∈us,SeqAt.EqAt A s u v (z6 x u)
 | _,_,.nil,_=>fun u j=>by cases j
 | y::xs,u::us,.cons r t,f=>fun F j=>by
  rw[List.all_cons,h9]at f
  rcases hU.mp j with rfl | j
  ·rw[xR r f.1];exact Mp r D f.1 z
  ·exact iQ D z t f.2 F j
noncomputable def inV(x:V)(xs:List V):Bool:=xs.any fun y=>Mm y x
noncomputable def Wr(K:PySem.W.Frag)(neg:Bool):R2:=fun x y H Q=>∃p xs,y=.ref p∧(bV K H p xs∨cR K H p xs)∧fV x=true∧xs.all fV=true∧Q (.bl (if neg then !inV x xs else inV x xs)) H
theorem iM:oA X (compareOp .In) (Wr X.K false):=by
 intro pins s σ H x y v u Q I D F h
 obtain⟨p,xs,rfl,j,z,fs,q⟩:=h
 cases F
 rcases j with j | j
 ·obtain⟨its,r,pl,hz⟩:=I.list j
  refine SeqAt.in_listAt (z6 x) pl.isList (fun w hw=>iQ D z r fs w (by simpa using hw)) ⟨.bl _,H,I,rfl,?_⟩
  rw[show its.toArray.any (z6 x)=its.any (z6 x) by simp,pI r fs]
  exact q
 ·obtain⟨its,r,pl,hz⟩:=I.tuple j
  refine SeqAt.in_tupleAt (z6 x) pl (fun w hw=>iQ D z r fs w (by simpa using hw)) ⟨.bl _,H,I,rfl,?_⟩
  rw[show its.toArray.any (z6 x)=its.any (z6 x) by simp,pI r fs]
  exact q
theorem xr:oA X (compareOp .NotIn) (Wr X.K true):=by
 intro pins s σ H x y v u Q I D F h
 obtain⟨p,xs,rfl,j,z,fs,q⟩:=h
 cases F
 rcases j with j | j
 ·obtain⟨its,r,pl,hz⟩:=I.list j
  refine SeqAt.notIn_listAt (z6 x) pl.isList (fun w hw=>iQ D z r fs w (by simpa using hw)) ⟨.bl _,H,I,rfl,?_⟩
  rw[show its.toArray.any (z6 x)=its.any (z6 x) by simp,pI r fs]
  exact q
 ·obtain⟨its,r,pl,hz⟩:=I.tuple j
  refine SeqAt.notIn_tupleAt (z6 x) pl (fun w hw=>iQ D z r fs w (by simpa using hw)) ⟨.bl _,H,I,rfl,?_⟩
  rw[show its.toArray.any (z6 x)=its.any (z6 x) by simp,pI r fs]
  exact q
theorem bJ:nu X (.builtin "len") (fun xs H Q=>∃p ys,xs=[.ref p]∧(bV X.K H p ys∨cR X.K H p ys)∧Q (.int ys.length) H):=by
 intro pins s σ H xs us Q I r h
 obtain⟨p,ys,rfl,z,q⟩:=h
 obtain⟨u,rfl,F⟩:=vals1 r
 cases F
 have G:=qd
 rcases z with z | z
 ·obtain⟨its,D,pl,hz⟩:=I.list z
  have j:=D.length
  exact Calls.call_len_list pl.isList (by simp only[ia]<;>omega) ⟨.int ys.length,H,I.tok _,⟨s.toks+1,by rw[ia,j]⟩,q⟩
 ·obtain⟨its,D,pl,hz⟩:=I.tuple z
  have j:=D.length
  exact len_tuple pl (by simp only[ia]<;>omega) ⟨.int ys.length,H,I.tok _,⟨s.toks+1,by rw[ia,j]⟩,q⟩
theorem gm:nu X (.builtin "len") (fun xs H Q=>∃z,xs=[.str z]∧z.length≤sizeLine∧Q (.int z.length) H):=by
 intro pins s σ H xs us Q I r h
 obtain⟨z,rfl,hz,q⟩:=h
 obtain⟨u,rfl,t,rfl⟩:=vals1 r
 have j:=qd
 exact len_str (by omega) ⟨.int z.length,H,I.tok _,⟨_,rfl⟩,q⟩
theorem xZ:nu X (.type "list") (fun xs H Q=>∃p ys,xs=[.ref p]∧(bV X.K H p ys∨cR X.K H p ys)∧∀l,H l=none→Q (.ref l) (upd H l (.lst ys))):=by
 intro pins s σ H xs us Q I r h
 obtain⟨p,ys,rfl,D,q⟩:=h
 obtain⟨u,rfl,L⟩:=vals1 r
 cases L
 have fin:∀(its:List Value),Vals ys its→ys.length≤sizeLine→∀(h':Heap)(z:Nat),(∀b o',s.heap.get? b=some o'→h'.get? b=some o') →
   h'.get? s.heap.objs.size=some { cls:=.type "list",dict:=none,data:=.seq its.toArray z,slots:=#[] }→EP X pins σ Q (.ref s.heap.objs.size) { s with heap:=h' }:=fun its j hz h' z kp e =>
  ⟨.ref s.heap.objs.size,_,I.laid (t':=s.toks) kp (f' _) (show cU X.prog X.w _ h' _ (.lst ys)from⟨hz,its,z,j,e⟩),rfl,q _ (I.hok.fresh (f' _))⟩
 rcases D with D | D
 ·obtain⟨its,j,pl,hz⟩:=I.list D
  have F:=j.length
  obtain⟨o,G,J,n,hd⟩:=pl.isList
  exact call_list_seq p (.inl rfl) G J hd (fun h' z kp e=>fin its j hz h' z kp e) (by simp only[ia]<;>omega)
 ·obtain⟨its,j,pl,hz⟩:=I.tuple D
  have F:=j.length
  obtain⟨o,G,J,n,hd⟩:=pl
  exact call_list_seq p (.inr rfl) G J hd (fun h' z kp e=>fin its j hz h' z kp e) (by simp only[ia]<;>omega)
theorem vo:nu X (.type "tuple") (fun xs H Q=>∃p ys,xs=[.ref p]∧((bV X.K H p ys∧∀l,H l=none→Q (.ref l) (upd H l (.tup ys)))∨(cR X.K H p ys∧Q (.ref p) H))):=by
 intro pins s σ H xs us Q I r h
 obtain⟨p,ys,rfl,h⟩:=h
 obtain⟨u,rfl,J⟩:=vals1 r
 cases J
 rcases h with⟨j,q⟩ | ⟨j,q⟩
 ·obtain⟨its,z,pl,hz⟩:=I.list j
  have F:=z.length
  refine call_tuple_list pl.isList (fun h' kp=>?_) (by simp only[ia]<;>omega)
  have D:Inv X pins σ H { s with heap:=h' }:=I.kept (t':=s.toks) kp
  have G:Inv X pins σ (upd H h'.objs.size (.tup ys)) { s with heap:=h'.push { cls:=.type "tuple",data:=.seq its.toArray } } :=
   D.laid (t':=s.toks) (fun b o e=>Heap.get?_push_of_some _ e) (f' _) (show cU X.prog X.w _ _ _ (.tup ys)from⟨hz,its,z,IsTup.new _ _⟩)
  exact⟨.ref h'.objs.size,_,G,rfl,q _ (D.hok.fresh (f' _))⟩
 ·obtain⟨its,z,pl,hz⟩:=I.tuple j
  exact call_tuple_same pl ⟨.ref p,H,I,rfl,q⟩
noncomputable def Vx(K:PySem.W.Frag)(T:String)(x:V)(H:Hp):Prop:=match x with
 | .str _=>T = "str"
 | .int _=>T = "int"
 | .ref p=>(T = "list"∧∃xs,bV K H p xs)∨(T = "tuple"∧∃o,K.lookup p=some o∧o.cls=.type "tuple"∧o.dict=none) ∨
   (T = "dict"∧((∃kvs,H p=some (.dK kvs))∨∃kvs,H p=some (.dT kvs)))∨(T = "set"∧∃S n,H p=some (.set S n))
 | _=>False
theorem Ih{pins:List (Addr×Obj)}{σ:St}{H:Hp}{s:Shared}{T:String}{x:V}{v:Value}(I:Inv X pins σ H s)(r:RelV x v)(ty:Vx X.K T x H) :
  s.TypeIs v T∧∀a,v=.ref a→∃D,s.heap.get? a=some D∧D.dict=none:=by
 cases x with
 | str z =>
  obtain⟨t,rfl⟩:=r
  cases(show T = "str" from ty)
  exact⟨typeIs_str s z t,fun _ e=>nomatch e⟩
 | int i =>
  obtain⟨t,rfl⟩:=r
  cases(show T = "int" from ty)
  exact⟨typeIs_int s i t,fun _ e=>nomatch e⟩
 | ref p =>
  cases r
  rcases ty with⟨rfl,xs,F⟩ | ⟨rfl,o,j,G,hd⟩ | ⟨rfl,j⟩ | ⟨rfl,S,n,j⟩
  ·obtain⟨its,_,pl,_⟩:=I.list F
   refine⟨pl.isList.typeIs,fun a e=>?_⟩
   cases e
   obtain⟨o,n,e,c,hd,_⟩:=pl
   exact⟨o,e,hd⟩
  ·refine⟨⟨o,I.o6 p o j,G⟩,fun a e=>?_⟩
   cases e
   exact⟨o,I.o6 _ o j,hd⟩
  ·have z:∃o,s.heap.get? p=some o∧o.ExactDict:=by
    rcases j with⟨kvs,j⟩ | ⟨kvs,j⟩
    ·obtain⟨_,_,_,_,o,_,_,e,ex,_⟩:=I.hok p _ j
     exact⟨o,e,ex⟩
    ·obtain⟨_,_,_,_,o,_,_,e,ex,_⟩:=I.hok p _ j
     exact⟨o,e,ex⟩
   obtain⟨o,e,ex⟩:=z
   refine⟨⟨o,e,ex.1⟩,fun a e2=>?_⟩
   cases e2
   exact⟨o,e,ex.2.1⟩
  ·obtain⟨o,_,_,_,e,ex,_⟩:=I.hok p _ j
   refine⟨⟨o,e,ex.1⟩,fun a e2=>?_⟩
   cases e2
   exact⟨o,e,ex.2.1⟩
 | _=>exact False.elim ty
noncomputable def VG(K:PySem.W.Frag)(T:String)(r:V→List V→Hp→VK→Prop)(to:TE):TE:=fun σ H Q=>to σ H fun x H1=>Vx K T x H1∧r x [] H1 Q
noncomputable def WL(K:PySem.W.Frag)(T:String)(r:V→List V→Hp→VK→Prop)(to:TE)(t:TA):TE:=fun σ H Q=>to σ H fun x H1=>Vx K T x H1∧t σ H1 fun xs H2=>r x xs H2 Q
variable {o e:Expr} {es:List Expr} {to:TE} {t:TA} {name:Str} {apos cpos:Pos} {T id:String} {r:V→List V→Hp→VK→Prop}
theorem Bl(S:PlainAttrs T)(slot:Slot T name id)(D:typeOf (.builtin id)=pure (.type "method_descriptor"))(J:HH X id r)(L:PE X o to)
  (j:attributeBase o name X.env (eval o X.env)=eval o X.env:=by rfl) (z:(apos.endLine==cpos.line)=true:=by rfl):PE X (.Call (.Attribute o name apos) [] [] cpos) (VG X.K T r to):=by
 intro pins s σ H Q I h
 refine wpAny_Call_method0_late j z (cG (L pins s σ H _ I h) fun v s1 ⟨x,H1,F,G,ty,O⟩=>?_)
 obtain⟨h1,h2⟩:=Ih F G ty
 exact⟨T,id,S,slot,D,h1,h2,Calls.callWith_builtin rfl (PySem.evalArgs_none (J pins s1 σ H1 x [] v [] Q F G .nil O))⟩
theorem gB(pa:PlainAttrs T)(slot:Slot T name id)(G:typeOf (.builtin id)=pure (.type "method_descriptor"))(U:HH X id r)(ho:PE X o to)(Y:PA X (e::es) t)
  (z:attributeBase o name X.env (eval o X.env)=eval o X.env:=by rfl)
  (F:((backTo cpos (starEach (e::es) X.env)).all (fun x=>!x.1)&&(backToKw cpos (keywordEach [] X.env)).all (fun x=>x.1.isSome)
   && decide ((e::es).length+([]:List Keyword).length+(if([]:List Keyword).isEmpty then 0 else 1)<30))=true:=by rfl)
  (D:(apos.endLine==cpos.line)=true:=by rfl) (S:starEach (e::es) X.env=(false,eval e X.env)::starEach es X.env:=by rfl) (j:(backTo cpos (starEach es X.env)).any (·.1)=false:=by rfl) :
  PE X (.Call (.Attribute o name apos) (e::es) [] cpos) (WL X.K T r to t):=by
 intro pins s σ H Q I h
 refine wpAny_Call_method_late z F D rfl (cG (ho pins s σ H _ I h) fun v s1 ⟨x,H1,J,L,ty,q1⟩=>?_)
 obtain⟨h1,h2⟩:=Ih J L ty
 refine⟨T,id,pa,slot,G,h1,h2,?_⟩
 have O:=Y cpos pins s1 σ H1 _ J q1
 rw[S]at O ⊢
 refine Calls.callWith_builtin (by show(false||(backTo cpos (starEach es X.env)).any (·.1))=false;rw[j]<;>rfl) (Calls.evalArgs_plain ?_)
 exact cG O fun us s2 ⟨vs,H2,I2,r2,Z⟩=>U pins s2 σ H2 x vs v us Q I2 L r2 Z
/- xs.append(e),list.index on a module's tuple .. are HH facts of 06m -/
end
end L2
namespace L2
open PySem PySem.Spec PyProof.Rows
noncomputable def Vu(X:Cx)(id:String)(r:V→List V→Hp→VK→Prop):Prop :=
 ∀(pins:List (Addr×Obj))(s:Shared)(σ:St)(H:Hp)(x:V)(xs:List V)(v:Value)(us:List Value)(Q:VK),Inv X pins σ H s→RelV x v→Vals xs us→r x xs H Q →
  wpAny (model X.prog X.w) X.A (call (.builtin id) (v::us)) (EP X pins σ Q) X.xe s
theorem Vals.one:∀{x:V}{us:List Value},Vals [x] us→∃u,us=[u]∧RelV x u
 | _,_,.cons r .nil=>⟨_,rfl,r⟩
theorem Vals.zero:∀{us:List Value},Vals [] us→us=[]
 | _,.nil=>rfl
theorem Vals.dropLast{xs:List V}{us:List Value}(h:Vals xs us):Vals xs.dropLast us.dropLast:=by
 induction h with
 | nil=>exact .nil
 | cons r t j =>
  cases t with
  | nil=>exact .nil
  | cons q t'=>exact .cons r j
theorem Cj{α:Type}(l:List α):l.eraseIdx (l.length-1)=l.dropLast:=by
 induction l with
 | nil=>rfl
 | cons a r j =>
  cases r with
  | nil=>rfl
  | cons b r =>
   have e:(a::b::r).length-1=((b::r).length-1)+1:=by
    have h1:(a::b::r).length=r.length+2:=rfl
    have h2:(b::r).length=r.length+1:=rfl
    omega
   rw[e,List.eraseIdx_cons_succ,j]
   all_goals rfl
section
variable {X:Cx} {pins:List (Addr×Obj)} {σ:St} {H:Hp} {s:Shared} {l b:Addr} {xs ys zs:List V}
theorem Inv.Pk{its its':List Value}{n:Nat}{f:Array Value→Array Value}{t':Nat}(I:Inv X pins σ H s)(G:H l=some (.lst xs))
  (e:s.heap.get? l=some { cls:=.type "list",data:=.seq its.toArray n }) (j:f its.toArray=its'.toArray) (z:Vals ys its') (hz:ys.length≤sizeLine) :
  Inv X pins σ (upd H l (.lst ys)) { s with heap:=s.heap.update l (Obj.mapSeq f),toks:=t' }:=by
 have q:=PySem.IsL.update e f
 rw[j]at q
 refine I.write (x:=l) (e:=l) (by rw[G];exact trivial) (.inl rfl) (fun J u F D=>(Heap.get?_update_other s.heap (Obj.mapSeq f) (Ne.symm F)).trans D) ⟨_,q⟩ ?_
 exact⟨hz,its',_,z,q⟩
theorem Inv.Wc{its:List Value}{t':Nat}(I:Inv X pins σ H s)(j:Vals ys its)(hz:ys.length≤sizeLine) :
  Inv X pins σ (upd H s.heap.objs.size (.lst ys)) { s with heap:=s.heap.push { cls:=.type "list",data:=.seq its.toArray },toks:=t' } :=
 I.laid (fun _ _ q=>Heap.get?_push_of_some _ q) (f' _) ⟨hz,its,0,j,Heap.get?_push_size _ rfl⟩
theorem Inv.fresh(I:Inv X pins σ H s):H s.heap.objs.size=none:=I.hok.fresh (f' _)
theorem Inv.BJ(I:Inv X pins σ H s)(j:H l=some (.lst xs)):xs.length≤sizeLine∧∃(its:List Value)(n:Nat),Vals xs its∧xs.length=its.length∧s.heap.get? l=some { cls:=.type "list",data:=.seq its.toArray n }:=by
 obtain⟨z,its,n,r,e⟩:=I.hok l _ j
 exact⟨z,its,n,r,r.length,e⟩
theorem y_{n:Nat}(h:n≤sizeLine):Builtin.List.listTooLong n=false:=by
 unfold Builtin.List.listTooLong
 exact j4 (by omega)
end
section
variable {X:Cx}
noncomputable def Ob:V→List V→Hp→VK→Prop:=fun x vs H Q=>∃l xs y,x=.ref l∧vs=[y]∧H l=some (.lst xs)∧xs.length<sizeLine∧Q .non (upd H l (.lst (xs++[y])))
theorem gq:Vu X "list.append" Ob:=by
 intro pins s σ H x vs v us Q I G D h
 obtain⟨l,xs,y,rfl,rfl,j,hz,q⟩:=h
 cases G
 obtain⟨u,rfl,J⟩:=D.one
 obtain⟨z,its,n,r,L,e⟩:=I.BJ j
 refine call_meets F.slot_list_append ⟨_,e,rfl⟩ F.entry_list_append (F.args_list_append_2 _ _) (PySem.list_append l its.toArray n u (by rw[ia];omega)) ⟨e,?_⟩
 refine⟨.non,_,I.Pk (its':=its++[u]) j e (by simp) (r.append (.cons J .nil)) ?_,rfl,q⟩
 rw[gc,List.length_singleton]
 omega
noncomputable def Oa:V→List V→Hp→VK→Prop:=fun x vs H Q=>∃l b xs zs,x=.ref l∧vs=[.ref b]∧H l=some (.lst xs)∧H b=some (.lst zs)∧xs.length+zs.length≤sizeLine∧Q .non (upd H l (.lst (xs++zs)))
theorem vO:Vu X "list.extend" Oa:=by
 intro pins s σ H x vs v us Q I Y J h
 obtain⟨l,b,xs,zs,rfl,rfl,G,L,hz,q⟩:=h
 cases Y
 obtain⟨u,rfl,Z⟩:=J.one
 cases Z
 obtain⟨z,its,n,r,hl,e⟩:=I.BJ G
 obtain⟨z2,j,S,U,O,e2⟩:=I.BJ L
 have hsz:its.toArray.size+j.toArray.size≤sizeLine:=by rw[ia,ia];omega
 have D:¬(!its.toArray.isEmpty&&Builtin.List.listTooLong (its.toArray.size+j.toArray.size))=true:=by
  rw[y_ hsz,Bool.and_false]
  exact io
 refine call_meets F.slot_list_extend ⟨_,e,rfl⟩ F.entry_list_extend (F.args_list_extend_2 _ _)
  (AutoSeq1.list_extend_list_list_0 l its.toArray n b j.toArray S D (by rw[ia];omega) (by omega)) ⟨e,e2,?_⟩
 refine⟨.non,_,I.Pk (its':=its++j) G e (by simp) (r.append U) ?_,rfl,q⟩
 rw[gc]
 omega
noncomputable def V0:V→List V→Hp→VK→Prop:=fun x vs H Q=>∃l xs y,x=.ref l∧vs=[]∧H l=some (.lst xs)∧xs[xs.length-1]?=some y∧Q y (upd H l (.lst xs.dropLast))
theorem R_:Vu X "list.pop" V0:=by
 intro pins s σ H x vs v us Q I U L h
 obtain⟨l,xs,y,rfl,rfl,G,J,q⟩:=h
 cases U
 have j:=L.zero
 subst j
 obtain⟨z,its,n,r,O,e⟩:=I.BJ G
 obtain⟨u,S,Y⟩:=r.get J
 have D:its.toArray[its.toArray.size-1]?=some u:=by
  show its.toArray[its.length-1]?=some u
  rw[←Array.getElem?_toList,←O]
  exact S
 refine call_meets F.slot_list_pop ⟨_,e,rfl⟩ F.entry_list_pop (F.args_list_pop_1 _) (MeetsSeq.list_pop_last l its.toArray n u D (by rw[ia];omega)) ⟨e,?_⟩
 refine⟨y,_,I.Pk (its':=its.dropLast) G e ?_ r.dropLast ?_,Y,q⟩
 ·show its.toArray.eraseIdxIfInBounds (its.toArray.size-1)=its.dropLast.toArray
  rw[ia,List.eraseIdxIfInBounds_toArray,Cj]
 ·rw[List.length_dropLast]
  omega
noncomputable def V2:R2:=fun x y H Q=>∃l b xs zs,x=.ref l∧y=.ref b∧H l=some (.lst xs)∧H b=some (.lst zs)∧xs.length+zs.length≤sizeLine∧∀p,H p=none→Q (.ref p) (upd H p (.lst (xs++zs)))
theorem Br:oA X (binaryOp .Add) V2:=by
 intro pins s σ H x y v u Q I O D h
 obtain⟨l,b,xs,zs,rfl,rfl,S,G,hz,q⟩:=h
 cases O
 cases D
 obtain⟨z,its,n,r,U,e⟩:=I.BJ S
 obtain⟨Z,j,Y,L,J,e2⟩:=I.BJ G
 refine PySem.P.add_list e e2 ?_ (by rw[ia,ia];omega)
 have F:its.toArray++j.toArray=(its++j).toArray:=by simp
 rw[F]
 exact⟨.ref _,_,I.Wc (t':=s.toks) (r.append L) (by rw[gc];omega),rfl,q _ I.fresh⟩
end
section
variable {prog:Program} {w:World} {A:Around} {E:Value→Shared→Prop} {s:Shared}
set_option maxRecDepth 100000 in
end
section
variable {X:Cx}
end
end L2
namespace L2
open PySem PySem.Spec PyProof.Rows
theorem Vals.ints:∀{ns:List Int}{us:List Value},Vals (ns.map V.int) us→IntsAre us ns
 | [],us,h=>by
  rw[List.map_nil]at h
  cases h
  exact IntsAre.nil
 | n::ns,us,h=>by
  rw[i4]at h
  cases h with
  | cons r t =>
   obtain⟨k,rfl⟩:=r
   exact IntsAre.cons n k (Vals.ints t)
theorem Vals.Ul{a:Addr}{us:List Value}(r:Vals [V.ref a] us):us=[Value.ref a]:=by
 cases r with
 | cons r t =>
  cases t
  cases r
  rfl
section
variable {prog:Program} {w:World} {A:Around} {E:Value→Shared→Prop} {s:Shared} {l:Addr} {its:List Value} {ns:List Int} {Q:Value→Shared→Prop}
end
section
variable {X:Cx}
end
section
variable {X:Cx}
theorem Em{ys:List V}(f:ys.all fV=true){j:Nat}{z:V}(h:ys[j]?=some z):fV z=true:=j5.mp f z (j6 h)
end
section
variable {X:Cx}
end
section
variable {X:Cx}
end
mutual
inductive Dp (K:PySem.W.Frag) (H:Hp):V→PyData→Prop
 | non:Dp K H .non .none
 | bl (b:Bool):Dp K H (.bl b) (.bool b)
 | int (i:Int):Dp K H (.int i) (.int i)
 | str (x:Str):Dp K H (.str x) (.str x)
 | lst {a:Addr} {xs:List V} {ds:List PyData}:bV K H a xs→u9 K H xs ds→Dp K H (.ref a) (.list ds)
 | tup {a:Addr} {xs:List V} {ds:List PyData}:cR K H a xs→u9 K H xs ds→Dp K H (.ref a) (.tuple ds)
inductive u9 (K:PySem.W.Frag) (H:Hp):List V→List PyData→Prop
 | nil:u9 K H [] []
 | cons {v:V} {vs:List V} {d:PyData} {ds:List PyData}:Dp K H v d→u9 K H vs ds→u9 K H (v::vs) (d::ds)
end
section
variable {X:Cx} {pins:List (Addr×Obj)} {σ:St} {H:Hp} {s:Shared}
mutual
theorem Dp.reads(I:Inv X pins σ H s):∀(d:PyData)(v:V)(u:Value),Dp X.K H v d→RelV v u→∃as,Reads s.heap u d as
 | .none,_,_,h,r=>by
  cases h
  cases r
  exact⟨_,Reads.none⟩
 | .bool b,_,_,h,r=>by
  cases h
  cases r
  exact⟨_,Reads.bool b⟩
 | .int i,_,_,h,r=>by
  cases h
  obtain⟨t,rfl⟩:=r
  exact⟨_,Reads.int i t⟩
 | .str x,_,_,h,r=>by
  cases h
  obtain⟨t,rfl⟩:=r
  exact⟨_,Reads.str x t⟩
 | .list ds,_,_,h,r=>by
  cases h with
  | lst j D =>
   cases r
   obtain⟨its,z,⟨o,n,F,J,_,hd⟩,_⟩:=I.list j
   obtain⟨as,G⟩:=Dp.readsAll I ds _ its D z
   exact⟨_,Reads.list F J hd G⟩
 | .tuple ds,_,_,h,r=>by
  cases h with
  | tup j D =>
   cases r
   obtain⟨its,z,⟨o,F,J,n,hd⟩,_⟩:=I.tuple j
   obtain⟨as,G⟩:=Dp.readsAll I ds _ its D z
   exact⟨_,Reads.tuple F J hd G⟩
 | .dict _,_,_,h,_=>by cases h
theorem Dp.readsAll(I:Inv X pins σ H s):∀(ds:List PyData)(vs:List V)(us:List Value),u9 X.K H vs ds→Vals vs us→∃as,ReadsAll s.heap us ds as
 | [],_,_,h,r=>by
  cases h
  cases r
  exact⟨_,ReadsAll.nil⟩
 | d::ds,_,_,h,r=>by
  cases h with
  | cons h1 h2 =>
   cases r with
   | cons z F =>
    obtain⟨as,D⟩:=Dp.reads I d _ _ h1 z
    obtain⟨bs,j⟩:=Dp.readsAll I ds _ _ h2 F
    exact⟨_,ReadsAll.cons D j⟩
end
end
section
variable {X:Cx}
noncomputable def Up(K:PySem.W.Frag):R2:=fun x y H Q=>∃d e,Dp K H x d∧Dp K H y e∧SeqAt.shaped d=true∧SeqAt.shaped e=true∧Q (.bl (PyData.eqv d e)) H
theorem RK(D:X.A.units+64<cLine):oA X (compareOp .Eq) (Up X.K):=by
 intro pins s σ H x y v u Q I O j h
 obtain⟨d,e,hd,J,G,z,q⟩:=h
 obtain⟨as,F⟩:=Dp.reads I d x v hd O
 obtain⟨bs,L⟩:=Dp.reads I e y u J j
 exact SeqAt.compareEq_shaped F L G z D ⟨.bl _,H,I,rfl,q⟩
end
end L2
namespace L2
open PySem PySem.Spec PyProof.Rows
noncomputable abbrev M7(h:Heap)(c:Addr)(v:Option Value):Prop:=h.IsCell c v
noncomputable def VN(scope sc:Scope):Scope :=
  { scope with names:=scope.names.map fun(n,k)=>if(k==.free&&sc.kind==.function&&sc.names.lookup n==some .cell)then(n,.cell)else(n,k) }
noncomputable def bW(cells:List (Str×Addr)):List (Str×NameKind)→List (Str×Addr)→List (Str×Addr)
 | [],acc=>acc
 | (n,k)::r,acc=>if k==.free then bW cells r ((n,(cells.lookup n).getD 0)::acc)else bW cells r acc
theorem pA(env:Env)(f:Str×NameKind→List (Str×Addr)→Sem (ForInStep (List (Str×Addr))))
  (z:∀n k c,f (n,k) c=if k==.free then(do let a ←cellOf env n;pure (.yield ((n,a)::c)))else pure (.yield c)) :
  ∀(names:List (Str×NameKind))(acc:List (Str×Addr)),(∀y∈names,y.2=.free→∃c,env.cells.lookup y.1=some c)→forIn names acc f=pure (bW env.cells names acc)
 | [],acc,_=>by rw[List.forIn_nil];rfl
 | (n,k)::r,acc,h=>by
  rw[List.forIn_cons,z]
  have F:=fun acc=>pA env f z r acc fun y G=>h y (am _ G)
  unfold bW
  by_cases j:(k==NameKind.free)=true
  ·rw[jI j,jI j]
   obtain⟨c,D⟩:=h (n,k) b' (by simpa using j)
   have e:cellOf env n=pure c:=by unfold cellOf;rw[D]
   rw[e]
   have e2:(env.cells.lookup n).getD 0=c:=by rw[D];rfl
   rw[e2]
   exact F _
  ·rw[i9 j,i9 j]
   exact F _
theorem uR{scope:Scope}{env:Env}(h:∀y∈scope.names,y.2=.free→∃c,env.cells.lookup y.1=some c):closureFor scope env=pure (bW env.cells scope.names []):=by
 simp only[closureFor]
 rw[pA env _ (fun n k c=>rfl) scope.names [] h]
 rfl
theorem mem_lookup{α:Type}:∀{l:List (Str×α)}{n:Str}{c:α},(n,c)∈l→∃j,l.lookup n=some j
 | (k,v)::r,n,c,h=>by
  rw[List.lookup_cons]
  cases z:n==k with
  | true=>exact⟨_,rfl⟩
  | false =>
   rcases hU.mp h with e | h
   ·cases e;simp at z
   ·exact mem_lookup h
theorem gZ{cells:List (Str×Addr)}:∀{names:List (Str×NameKind)}{acc:List (Str×Addr)}{n:Str}{c:Addr},(n,c)∈bW cells names acc→(n,c)∈acc∨((n,.free)∈names∧c=(cells.lookup n).getD 0)
 | [],_,_,_,h=>.inl h
 | (m,k)::r,acc,n,c,h=>by
  unfold bW at h
  split at h
  ·rename_i j
   have j:k=.free:=by simpa using j
   rcases gZ h with h | ⟨h1,h2⟩
   ·rcases hU.mp h with e | h
    ·cases e;exact .inr ⟨j▸b',rfl⟩
    ·exact .inl h
   ·exact .inr ⟨am _ h1,h2⟩
  ·rcases gZ h with h | ⟨h1,h2⟩
   ·exact .inl h
   ·exact .inr ⟨am _ h1,h2⟩
theorem k_{cells:List (Str×Addr)}:∀{names:List (Str×NameKind)}{acc:List (Str×Addr)}{p:Str×Addr},p∈acc→p∈bW cells names acc
 | [],_,_,h=>h
 | (m,k)::r,acc,p,h=>by
  unfold bW
  split
  ·exact k_ (am _ h)
  ·exact k_ h
theorem kZ{cells:List (Str×Addr)}:∀{names:List (Str×NameKind)}{acc:List (Str×Addr)}{n:Str},(n,.free)∈names→(n,(cells.lookup n).getD 0)∈bW cells names acc
 | (m,k)::r,acc,n,h=>by
  unfold bW
  rcases hU.mp h with e | h
  ·cases e
   exact k_ b'
  ·split
   ·exact kZ h
   ·exact kZ h
theorem iU:∀{names:List (Str×NameKind)}{h:Heap}{acc:List (Str×Addr)}{x:Str}{c:Addr},(x,c)∈cellsFrom h.objs.size names acc →
  (x,c)∈acc∨((x,.cell)∈names∧h.objs.size≤c∧M7 (pushCells h names) c none)
 | [],_,_,_,_,h=>.inl h
 | (n,k)::r,h,acc,x,c,j=>by
  unfold cellsFrom at j
  unfold pushCells
  split at j
  ·rename_i z
   rw[jI z]
   have z:k=.cell:=by simpa using z
   rw[←Heap.size_push h { cls:=.type "cell",data:=.cell none }]at j
   rcases iU j with j | ⟨h1,h2,D⟩
   ·rcases hU.mp j with e | j
    ·cases e
     exact .inr ⟨z▸b',f' _,_,pushCells_keeps r _ _ _ (Heap.get?_push_size _ rfl),rfl⟩
    ·exact .inl j
   ·rw[Heap.size_push]at h2
    exact .inr ⟨am _ h1,Nat.le_of_succ_le h2,D⟩
  ·rename_i z
   rw[i9 z]
   rcases iU j with j | ⟨h1,h2,D⟩
   ·exact .inl j
   ·exact .inr ⟨am _ h1,h2,D⟩
theorem mG:∀{names:List (Str×NameKind)}{n:Nat}{acc:List (Str×Addr)}{p:Str×Addr},p∈acc→p∈cellsFrom n names acc
 | [],_,_,_,h=>h
 | (m,k)::r,n,acc,p,h=>by
  unfold cellsFrom
  split
  ·exact mG (am _ h)
  ·exact mG h
theorem qp:∀{names:List (Str×NameKind)}{n:Nat}{acc:List (Str×Addr)}{x:Str},(x,.cell)∈names→∃c,(x,c)∈cellsFrom n names acc
 | (m,k)::r,n,acc,x,h=>by
  unfold cellsFrom
  rcases hU.mp h with e | h
  ·cases e
   exact⟨n,mG b'⟩
  ·split
   ·exact qp h
   ·exact qp h
theorem qm:∀{names:List (Str×NameKind)}{h:Heap}{acc:List (Str×Addr)}{x y:Str}{c:Addr},(∀p∈acc,p.2<h.objs.size)→(∀x y c,(x,c)∈acc→(y,c)∈acc→x=y) →
  (x,c)∈cellsFrom h.objs.size names acc→(y,c)∈cellsFrom h.objs.size names acc→x=y
 | [],_,_,_,_,_,_,hi,h1,h2=>hi _ _ _ h1 h2
 | (n,k)::r,h,acc,x,y,c,j,hi,h1,h2=>by
  unfold cellsFrom at h1 h2
  split at h1
  ·rename_i D
   rw[jI D]at h2
   rw[←Heap.size_push h { cls:=.type "cell",data:=.cell none }]at h1 h2
   refine qm (h:=h.push _) (fun p z=>?_) (fun x y c a b=>?_) h1 h2
   ·rw[Heap.size_push]
    rcases hU.mp z with rfl | z
    ·exact Nat.lt_succ_self _
    ·exact Nat.lt_succ_of_lt (j p z)
   ·rcases hU.mp a with e | a<;>rcases hU.mp b with F | b
    ·cases e;cases F;rfl
    ·cases e;exact absurd (j _ b) (Nat.lt_irrefl _)
    ·cases F;exact absurd (j _ a) (Nat.lt_irrefl _)
    ·exact hi _ _ _ a b
  ·rename_i D
   rw[i9 D]at h2
   exact qm j hi h1 h2
theorem qJ{M:Model}{A:Around}{E:Value→Shared→Prop}{s:Shared}{scope:Scope}{globals:Addr}{j:List (Str×Addr)}{qual:Str}{func:Option Addr}{code:Value}{around:Env}{builtins:Addr}{Q:Env→Shared→Prop}
    (h:Q (newEnv scope s.heap.objs.size globals (cellsFrom (s.heap.objs.size+1) scope.names j) qual func code (some around) builtins)
      { s with heap:=pushCells (s.heap.push { cls:=.type "dict",data:=.dict #[] }) scope.names }) :
    wpAny M A (newFunctionEnv scope globals j [] qual func code (some around) builtins) Q E s:=by
  simp only[newFunctionEnv,Option.isSome_some,if_true]
  refine wpAny_bind (wpAny_alloc ?_)
  refine wpAny_bind (wpAny_layCells _ (fun n k c=>rfl) scope.names j _ _ ?_)
  rw[show({ s with heap:=s.heap.push { cls:=.type "dict",data:=.dict #[] } }:Shared).heap.objs.size=s.heap.objs.size+1 from Heap.size_push ..]
  rw[List.forIn_nil]
  exact wpAny_bind (wpAny_pure (wpAny_pure h))
theorem kj{sc:Scope}:∀{names:List (Str×NameKind)}{x:Str}{k:NameKind},
  (names.map fun(n,k)=>if(k==NameKind.free&&sc.kind==.function&&sc.names.lookup n==some .cell)then(n,NameKind.cell)else(n,k)).lookup x=some k →
  ∃k',names.lookup x=some k'∧(k=k'∨(k'=.free∧k=.cell))
 | [],_,_,h=>by simp at h
 | (n,k₀)::r,x,k,h=>by
  have z:=@kj sc r x k
  have h':List.lookup x ((if(k₀==NameKind.free&&sc.kind==.function&&sc.names.lookup n==some .cell)=true then(n,NameKind.cell)else(n,k₀))::(r.map _))=some k:=h
  cases hx:x==n with
  | true =>
   simp only[List.lookup_cons,hx]
   by_cases j:(k₀==NameKind.free&&sc.kind==.function&&sc.names.lookup n==some .cell)=true
   ·rw[jI j]at h'
    simp only[List.lookup_cons,hx]at h'
    cases h'
    simp only[h9,beq_iff_eq]at j
    exact⟨k₀,rfl,.inr ⟨j.1.1,rfl⟩⟩
   ·rw[i9 j]at h'
    simp only[List.lookup_cons,hx]at h'
    cases h'
    exact⟨_,rfl,.inl rfl⟩
  | false =>
   simp only[List.lookup_cons,hx]
   by_cases j:(k₀==NameKind.free&&sc.kind==.function&&sc.names.lookup n==some .cell)=true
   ·rw[jI j]at h'
    simp only[List.lookup_cons,hx]at h'
    exact z h'
   ·rw[i9 j]at h'
    simp only[List.lookup_cons,hx]at h'
    exact z h'
structure wu (N:List Str) (sc scope:Scope) (own:List (Str×Nat)):Prop where
 kind:scope.kind=.function
 uniq:∀y∈scope.names,scope.names.lookup y.1=some y.2
 ix:∀p∈own,N[p.2]?=some p.1
 free:∀y∈scope.names,y.2=.free→sc.names.lookup y.1=some .cell∨sc.names.lookup y.1=some .free
 own:∀y∈scope.names,y.2=.local∨y.2=.cell→y.1∈own.map (·.1)∨y.1∉N
noncomputable def wipe(σ:St):List Nat→St
 | []=>σ
 | v::vs=>(wipe σ vs).set v none
theorem gM(σ:St):∀vs:List Nat,(wipe σ vs).length=σ.length
 | []=>rfl
 | v::vs=>by unfold wipe;rw[List.length_set,gM σ vs]
theorem lF{σ:St}{i:Nat}{x:V}:∀{vs:List Nat},(wipe σ vs)[i]?=some (some x)→σ[i]?=some (some x)∧i∉vs
 | [],h=>⟨h,by simp⟩
 | v::vs,h=>by
  unfold wipe at h
  by_cases hi:v=i
  ·subst hi
   by_cases j:v<(wipe σ vs).length
   ·rw[List.getElem?_set_self j]at h;cases h
   ·rw[List.getElem?_eq_none (by simpa using j)]at h;cases h
  ·rw[List.getElem?_set_ne hi]at h
   obtain⟨h1,h2⟩:=lF h
   exact⟨h1,by simp only[hU,not_or];exact⟨fun e=>hi e.symm,h2⟩⟩
noncomputable abbrev Cx.blk(X:Cx)(s:Shared)(H:Hp)(scope:Scope)(j:Env)(fp:List Addr):Cx:={ X with s_0:=s,H_0:=H,env:=j,outer:=X.stack,ex:=fp,fn:=fun x=>scope.names.lookup x==some .cell,pn:=[],xe:=fun _ _=>False }
section
variable {X:Cx} {pins:List (Addr×Obj)} {σ:St} {H:Hp} {s:Shared}
theorem qU{scope:Scope}{own:List (Str×Nat)}{fp:List Addr}(I:Inv X pins σ H s)(ok:wu X.N X.env.scope scope own)(hN:X.N.Nodup)(G:∀b∈fp,mZ X pins H b∧b<s.heap.objs.size) :
  Inv (X.blk s H scope (compEnvC scope (cellsFrom (s.heap.objs.size+1) scope.names (bW X.env.cells scope.names [])) s.heap.objs.size X.env) fp) [] (wipe σ (own.map (·.2))) H { s with heap:=pushCells (s.heap.push { cls:=.type "dict",data:=.dict #[] }) scope.names }:=by
 have Z:∀y∈scope.names,y.2=.free→∃c,X.env.cells.lookup y.1=some c:=fun y L e=>by
  rcases ok.free y L e with k | k
  ·exact I.ok.has _ (.inl k)
  ·exact I.ok.has _ (.inr k)
 generalize j:compEnvC scope (cellsFrom (s.heap.objs.size+1) scope.names (bW X.env.cells scope.names [])) s.heap.objs.size X.env=cenv
 have kp:∀b o,s.heap.get? b=some o→(pushCells (s.heap.push { cls:=.type "dict",data:=.dict #[] }) scope.names).get? b=some o:=fun b o e=>pushCells_keeps _ _ _ _ (Heap.get?_push_of_some _ e)
 have hL:cenv.locals=s.heap.objs.size:=by rw[←j];rfl
 have D:cenv.cells=cellsFrom (s.heap.objs.size+1) scope.names (bW X.env.cells scope.names []):=by rw[←j];rfl
 have Y:cenv.scope=VN scope X.env.scope:=by rw[←j];rfl
 rw[←Heap.size_push s.heap { cls:=.type "dict",data:=.dict #[] }]at D
 have cm:∀{y c},(y,c)∈bW X.env.cells scope.names []→X.env.cells.lookup y=some c∧c<s.heap.objs.size:=fun{y c} F=>by
  rcases gZ F with F | ⟨h1,rfl⟩
  ·cases F
  ·obtain⟨c,hc⟩:=Z _ h1 rfl
   rw[hc]
   obtain⟨w,z⟩:=I.cell _ _ hc
   exact⟨rfl,z.lt⟩
 have mem:∀{y c},cenv.cells.lookup y=some c→(X.env.cells.lookup y=some c∧c<s.heap.objs.size)∨(s.heap.objs.size+1≤c∧M7 (pushCells (s.heap.push { cls:=.type "dict",data:=.dict #[] }) scope.names) c none):=fun{y c} e=>by
  rw[D]at e
  rcases iU (PySem.mem_of_lookup e)with F | ⟨_,h2,h3⟩
  ·exact .inl (cm F)
  ·rw[Heap.size_push]at h2;exact .inr ⟨h2,h3⟩
 have look:∀{y},scope.names.lookup y=some .free→∃c,cenv.cells.lookup y=some c∧X.env.cells.lookup y=some c:=fun{y} hl=>by
  have L:(y,NameKind.free)∈scope.names:=PySem.mem_of_lookup hl
  obtain⟨c',J⟩:=mem_lookup (mG (names:=scope.names) (n:=(s.heap.push { cls:=.type "dict",data:=.dict #[] }).objs.size) (kZ (cells:=X.env.cells) (acc:=[]) L))
  rw[←D]at J
  refine⟨c',J,?_⟩
  rw[D]at J
  rcases iU (PySem.mem_of_lookup J)with F | ⟨h1,_,_⟩
  ·exact(cm F).1
  ·have:=ok.uniq _ h1
   rw[hl]at this;cases this
 have af:(X.blk s H scope cenv fp).Ok:=by
  refine⟨I.ok.mod,by show cenv.scope.kind=_;rw[Y];exact ok.kind,by show cenv.globals=_;rw[←j];exact I.ok.glob,by show cenv.builtins=_;rw[←j];exact I.ok.blt,by show s.heap.objs.size≤cenv.locals;rw[hL];exact f' _,
   fun y z c e1 e2=>?_,fun y L=>?_,fun y c z e=>?_,I.ok.hd,I.ok.frames,.inl rfl,fun b S=>⟨?_,fun y c e z=>?_⟩,I.bs,ip I.ok.bsz I.sz,fun b o e S=>?_,fun b S z=>?_,I.stack,I.jb⟩
  ·have e1:cenv.cells.lookup y=some c:=e1
   have e2:cenv.cells.lookup z=some c:=e2
   rw[D]at e1 e2
   refine qm (fun p hp=>?_) (fun y z c a b=>I.ok.inj y z c (cm a).1 (cm b).1) (PySem.mem_of_lookup e1) (PySem.mem_of_lookup e2)
   rw[Heap.size_push]
   exact Nat.lt_succ_of_lt (cm (y:=p.1) (c:=p.2) hp).2
  ·show ∃c,cenv.cells.lookup y=some c
   have key:∀k,cenv.kindOf y=some k→(k=.cell∨k=.free)→∃c,cenv.cells.lookup y=some c:=fun k hk U=>by
    unfold Env.kindOf at hk
    rw[Y]at hk
    obtain⟨k',e,r⟩:=kj hk
    have:k'=.cell∨k'=.free:=by
     rcases r with rfl | ⟨rfl,_⟩
     ·exact U
     ·exact .inr rfl
    rcases this with rfl | rfl
    ·obtain⟨c,F⟩:=qp (n:=(s.heap.push { cls:=.type "dict",data:=.dict #[] }).objs.size) (acc:=bW X.env.cells scope.names []) (PySem.mem_of_lookup e)
     obtain⟨c',J⟩:=mem_lookup F
     exact⟨c',by rw[D];exact J⟩
    ·obtain⟨c,h1,_⟩:=look e
     exact⟨c,h1⟩
   rcases L with L | L
   ·exact key _ L (.inl rfl)
   ·exact key _ L (.inr rfl)
  ·have z:(scope.names.lookup y==some NameKind.cell)=true:=z
   have z:scope.names.lookup y=some .cell:=by simpa using z
   have e:cenv.cells.lookup y=some c:=e
   rw[D]at e
   rcases iU (PySem.mem_of_lookup e)with F | ⟨_,h2,_⟩
   ·rcases gZ F with F | ⟨h1,_⟩
    ·cases F
    ·have q:=ok.uniq _ h1
     rw[z]at q;cases q
   ·rw[Heap.size_push]at h2
    exact Nat.le_of_succ_le h2
  ·show b≠cenv.locals
   rw[hL];exact i3 (G b S).2
  ·have e:cenv.cells.lookup y=some c:=e
   rcases mem e with⟨h1,_⟩ | ⟨h1,_⟩
   ·exact(G b S).1.2.2.2.2.1 y c h1 z
   ·have h2:s.heap.objs.size+1≤b:=by rw[←z];exact h1
    exact absurd (ib (G b S).2 (Nat.le_of_succ_le h2)) (Nat.lt_irrefl _)
  ·rcases(G b S).1.2.2.2.1 with z | z
   ·exact I.ok.noex b o e z
   ·exact absurd (ib (Heap.lt_size e) (ip I.ok.bsz z)) (Nat.lt_irrefl _)
  ·rcases hU.mp (I.Ag b z)with z | z
   ·exact(G b S).1.2.1 z
   ·exact(G b S).1.2.2.1 z
 refine⟨af,rfl,I.bare,Un.kept kp,⟨fun _=>none,?_,fun i y av e1 e2 e3=>?_⟩,fun y c e=>?_,?_,fun y c e=>?_,fun p hp=>?_,I.hok.kept kp,by rw[gM];exact I.len⟩
 ·show Heap.Ns _ cenv.locals _
  rw[hL]
  exact Heap.Ns.keeps (Heap.Ns.new ..) fun b o e=>pushCells_keeps _ _ _ _ e
 ·obtain⟨e2,ae⟩:=lF e2
  have O:scope.names.lookup y=some .free∧(cenv.kindOf y=some .cell∨cenv.kindOf y=some .free):=by
   have key:∀k,cenv.scope.names.lookup y=some k→k=.local∨k=.cell∨k=.free→scope.names.lookup y=some .free∧(cenv.kindOf y=some .cell∨cenv.kindOf y=some .free):=fun k hk U=>by
    have ac:=hk
    rw[Y]at hk
    obtain⟨k',e,r⟩:=kj hk
    have no:¬(k'=.local∨k'=.cell):=fun hh=>by
     rcases ok.own _ (PySem.mem_of_lookup e) hh with J | J
     ·obtain⟨p,hp,ag⟩:=List.mem_map.mp J
      have e3:=ok.ix p hp
      have:p.1=y:=ag
      rw[this]at e3
      exact ae (List.mem_map.mpr ⟨p,hp,uC hN e3 e1⟩)
     ·exact J (j6 e1)
    rcases r with rfl | ⟨rfl,rfl⟩
    ·rcases U with rfl | rfl | rfl
     ·exact absurd (.inl rfl) no
     ·exact absurd (.inr rfl) no
     ·exact⟨e,.inr ac⟩
    ·exact⟨e,.inl ac⟩
   have e3:Ve cenv.scope y:=e3
   rcases e3 with e3 | e3 | e3
   ·exact key _ e3 (.inl rfl)
   ·exact key _ e3 (.inr (.inl rfl))
   ·exact key _ e3 (.inr (.inr rfl))
  obtain⟨m,hn,hl⟩:=I.loc
  have aa:Ve X.env.scope y:=(ok.free _ (PySem.mem_of_lookup O.1) rfl).elim (fun k=>.inr (.inl k)) (fun k=>.inr (.inr k))
  obtain⟨w,r,q⟩:=hl i y av e1 e2 aa
  refine⟨w,r,.inr ⟨O.2,?_⟩⟩
  obtain⟨c,h1,h2⟩:=look O.1
  rcases q with⟨k,_⟩ | ⟨_,c',J,z⟩
  ·have k:X.env.scope.names.lookup y=some .local:=k
   rcases ok.free _ (PySem.mem_of_lookup O.1) rfl with k' | k'<;>rw[show X.env.scope.names.lookup y=_ from k']at k<;>cases k
  ·rw[h2]at J;cases J
   exact⟨c,h1,z.keeps kp⟩
 ·have e:cenv.cells.lookup y=some c:=e
  rcases mem e with⟨h1,_⟩ | ⟨_,z⟩
  ·obtain⟨w,z⟩:=I.cell y c h1
   exact⟨w,z.keeps kp⟩
  ·exact⟨_,z⟩
 ·show H cenv.locals=none
  rw[hL];exact I.hok.fresh (f' _)
 ·have e:cenv.cells.lookup y=some c:=e
  rcases mem e with⟨h1,_⟩ | ⟨h1,_⟩
  ·exact I.freeC y c h1
  ·exact I.hok.fresh (Nat.le_of_succ_le h1)
 ·exact absurd (show p∈([]:List (Addr×Obj))++[]from hp) (by simp)
theorem MK{E:Value→Shared→Prop}{D:Addr}{xs:List V}{y:V}{v:Value}{Q:Value→Shared→Prop}(I:Inv X pins σ H s)(z:H D=some (.lst xs))(hz:xs.length<sizeLine)(r:RelV y v)
  (h:∀s',Inv X pins σ (upd H D (.lst (xs++[y]))) s'→Q .none s'):wpAny (model X.prog X.w) X.A (call (.builtin "list.append") [.ref D,v]) Q E s:=by
 obtain⟨J,its,n,F,e⟩:=I.hok D _ z
 have O:=F.length
 refine append_at (hsz:=by rw[ia];omega) e fun h' G j=>?_
 refine h { s with heap:=h' } (I.write (t':=s.toks) (by rw[z];trivial) (.inl rfl) (fun b u L q=>(G.2 b L).trans q) ⟨_,j⟩ ⟨by rw[gc];exact hz,its++[v],n+1,F.append (.cons r .nil),?_⟩)
 rw[j]
 simp
noncomputable def Tp(X:Cx)(j:List Expr)(t:TT):Prop :=
 ∀(pins:List (Addr×Obj))(s:Shared)(σ:St)(H:Hp)(Q:Bool→Hp→Prop),Inv X pins σ H s→t σ H Q →
  wpAny (model X.prog X.w) X.A (forIn j true fun c r=>if r=true then do let ok ←isTrue c X.env (eval c X.env);pure (ForInStep.yield ok)else pure (ForInStep.yield r)) (TP X pins σ Q) X.xe s
noncomputable def Vy:TT:=fun _ H Q=>Q true H
theorem lJ:Tp X [] Vy:=fun _ _ _ H _ I h=>wpAny_tests_nil ⟨H,I,h⟩
end
theorem wC{α:Type}{t:Sem α}{Q j:α→Shared→Prop}{M:Model}{A:Around}{E:Value→Shared→Prop}{s:Shared}(h:wpAny M A t Q (fun _ _=>False) s)(D:∀a s,Q a s→j a s):wpAny M A t j E s:=wpAny_mono h D fun _ _ z=>False.elim z
theorem pq{prog:Program}{w:World}{A:Around}{R:Result→Shared→Prop}{s:Shared}{elt target iter:Expr}{j:List Expr}{scope:Scope}{pos:Pos}{it acc:Value}{env:Env}(I:Nat→Shared→Prop)
  (turn:∀n s,I n s→wpAny (model prog w) A (pyNext it) (fun r s₁=>match r with
   | none=>R (.ok .next) s₁
   | some v=>wpAny (model prog w) A (letOwnedTupleGo target it v) (fun _ s₁'=>wpAny (model prog w) A (assign target env v) (fun _ s₂ =>
     wpAny (model prog w) A (forIn j true fun c r=>if r=true then do let ok ←isTrue c env (eval c env);pure (ForInStep.yield ok)else pure (ForInStep.yield r)) (fun ok s₃ =>
      if ok=true then wpAny (model prog w) A (eval elt env) (fun x s₄ =>
       wpAny (model prog w) A (call (.builtin "list.append") [acc,x]) (fun _ s₅=>∃m,m<n∧I m s₅) (notedBy (model prog w) A env fun e s'=>R (.error e) s') s₄) (notedBy (model prog w) A env fun e s'=>R (.error e) s') s₃
      else ∃m,m<n∧I m s₃) (notedBy (model prog w) A env fun e s'=>R (.error e) s') s₂) (notedBy (model prog w) A env fun e s'=>R (.error e) s') s₁') (notedBy (model prog w) A env fun e s'=>R (.error e) s') s₁) (notedBy (model prog w) A env fun e s'=>R (.error e) s') s)
  (n:Nat) (h:I n s) :
  codeAny (model prog w) A (.compLoop (.ListComp elt [⟨target,iter,j,0⟩] scope pos) 0 it acc env) R s:=by
 refine codeAny_loop rfl I (fun n s z=>?_) n h
 show wpAny _ A ((compTurn (.ListComp elt [⟨target,iter,j,0⟩] scope pos) 0 it acc env).onRaise (fun x=>do noteFrame x env;theTreesLotGoes x)) _ _ s
 refine wpAny_noted ?_
 rw[compTurn_list]
 refine wpAny_bind (wpAny_standAt (wpAny_bind (wpAny_mono (turn n s z) (fun r s₁ h₁=>?_) fun _ _ h'=>h')))
 cases r with
 | none=>exact wpAny_pure h₁
 | some v =>
  refine wpAny_bind (wpAny_mono h₁ (fun _ s₁' h₁'=>?_) fun _ _ h'=>h')
  refine wpAny_bind (wpAny_mono h₁' (fun _ s₂ h₂=>wpAny_bind (wpAny_mono h₂ (fun ok s₃ h₃=>?_) fun _ _ h'=>h')) fun _ _ h'=>h')
  cases ok with
  | false=>exact wpAny_pure ⟨rfl,h₃⟩
  | true =>
   exact wpAny_bind (wpAny_bind (wpAny_mono h₃ (fun x s₄ h₄=>wpAny_bind (wpAny_mono h₄ (fun _ s₅ h₅=>wpAny_pure (wpAny_pure ⟨rfl,h₅⟩)) fun _ _ h'=>h')) fun _ _ h'=>h'))
section
variable {X:Cx}
noncomputable def T6(O:TI)(g:TG)(L:TT)(te:TE)(vs:List Nat):TE:=fun σ H Q=>O σ H fun J H1=>∀D,H1 D=none→∃W:Nat→Nat→Hp→Prop,(∃m,W 0 m (upd H1 D (.lst [])))∧∀i m H,W i m H →
 (J.stop i H∧Q (.ref D) H)∨(J.go i H∧∃j:Hp→Prop,(∀H',j H'→∃G,G<m∧W (i+1) G H')∧∀x H',J.yld i H x H'→g x (wipe σ vs) H' fun σ2 H2=>wipe σ2 vs=wipe σ vs∧L σ2 H2 fun b z =>
  if b=true then te σ2 z fun y F=>∃acc,F D=some (.lst acc)∧acc.length<sizeLine∧j (upd F D (.lst (acc++[y])))else j z)
theorem Pq{pins:List (Addr×Obj)}{s:Shared}{σ:St}{H:Hp}{Q:VK}{elt tg iter:Expr}{O:List Expr}{scope:Scope}{own:List (Str×Nat)}{pos pos':Pos}{wi:TI}{g:TG}{tt:TT}{te:TE}{use:Option (Value→Sem Unit)}{Qf:Value→Shared→Prop}
  (hc:X.calm=true) (hN:X.N.Nodup) (I:Inv X pins σ H s) (hi:PI X tg iter wi) (ok:wu X.N X.env.scope scope own)
  (hg:∀(s:Shared)(H:Hp)(C:Addr)(cl:List (Str×Addr))(fp:List Addr),PG (X.blk s H scope (compEnvC scope cl C X.env) fp) tg g) (ht:∀(s:Shared)(H:Hp)(C:Addr)(cl:List (Str×Addr))(fp:List Addr),Tp (X.blk s H scope (compEnvC scope cl C X.env) fp) O tt)
  (he:∀(s:Shared)(H:Hp)(C:Addr)(cl:List (Str×Addr))(fp:List Addr),PE (X.blk s H scope (compEnvC scope cl C X.env) fp) elt te) (hs:∀x,foldedSetIterable iter X.env x=pure x)
  (h:T6 wi g tt te (own.map (·.2)) σ H Q)
  (aC:∀D C s' m H',Inv X pins σ H' s'→Q (.ref D) H'→s'.heap.Ns C m→mZ X pins H' C→compPost (model X.prog X.w) X.A X.xe use Qf (.ref D) C (.ok .next) s') :
  wpAny (model X.prog X.w) X.A (comprehension (.ListComp elt [⟨tg,iter,O,0⟩] scope pos) scope X.env pos' (newList []) false (eval iter X.env) use) Qf X.xe s:=by
 have aa:∀y∈scope.names,y.2=.free→∃c,X.env.cells.lookup y.1=some c:=fun y hy e=>by
  rcases ok.free y hy e with k | k
  ·exact I.ok.has _ (.inl k)
  ·exact I.ok.has _ (.inr k)
 refine wpAny_comprehension_free (use:=use) rfl hs (uR aa) ok.kind (fun y hy e=>by rw[ok.uniq y hy,e])
  (cG (hi pins s σ H _ I h) fun xv s1 hx=>cG hx fun a5 s2 h2=>?_)
 obtain⟨it,fp,tn,J,H2,e,I2,T,af,f2,q⟩:=h2
 subst e
 refine wpAny_newObj_type (qJ ?_) (by show 0≤sizeLine;decide)
 generalize hD:s2.heap.objs.size=D
 have aE:H2 D=none:=I2.hok.fresh (Nat.le_of_eq hD)
 obtain⟨W,⟨m0,w0⟩,turn⟩:=q D aE
 generalize ac:({ s2 with heap:=s2.heap.push { cls:=.type "list",data:=.seq ([]:List Value).toArray } }:Shared)=F
 have I3:Inv X pins σ (upd H2 D (.lst [])) F:=by
  rw[←ac]
  refine I2.laid (t':=s2.toks) (fun b o e=>Heap.get?_push_of_some _ e) (Nat.le_of_eq hD) ⟨Nat.zero_le _,[],0,.nil,?_⟩
  rw[←hD]
  exact Heap.get?_push_size _ rfl
 have h3:F.heap=s2.heap.push { cls:=.type "list",data:=.seq ([]:List Value).toArray }:=by rw[←ac]
 have sz:∀b∈fp,b<s2.heap.objs.size:=fun b G=>by
  obtain⟨o,e,_⟩:=T.obj _ _ af b G
  exact Heap.lt_size e
 have f3:∀b∈fp,mZ X pins (upd H2 D (.lst [])) b∧b<F.heap.objs.size:=fun b G=>by
  have al:=sz b G
  refine⟨⟨?_,(f2 b G).2⟩,by rw[h3,Heap.size_push];exact Nat.lt_succ_of_lt al⟩
  rw[az (by rw[←hD];exact i3 al)]
  exact(f2 b G).1
 have a0:tn 0 F.heap:=T.keep _ _ _ af fun b _ o e=>by rw[h3];exact Heap.get?_push_of_some _ e
 have I4:=qU I3 ok hN f3
 have pg:=hg F (upd H2 D (.lst [])) F.heap.objs.size (cellsFrom (F.heap.objs.size+1) scope.names (bW X.env.cells scope.names [])) fp
 have pt:=ht F (upd H2 D (.lst [])) F.heap.objs.size (cellsFrom (F.heap.objs.size+1) scope.names (bW X.env.cells scope.names [])) fp
 have pe:=he F (upd H2 D (.lst [])) F.heap.objs.size (cellsFrom (F.heap.objs.size+1) scope.names (bW X.env.cells scope.names [])) fp
 show codeAny _ _ (.compStart (.ListComp elt [⟨tg,iter,O,0⟩] scope pos) 0 (.ref it) (.ref D) (compEnvC scope (cellsFrom (F.heap.objs.size+1) scope.names (bW X.env.cells scope.names [])) F.heap.objs.size X.env)) (compPost (model X.prog X.w) X.A X.xe use Qf (.ref D) F.heap.objs.size) { F with heap:=pushCells (F.heap.push { cls:=.type "dict",data:=.dict #[] }) scope.names }
 have av:∀b∈fp,(upd H2 D (.lst [])) b=none:=fun b G=>(f3 b G).1.1
 generalize aS:compEnvC scope (cellsFrom (F.heap.objs.size+1) scope.names (bW X.env.cells scope.names [])) F.heap.objs.size X.env=ce at I4 pg pt pe ⊢
 have cL:ce.locals=F.heap.objs.size:=by subst aS;rfl
 generalize a7:upd H2 D (.lst [])=H3 at I3 I4 pg pt pe w0 av f3
 generalize aT:({ F with heap:=pushCells (F.heap.push { cls:=.type "dict",data:=.dict #[] }) scope.names }:Shared)=s4 at I4 ⊢
 have ag:tn 0 s4.heap:=T.keep _ _ _ a0 fun b _ o e=>by rw[←aT];exact pushCells_keeps _ _ _ _ (Heap.get?_push_of_some _ e)
 have L:∀{σ':St}{H':Hp}{s':Shared},Inv (X.blk F H3 scope ce fp) [] σ' H' s'→(∀b∈fp,H' b=none)→∀b∈fp,mZ (X.blk F H3 scope ce fp) [] H' b:=fun{σ' H' s'} I' hn b G =>
  ⟨hn b G,(I'.ok.exf b G).1,I'.ok.exfs b G,.inl G,fun x c e=>(I'.ok.exf b G).2 x c e,fun p hp=>absurd (show p∈([]:List (Addr×Obj))++[]from hp) (by simp)⟩
 have U:codeAny (model X.prog X.w) X.A (.compLoop (.ListComp elt [⟨tg,iter,O,0⟩] scope pos) 0 (.ref it) (.ref D) ce) (compPost (model X.prog X.w) X.A X.xe use Qf (.ref D) F.heap.objs.size) s4:=by
  refine pq (fun n s'=>∃i H',Inv (X.blk F H3 scope ce fp) [] (wipe σ (own.map (·.2))) H' s'∧tn i s'.heap∧(∀b∈fp,H' b=none)∧W i n H') ?_ m0 ⟨0,H3,I4,ag,av,w0⟩
  rintro n s5 ⟨i,Z,I5,ar,n5,w5⟩
  rcases turn i n Z w5 with⟨stop,qq⟩ | ⟨go,Nx,aI,step⟩
  ·have td:=T.done (X.blk F H3 scope ce fp) rfl rfl rfl hc i [] s5 _ Z (fun _ _=>False) I5 (L I5 n5) ar stop
   refine wC td fun r s6 ⟨hr,I6⟩=>?_
   subst hr
   have I7:Inv X pins σ Z s6:=I3.call' (ch:=fp) I6.os I6.base I6.hok I6.bare fun b G=>⟨(f3 b G).1.2.2.2.1,(f3 b G).1.2.1,(f3 b G).1.2.2.2.2.1,(f3 b G).1.2.2.2.2.2⟩
   have nC:Z F.heap.objs.size=none:=by
    have z:Z ce.locals=none:=I6.free
    rw[cL]at z
    exact z
   obtain⟨m,hn,_⟩:=I6.loc
   have hn:s6.heap.Ns ce.locals m:=hn
   rw[cL]at hn
   exact aC D F.heap.objs.size s6 m Z I7 qq hn (I3.zB (f' _) nC)
  ·have ti:=T.item (X.blk F H3 scope ce fp) rfl rfl rfl hc i [] s5 _ Z (fun _ _=>False) I5 (L I5 n5) ar go
   refine wC ti fun r s6 ⟨u,hr,h6⟩=>?_
   subst hr
   refine wC h6 fun _ s7 hz=>?_
   obtain⟨x,H7,I7,r7,y7,Y,n7⟩:=hz
   have a3:=I7.pinned (L I7 n7) (T.obj _ _ Y)
   refine wC (pg _ s7 _ H7 x u _ a3 r7 (step x H7 y7)) fun _ s8 ⟨σ8,H8,I8,ai,q8⟩=>?_
   refine wC (pt _ s8 σ8 H8 _ I8 q8) fun b s9 ⟨H9,I9,q9⟩=>?_
   have fin:∀{s':Shared}{H':Hp},Inv (X.blk F H3 scope ce fp) ([]++pY fp s7.heap) σ8 H' s'→Nx H'→∃m,m<n∧∃i H',Inv (X.blk F H3 scope ce fp) [] (wipe σ (own.map (·.2))) H' s'∧tn i s'.heap∧(∀b∈fp,H' b=none)∧W i m H':=fun{s' H'} I' nx=>by
    obtain⟨m',hm,w'⟩:=aI H' nx
    have S:∀b∈fp,∀o,s7.heap.get? b=some o→s'.heap.get? b=some o∧H' b=none:=fun b G o e =>
     let z:=I'.pin (b,o) (List.mem_append_right _ (List.mem_append_right _ (jl G e)))
     ⟨z.1,z.2.1⟩
    have hl:(wipe σ (own.map (·.2))).length=σ8.length:=by rw[←ai,gM]
    refine⟨m',hm,i+1,H',(I'.jM (pins:=[])).weak hl (fun j v e=>?_),T.keep _ _ _ Y fun b G o e=>(S b G o e).1,fun b G=>?_,w'⟩
    ·rw[←ai]at e
     exact(lF e).1
    ·obtain⟨o,e,_⟩:=T.obj _ _ Y b G
     exact(S b G o e).2
   cases b with
   | false =>
    simp only[Bool.false_eq_true,if_false]at q9 ⊢
    exact fin I9 q9
   | true =>
    simp only[if_true]at q9 ⊢
    refine wC (pe _ s9 σ8 H9 _ I9 q9) fun z a6 hz=>?_
    obtain⟨yv,a4,ay,ax,acc,ah,ae,nx⟩:=hz
    exact MK (X:=X.blk F H3 scope ce fp) ay ah ae ax fun a8 aw=>fin aw nx
 exact codeAny_compStart_list U (T.self X.A 0 _ _ _ ag U)
theorem yU{elt tg iter:Expr}{j:List Expr}{scope:Scope}{own:List (Str×Nat)}{pos:Pos}{F:TI}{g:TG}{z:TT}{te:TE}(hc:X.calm=true)(hN:X.N.Nodup)(hi:PI X tg iter F)(ok:wu X.N X.env.scope scope own)
  (L:∀(s:Shared)(H:Hp)(C:Addr)(cl:List (Str×Addr))(fp:List Addr),PG (X.blk s H scope (compEnvC scope cl C X.env) fp) tg g) (U:∀(s:Shared)(H:Hp)(C:Addr)(cl:List (Str×Addr))(fp:List Addr),Tp (X.blk s H scope (compEnvC scope cl C X.env) fp) j z)
  (he:∀(s:Shared)(H:Hp)(C:Addr)(cl:List (Str×Addr))(fp:List Addr),PE (X.blk s H scope (compEnvC scope cl C X.env) fp) elt te) (G:∀x,foldedSetIterable iter X.env x=pure x:=by intro _;rfl) :
  PE X (.ListComp elt [⟨tg,iter,j,0⟩] scope pos) (T6 F g z te (own.map (·.2))):=by
 intro pins s σ H Q I h
 rw[eval_ListComp]
 refine Pq hc hN I hi ok L U he G h fun D C s' m H' Y q O f=>⟨m,O,fun aa S=>?_⟩
 obtain⟨f0,f1,f2,J,Z,f5⟩:=f
 exact⟨.ref D,H',Y.turned (t':=s'.toks) (fun b o hb e=>(S.2 b hb).trans e) f0 f1 J Z f5,rfl,q⟩
theorem Nr{elt:Expr}{D:List Comprehension}{scope:Scope}{pos py:Pos}{y:Str}{l:Nat}{env:Env}(z:env.scope.kind=.function)(j:env.scope.names.lookup y=some .local)(G:(py.line==pos.line)=true)
  (F:(scope.names.any fun(n,k)=>n==y&&(k==.local||k==.cell))=false):swapsWith (.ListComp elt D scope pos) (some (.Name y py)) l env=pure true:=by
 have L:env.kindOf y=some .local:=j
 have J:env.blockKind=.function:=by unfold Env.blockKind;rw[z];rfl
 unfold swapsWith
 simp only[J,L,F,Expr.pos,G]
 rfl
end
theorem lV{K:PySem.W.Frag}{a:Addr}{xs:List V}{g:TG}{J:TT}{te:TE}{vs:List Nat}{σ:St}{H1:Hp}{D:Addr}{L:Hp→Prop}(Pv:Nat→Hp→Prop)(h0:Pv 0 (upd H1 D (.lst [])))(Y:∀i H,i≤xs.length→Pv i H→bV K H a xs)
  (S:∀i x H,xs[i]?=some x→Pv i H→g x (wipe σ vs) H fun σ2 H2=>wipe σ2 vs=wipe σ vs∧J σ2 H2 fun b j =>
   if b=true then te σ2 j fun y F=>∃acc,F D=some (.lst acc)∧acc.length<sizeLine∧Pv (i+1) (upd F D (.lst (acc++[y])))else Pv (i+1) j) (hd:∀H,Pv xs.length H→L H) :
  ∃W:Nat→Nat→Hp→Prop,(∃m,W 0 m (upd H1 D (.lst [])))∧∀i m H,W i m H →
   ((QV K a).stop i H∧L H)∨((QV K a).go i H∧∃G:Hp→Prop,(∀H',G H'→∃O,O<m∧W (i+1) O H')∧∀x H',(QV K a).yld i H x H'→g x (wipe σ vs) H' fun σ2 H2=>wipe σ2 vs=wipe σ vs∧J σ2 H2 fun b j =>
    if b=true then te σ2 j fun y F=>∃acc,F D=some (.lst acc)∧acc.length<sizeLine∧G (upd F D (.lst (acc++[y])))else G j):=by
 refine⟨fun i m H=>m=xs.length-i∧i≤xs.length∧Pv i H,⟨xs.length,by simp,Nat.zero_le _,h0⟩,?_⟩
 rintro i m H ⟨rfl,hi,p⟩
 have q:=Y i H hi p
 by_cases z:i<xs.length
 ·refine .inr ⟨⟨xs,xs[i],q,by simp[z]⟩,Pv (i+1),fun H' U=>⟨xs.length-(i+1),by omega,rfl,z,U⟩,fun x H' y=>?_⟩
  obtain⟨e,y⟩:=y
  subst e
  exact S i x _ (y xs q) p
 ·have e:i=xs.length:=by omega
  subst e
  exact .inl ⟨⟨xs,q,f' _⟩,hd H p⟩
noncomputable def Vd(N:List Str)(sc scope:Scope)(own:List (Str×Nat)):Bool :=
 (match scope.kind with | .function=>true | _=>false)&&(scope.names.all fun y=>decide (scope.names.lookup y.1=some y.2))&&(own.all fun p=>decide (N[p.2]?=some p.1)) &&
  (scope.names.all fun y=>match y.2 with
   | .free=>(match sc.names.lookup y.1 with | some .cell=>true | some .free=>true | _=>false)
   | .local=>decide (y.1∈own.map (·.1))||decide (y.1∉N)
   | .cell=>decide (y.1∈own.map (·.1))||decide (y.1∉N)
   | _=>true)
theorem iW{N:List Str}{sc scope:Scope}{own:List (Str×Nat)}(h:Vd N sc scope own=true):wu N sc scope own:=by
 unfold Vd at h
 simp only[h9,j5,jv]at h
 obtain⟨⟨⟨h1,h2⟩,D⟩,z⟩:=h
 refine⟨?_,h2,D,fun y j e=>?_,fun y j e=>?_⟩
 ·split at h1
  ·assumption
  ·cases h1
 ·have q:=z y j
  simp only[e]at q
  split at q<;>first | exact .inl (by assumption) | exact .inr (by assumption) | cases q
 ·have q:=z y j
  rcases e with e | e<;>(simp only[e,Bool.or_eq_true,jv]at q;exact q)
end L2
namespace L2
open PySem PySem.Spec PyProof.Rows
section
variable {prog:Program} {w:World} {A:Around} {R:Result→Shared→Prop} {s:Shared} {elt t0 i0 t1 i1:Expr} {ifs0 ifs1:List Expr} {scope:Scope} {pos:Pos} {it acc:Value} {env:Env}
end
section
variable {X:Cx}
end
end L2
namespace L2
open PySem PySem.Spec PyProof.Rows
section
variable {κ:Type} [DecidableEq κ]
noncomputable def pN(kvs:List (κ×V))(k:κ):Option V:=(kvs.find? fun j=>decide (j.1=k)).map (·.2)
theorem Ib{p:κ×V}{r:List (κ×V)}{k:κ}(e:p.1=k):pN (p::r) k=some p.2:=by simp[pN,List.find?_cons,e]
theorem Ie{p:κ×V}{r:List (κ×V)}{k:κ}(e:¬p.1=k):pN (p::r) k=pN r k:=by simp[pN,List.find?_cons,e]
theorem n8.Ha{o:Option V}{u:Option Value}(r:n8 o u):o.isSome=u.isSome:=by
 cases o with
 | none=>cases u with
  | none=>rfl
  | some _=>exact(show False from r).elim
 | some _=>cases u with
  | none=>exact(show False from r).elim
  | some _=>rfl
theorem KV.val{kvs:List (κ×V)}{vs:List (κ×Value)}(r:KV kvs vs)(k:κ):n8 (pN kvs k) (valueAt vs k):=by
 unfold KV at r
 induction r with
 | nil=>exact True.intro
 | @cons p q ps j h t F =>
  obtain⟨h1,h2⟩:=h
  by_cases e:p.1=k
  ·have D:q.1=k:=h1.symm.trans e
   have b:valueAt (q::j) k=some q.2:=by simp[valueAt,List.find?_cons,D]
   rw[Ib e,b];exact h2
  ·have D:¬q.1=k:=fun z=>e (h1.trans z)
   have b:valueAt (q::j) k=valueAt j k:=by simp[valueAt,List.find?_cons,D]
   rw[Ie e,b];exact F
end
theorem QM{P:Program}{w:World}{k:Key}{u:Value}(r:RelV (kV k) u):(cJ P w).is k u=true:=by
 cases k with
 | inl i=>obtain⟨t,e⟩:=(show ∃t,u=Value.int i t from r);subst e;exact kh P w i t
 | inr x=>obtain⟨t,e⟩:=(show ∃t,u=Value.str x t from r);subst e;exact j_ P w x t
section
variable {P:Program} {w:World} {H:Hp} {h:Heap} {a:Addr}
end
section
variable {X:Cx} {pins:List (Addr×Obj)} {σ:St} {H:Hp} {s:Shared} {a:Addr} {y v:V} {u r:Value} {o:Option V} {A:Around} {E:Value→Shared→Prop}
end
section
variable {X:Cx} {pins:List (Addr×Obj)} {σ:St} {H:Hp} {s:Shared} {a:Addr} {kvs:List (Key×V)} {k:Key} {u:Value} {A:Around} {E:Value→Shared→Prop}
end
noncomputable def Vi(i:Expr):Prop:=∀j z,subscripted i false j z=operate [j,z] (getItem j z)
theorem Nu{prog:Program}{w:World}{A:Around}{E:Value→Shared→Prop}{s:Shared}{env:Env}{value slice:Expr}{pos:Pos}{T id:String}{Q:Value→Shared→Prop}
  (D:typeLookup (.type T) "__getitem__"=pure (some (.builtin id))) (z:Vi slice)
  (h:wpAny (model prog w) A (eval value env) (fun o s₁=>wpAny (model prog w) A (eval slice env) (fun i s₂=>s₂.TypeIs o T∧wpAny (model prog w) A (getItem o i) Q E s₂) E s₁) E s) :
  wpAny (model prog w) A (eval (.Subscript value slice pos) env) Q E s:=by
 refine Subscript_ (wpAny_mono h (fun o s₁ h₁=>wpAny_mono h₁ (fun i s₂ h₂=>?_) fun _ _ x=>x) fun _ _ x=>x)
 obtain⟨j,h₂⟩:=h₂
 unfold subscriptTail
 refine wpAny_bind ?_
 rw[getitemInPython_of_ne j.not_modules]
 refine wpAny_bind (wpAny_specialOf j D ?_)
 have fin:wpAny (model prog w) A (subscripted slice false o i) (fun r s₃=>wpAny (model prog w) A (letTemporaryGo value o r>>=fun _=>pure r) Q E s₃) E s₂:=by
  rw[z o i]
  exact wpAny_operating (wpAny_mono h₂ (fun r s₃ h₃=>wpAny_bind (wpAny_letTemporaryGo (wpAny_pure h₃))) fun _ _ x=>x)
 first
  | exact wpAny_pure (wpAny_bind fin)
  | exact wpAny_bind (wpAny_pure (wpAny_bind fin))
  | exact wpAny_bind fin
section
variable {X:Cx} {o i e value:Expr} {pos pos' tpos:Pos} {td ty tv:TE}
end
section
variable {X:Cx} {pos:Pos}
end
section
variable {X:Cx} {pins:List (Addr×Obj)} {σ:St} {H:Hp} {s:Shared} {a:Addr} {y d:V} {u r:Value} {o:Option V} {A:Around} {E:Value→Shared→Prop}
end
section
variable {X:Cx} {o e f:Expr} {apos cpos:Pos} {td ty tx:TE}
end
section
variable {X:Cx} {pins:List (Addr×Obj)} {σ:St} {H:Hp} {s:Shared} {a:Addr} {kvs:List (Key×V)} {A:Around} {E:Value→Shared→Prop}
end
section
variable {X:Cx} {pins:List (Addr×Obj)} {σ:St} {H:Hp} {s:Shared} {a:Addr} {y:V} {u:Value} {A:Around} {E:Value→Shared→Prop}
end
end L2
namespace L2
open PySem PySem.Spec PyProof.Rows
section
variable {prog:Program} {w:World} {A:Around} {E:Value→Shared→Prop}
end
section
variable {X:Cx}
end
end L2
namespace L2
open PySem PySem.Spec PyProof.Rows
section
variable {X:Cx} {pins:List (Addr×Obj)} {σ:St} {H:Hp} {s:Shared} {h':Heap}
theorem Inv.Nk{t':Nat}{ch:List Addr}(I:Inv X pins σ H s)(k:∀b o,b∉ch→s.heap.get? b=some o→h'.get? b=some o)(D:∀b∈ch,mZ X pins H b):Inv X pins σ H { s with heap:=h',toks:=t' }:=by
 have F:∀b u,H b=some u→b∉ch:=fun b u e z=>by
  have q:=(D b z).1
  rw[q]at e;cases e
 refine I.step (g':=s.gens) (d':=s.drawn) (ch:=ch) (fun b G=>⟨(D b G).2.2.2.1,(D b G).2.1,(D b G).2.2.2.2.1,(D b G).2.2.2.2.2⟩) (fun b o _ _ j e _=>k b o j e) (fun b o _ _ j e _=>⟨o.slots,k b o j e⟩)
  (fun _ _ _ _ n=>n) (fun b o j e=>⟨o,k b o j e⟩) (fun _ _ e=>e) (fun _ _ _ e=>e) (fun b ps e=>⟨#[],by rw[e];simp⟩) (fun m J=>?_) (fun b u e=>?_) I.bare
 ·obtain⟨o,es,ep,L,r⟩:=J
  exact⟨o,es,ep,k _ o (fun z=>(D _ z).2.1 rfl) L,r⟩
 ·refine(I.hok b u e).stay (fun c v j q=>k c v ?_ q) (fun _ q=>q) fun _ _ q=>q
  rcases j with z | z
  ·rw[z];exact F b u e
  ·exact F c _ z
theorem Inv.Fv{t':Nat}{ch:List Addr}{T:Addr}{L:HO}(I:Inv X pins σ H s)(k:∀b o,b∉ch→s.heap.get? b=some o→h'.get? b=some o)(F:∀b∈ch,mZ X pins H b)(O:s.heap.objs.size≤T)
  (new:cU X.prog X.w (upd H T L) h' T L):Inv X pins σ (upd H T L) { s with heap:=h',toks:=t' }:=by
 have G:H T=none:=I.hok.fresh O
 have J:∀b u,H b=some u→b∉ch:=fun b u e z=>by
  have q:=(F b z).1
  rw[q]at e;cases e
 refine I.step (g':=s.gens) (d':=s.drawn) (ch:=ch) (fun b j=>⟨(F b j).2.2.2.1,(F b j).2.1,(F b j).2.2.2.2.1,(F b j).2.2.2.2.2⟩) (fun b o _ _ D e _=>k b o D e) (fun b o _ _ D e _=>⟨o.slots,k b o D e⟩)
  (fun b o _ e n=>?_) (fun b o D e=>⟨o,k b o D e⟩) (fun b xs e=>?_) (fun b o u e=>?_) (fun b ps e=>⟨#[],?_⟩) (fun m S=>?_) (fun b u e=>?_) I.bare
 ·rw[az (i3 (ib (Heap.lt_size e) O))];exact n
 ·rw[az (aH e G)];exact e
 ·rw[az (aH e G)];exact e
 ·rw[az (aH e G),e];simp
 ·obtain⟨o,es,ep,U,r⟩:=S
  exact⟨o,es,ep,k _ o (fun z=>(F _ z).2.1 rfl) U,r⟩
 ·by_cases j:b=T
  ·subst j
   rw[ak]at e
   cases e
   exact new
  ·rw[az j]at e
   refine(I.hok b u e).stay (fun c v D q=>k c v ?_ q) (fun c q=>by rw[az (aH q G)];exact q) fun c xs q=>by rw[az (aH q G)];exact q
   rcases D with z | z
   ·rw[z];exact J b u e
   ·exact J c _ z
end
section
variable {X:Cx}
end
section
variable {X:Cx} {tg:Expr}
end
section
variable {X:Cx} {tg:Expr}
end
section
variable {prog:Program} {w:World} {A:Around} {E:Value→Shared→Prop} {s:Shared}
end
theorem d8{α β:Type}{G:α→β→Prop}{l₁:List α}{l₂:List β}(h:Paired G l₁ l₂):∀{i:Nat}{a:α},l₁[i]?=some a→∃b,l₂[i]?=some b∧G a b:=by
 induction h with
 | nil=>intro i a e;simp at e
 | @cons a b l₁ l₂ r t z =>
  intro i D e
  cases i with
  | zero =>
   simp only[kc,Option.some.injEq]at e
   subst e
   exact⟨b,rfl,r⟩
  | succ j =>
   simp only[kb]at e ⊢
   exact z e
section
variable {X:Cx} {pins:List (Addr×Obj)} {σ:St} {H:Hp} {s:Shared} {d:Addr} {o:Obj}
end
section
variable {P:Program} {w:World} {K:PySem.W.Frag} {tg:Expr} {d:Addr} {o:Obj} {es:Array DictEntry} {ep:Nat}
end
section
variable {X:Cx} {tg e:Expr} {td:TE} {apos cpos:Pos}
end
theorem Ho:bootBuiltins "zip"=some (.type "zip"):=by decide +kernel
noncomputable def Vj(K:PySem.W.Frag)(a b:Addr):It :=
 ⟨fun i H=>∃(xs ys:List V)(x y:V),bV K H a xs∧bV K H b ys∧xs[i]?=some x∧ys[i]?=some y,
  fun i H v H'=>∃T x y,v=.ref T∧H T=none∧H'=upd H T (.tup [x,y])∧(∀xs,bV K H a xs→xs[i]?=some x)∧∀ys,bV K H b ys→ys[i]?=some y,
  fun i H=>∃xs ys:List V,bV K H a xs∧bV K H b ys∧(xs.length≤i∨ys.length≤i)⟩
theorem Ii{P:Program}{w:World}{K:PySem.W.Frag}{af:List Expr}{kk:Nat}{tpos:Pos}{a b z TI TO i1 O:Addr}(D:ZipApart z TI TO i1 O a b) :
  Turn P w K (.Tuple af kk tpos) (Vj K a b) [z,TI,TO,i1,O] z (fun i h=>IsZip h z TI TO .none∧IsPair h TI (.ref i1) (.ref O)∧(∃x y,IsPair h TO x y)∧h.IsListIter i1 a i∧h.IsListIter O b i) where
 mem:=by simp
 obj:=fun i h st c hc=>by
  obtain⟨hz,j,⟨x,y,G⟩,⟨o1,e1,_,d1⟩,⟨o2,e2,_,d2⟩⟩:=st
  have e':c=z∨c=TI∨c=TO∨c=i1∨c=O:=by simpa using hc
  rcases e' with q | q | q | q | q
  ·rw[q];exact⟨_,hz,fun v q=>nomatch q⟩
  ·rw[q];exact⟨_,j,fun v q=>nomatch q⟩
  ·rw[q];exact⟨_,G,fun v q=>nomatch q⟩
  ·rw[q];exact⟨o1,e1,fun v q=>by rw[d1]at q;cases q⟩
  ·rw[q];exact⟨o2,e2,fun v q=>by rw[d2]at q;cases q⟩
 keep:=fun i h h' st k=>by
  obtain⟨hz,j,⟨x,y,G⟩,h1,h2⟩:=st
  exact⟨k z (by simp) _ hz,k TI (by simp) _ j,⟨x,y,k TO (by simp) _ G⟩,h1.at fun o q=>k i1 (by simp) o q,h2.at fun o q=>k O (by simp) o q⟩
 item:=by
  intro X hP hw hK hc i pins s σ H E I hf st hg
  subst hP hw hK
  obtain⟨hz,j,⟨x0,y0,G⟩,h1,h2⟩:=st
  obtain⟨xs,ys,x,y,S,L,hx,hy⟩:=hg
  obtain⟨its,rv,p,_⟩:=I.list S
  obtain⟨U,Y,p2,_⟩:=I.list L
  obtain⟨u,hu,ru⟩:=rv.get hx
  obtain⟨u2,av,aw⟩:=Y.get hy
  have ac:z<s.heap.objs.size:=Heap.lt_size hz
  refine wpAny_pyNext_zip_item D hz j G h1 h2 p.isList p2.isList (x:=u) (y:=u2) (by simpa using hu) (by simpa using av) fun h' z' ah ai ag hT hsz hk=>?_
  refine⟨_,rfl,wpAny_letOwnedTupleGo_zip (s:={ s with heap:=h' }) z' fun Z ax sb=>?_⟩
  have al:Z.get? s.heap.objs.size=some { cls:=.type "tuple",data:=.seq #[u,u2] }:=(sb.2 _ (Nat.ne_of_gt ac)).trans hT
  have new:cU X.prog X.w (upd H s.heap.objs.size (.tup [x,y])) Z s.heap.objs.size (.tup [x,y]) :=
   ⟨by show 2≤sizeLine;decide,[u,u2],.cons ru (.cons aw .nil),⟨_,al,rfl,_,rfl⟩⟩
  have I1:Inv X pins σ (upd H s.heap.objs.size (.tup [x,y])) { s with heap:=Z } :=
   I.Fv (t':=s.toks) (ch:=[z,TI,TO,i1,O]) (fun c o J q=>(sb.2 c (fun F=>J (by simp[F]))).trans (hk c o (fun F=>J (by simp[F])) (fun F=>J (by simp[F])) (fun F=>J (by simp[F])) (fun F=>J (by simp[F])) q)) hf (f' _) new
  refine⟨.ref s.heap.objs.size,_,I1,rfl,⟨_,x,y,rfl,I.hok.fresh (f' _),rfl,fun l hl=>by rw[I.uE hl S];exact hx,fun l hl=>by rw[I.uE hl L];exact hy⟩,⟨ax,?_,⟨u,u2,?_⟩,?_,?_⟩,fun c ae=>?_⟩
  ·exact(sb.2 _ D.TIz).trans (hk _ _ D.TIz D.TITO D.TIi1 D.TIi2 j)
  ·exact(sb.2 _ D.TOz).trans ah
  ·exact ai.at fun o q=>(sb.2 _ D.i1z).trans q
  ·exact ag.at fun o q=>(sb.2 _ D.i2z).trans q
  ·have ar:c<s.heap.objs.size:=by
    have e':c=z∨c=TI∨c=TO∨c=i1∨c=O:=by simpa using ae
    rcases e' with q | q | q | q | q
    ·rw[q];exact ac
    ·rw[q];exact Heap.lt_size j
    ·rw[q];exact Heap.lt_size G
    ·rw[q];obtain⟨_,e1,_⟩:=h1;exact Heap.lt_size e1
    ·rw[q];obtain⟨_,e2,_⟩:=h2;exact Heap.lt_size e2
   rw[az (i3 ar)]
   exact(hf c ae).1
 done:=by
  intro X hP hw hK hc i pins s σ H E I hf st hg
  subst hP hw hK
  obtain⟨hz,j,⟨x0,y0,G⟩,h1,h2⟩:=st
  obtain⟨xs,ys,S,L,aa⟩:=hg
  obtain⟨its,rv,p,_⟩:=I.list S
  obtain⟨U,Y,p2,_⟩:=I.list L
  have l1:=rv.length
  have l2:=Y.length
  have he:its.toArray[i]?=none∨U.toArray[i]?=none:=by
   rcases aa with q | q
   ·exact .inl (by simp;omega)
   ·exact .inr (by simp;omega)
  exact wpAny_pyNext_zip_end (I.ok.hd hc) D hz j G h1 h2 p.isList p2.isList he fun h' hk=>⟨rfl,I.Nk (t':=s.toks) (ch:=[z,TI,TO,i1,O]) (fun c o J q =>
   hk c o (fun F=>J (by simp[F])) (fun F=>J (by simp[F])) (fun F=>J (by simp[F])) (fun F=>J (by simp[F])) q) hf⟩
 self:=fun A i s Q E st h=>wpAny_pyIter_zip st.1 h
noncomputable def Wd(K:PySem.W.Frag)(ta:TA):TI:=fun σ H R=>ta σ H fun vs H1=>∃a b xs ys,vs=[.ref a,.ref b]∧bV K H1 a xs∧bV K H1 b ys∧R (Vj K a b) H1
theorem Rw{X:Cx}{e e2:Expr}{ta:TA}{p pos tpos:Pos}{D:List Expr}{kk:Nat}(hg:Gl X "zip")(hm:X.mg "zip"=none)(ha:PA X [e,e2] ta)
  (hs:starEach [e,e2] X.env=(false,eval e X.env)::starEach [e2] X.env:=by rfl) (Y:(backTo pos (starEach [e2] X.env)).any (·.1)=false:=by rfl) :
  PI X (.Tuple D kk tpos) (.Call (.Name "zip" p) [e,e2] [] pos) (Wd X.K ta):=by
 intro pins s σ H R I h
 refine Call_ (qe I hg hm Ho (PyProof.Rows.callWith_type1 (cG (ha pos pins s σ H _ I h) fun us s1 ⟨vs,H1,j,r1,q1⟩=>?_) hs Y))
 obtain⟨a,b,xs,ys,ex,U,G,q⟩:=q1
 subst ex
 cases r1 with
 | cons r O =>
  cases O with
  | cons r' O =>
   cases O
   cases r
   cases r'
   obtain⟨its,rv,p1,_⟩:=j.list U
   obtain⟨Z,aa,p2,_⟩:=j.list G
   have la:a<s1.heap.objs.size:=p1.lt
   have lb:b<s1.heap.objs.size:=p2.lt
   refine call_zip_2 p1.isList p2.isList fun h' hz J L h1 h2 hsz hk=>wpAny_pyIter_zip hz ?_
   have I2:Inv X pins σ H1 { s1 with heap:=h' }:=j.kept (t':=s1.toks) hk
   refine⟨s1.heap.objs.size+4,[s1.heap.objs.size+4,s1.heap.objs.size+2,s1.heap.objs.size+3,s1.heap.objs.size,s1.heap.objs.size+1],_,_,H1,rfl,I2,Ii (PySem.W.ktu_apart s1.heap.objs.size a b la lb),⟨hz,J,⟨_,_,L⟩,h1,h2⟩,fun c S=>?_,q⟩
   have e':c=s1.heap.objs.size+4∨c=s1.heap.objs.size+2∨c=s1.heap.objs.size+3∨c=s1.heap.objs.size∨c=s1.heap.objs.size+1:=by simpa using S
   have F:s1.heap.objs.size≤c:=by
    rcases e' with z | z | z | z | z
    ·rw[z];exact Nat.le_add_right _ _
    ·rw[z];exact Nat.le_add_right _ _
    ·rw[z];exact Nat.le_add_right _ _
    ·rw[z];exact f' _
    ·rw[z];exact Nat.le_add_right _ _
   exact j.zB F (j.hok.fresh F)
end L2
section
namespace Bits
open PySem PyProof.Rows
end Bits
end
section
namespace TL
open PySem PySem.Builtin PySem.Builtin.Str PySem.StrLaws
noncomputable abbrev tl(x:Str):List Nat:=x.cps.toList
theorem iG(x y:Str):tl (x++y)=tl x++tl y:=by
 show(x++y).cps.toList=_
 rw[Str.cps_append,Array.toList_append]
theorem Tw(l:List Nat):tl ⟨l.toArray⟩=l:=rfl
theorem yC(s:String):tl (Str.ofString s)=s.toList.map Char.toNat:=PyProof.Rows.signs_ofString s
noncomputable def zq(S:List Nat):List (List Nat)→List Nat
 | []=>[]
 | [p]=>p
 | p::q::r=>p++(S++zq S (q::r))
theorem Dl(y:Str):∀parts:List Str,tl (Str.join y parts)=zq (tl y) (parts.map tl)
 | []=>rfl
 | [_]=>rfl
 | x::z::r=>by
  show tl (x++y++Str.join y (z::r))=tl x++(tl y++zq (tl y) ((z::r).map tl))
  rw[iG,iG,Dl y (z::r),ij]
theorem PJ(y:Str)(parts:List Str):Txt.join y parts=Str.join y parts:=glued_eq_join y parts
end TL
end
namespace L2
open PySem PySem.Spec PyProof.Rows
theorem Pa{n:Nat}(h:n≤16777216):Builtin.Str.tooLong n=false:=by
 have e:(2:Nat) ^ 24=16777216:=by decide
 unfold Builtin.Str.tooLong sizeLine
 exact j4 (by omega)
theorem i_:∀{ys:List Str}{us:List Value},Vals (ys.map V.str) us→StrsAre us ys
 | [],_,.nil=>.nil
 | y::ys,_,.cons r t=>by
  obtain⟨k,rfl⟩:=r
  exact .cons y k (i_ t)
section
variable {X:Cx} {pins:List (Addr×Obj)} {σ:St} {H:Hp} {s:Shared} {Q:VK}
end
section
variable {X:Cx}
theorem Ph:HH X "str.join" (fun x xs H Q=>∃a p,∃ys:List Str,x=.str a∧xs=[.ref p]∧(bV X.K H p (ys.map V.str)∨cR X.K H p (ys.map V.str)) ∧
  (ys.map (·.length)).sum+ys.length*a.length≤16777216∧Q (.str (Txt.join a ys)) H):=by
 intro pins s σ H x xs v us Q I L z h
 obtain⟨a,p,ys,rfl,rfl,j,hz,h⟩:=h
 obtain⟨t,rfl⟩:=L
 cases z with
 | cons D z =>
  cases z
  cases D
  rcases j with j | j
  ·obtain⟨its,r,⟨o,n,F,J,_,hd⟩,_⟩:=I.list j
   exact PyProof.Rows.join_list (items:=its.toArray) ⟨o,F,J,n,hd⟩ (by rw[List.toList_toArray];exact i_ r) hz fun t' k=>⟨.str _,H,I.tok k,⟨t',rfl⟩,h⟩
  ·obtain⟨its,r,G,_⟩:=I.tuple j
   exact PyProof.Rows.join_tuple (items:=its.toArray) G (by rw[List.toList_toArray];exact i_ r) hz fun t' k=>⟨.str _,H,I.tok k,⟨t',rfl⟩,h⟩
theorem Wt{id:String}{C:Str→Prop}{g:Str→V} (rule:∀(a:Str)(t:Tok)(s:Shared)(Q:Value→Shared→Prop),C a→(∀(u:Value)(k:Nat),RelV (g a) u→Q u { s with toks:=k }) →
  wpAny (model X.prog X.w) X.A (call (.builtin id) [.str a t]) Q X.xe s):HH X id (fun x xs H Q=>∃a,x=.str a∧xs=[]∧C a∧Q (g a) H):=by
 intro pins s σ H x xs v us Q I D j h
 obtain⟨a,rfl,rfl,z,h⟩:=h
 obtain⟨t,rfl⟩:=D
 cases j
 exact rule a t s _ z fun u k r=>⟨g a,H,I.tok k,r,h⟩
theorem Li:HH X "str.upper" (fun x xs H Q=>∃a,x=.str a∧xs=[]∧a.length≤5592405∧Q (.str (Txt.upper a)) H) :=
 Wt (C:=fun a=>a.length≤5592405) (g:=fun a=>.str (Txt.upper a)) fun a _ s _ j h =>
  PySem.SC.upper (Pa (by have h1:a.length≤5592405:=j;have:=PyProof.Rows.len_upper a;omega)) (h _ (s.toks+1) ⟨_,rfl⟩)
theorem Bu:HH X "str.isdigit" (fun x xs H Q=>∃a,x=.str a∧xs=[]∧True∧Q (.bl (Txt.isdigit a)) H) :=
 Wt (C:=fun _=>True) (g:=fun a=>.bl (Txt.isdigit a)) fun _ _ s _ _ h=>PySem.SC.isdigit (h _ s.toks rfl)
theorem Ws{id:String}{g:Str→Str→V} (rule:∀(a b:Str)(t u:Tok)(s:Shared)(Q:Value→Shared→Prop),(∀(v:Value)(k:Nat),RelV (g a b) v→Q v { s with toks:=k }) →
  wpAny (model X.prog X.w) X.A (call (.builtin id) [.str a t,.str b u]) Q X.xe s):HH X id (fun x xs H Q=>∃a b,x=.str a∧xs=[.str b]∧Q (g a b) H):=by
 intro pins s σ H x xs v us Q I D j h
 obtain⟨a,b,rfl,rfl,h⟩:=h
 obtain⟨t,rfl⟩:=D
 cases j with
 | cons z j =>
  cases j
  obtain⟨u,rfl⟩:=z
  exact rule a b t u s _ fun v k r=>⟨g a b,H,I.tok k,r,h⟩
theorem vm:HH X "str.startswith" (fun x xs H Q=>∃a b,x=.str a∧xs=[.str b]∧Q (.bl (Txt.startswith a b)) H) :=
 Ws (g:=fun a b=>.bl (Txt.startswith a b)) fun _ _ _ _ s _ h=>PySem.SC.startswith (h _ s.toks rfl)
theorem zb:HH X "str.endswith" (fun x xs H Q=>∃a b,x=.str a∧xs=[.str b]∧Q (.bl (Txt.endswith a b)) H) :=
 Ws (g:=fun a b=>.bl (Txt.endswith a b)) fun _ _ _ _ s _ h=>PySem.SC.endswith (h _ s.toks rfl)
theorem x_:nu X (.type "int") (fun xs H Q=>∃a n,xs=[.str a]∧PySem.intText? a=some n∧a.length≤640∧Q (.int n) H):=by
 intro pins s σ H xs us Q I j h
 obtain⟨a,n,rfl,D,F,h⟩:=h
 cases j with
 | cons z j =>
  cases j
  obtain⟨t,rfl⟩:=z
  exact PySem.W.KIN.call_text D F ⟨.int n,H,I.tok _,⟨_,rfl⟩,h⟩
end
section
variable {X:Cx} {o e:Expr} {to te:TE}
end
end L2
namespace L2
open PySem PySem.Spec PyProof.Rows
section
variable {X:Cx}
end
theorem IsPart.raw{v:Value}{o:Option Int}(p:IsPart v o):∃l:Option (Int×Tok),v=partValue l∧l.map (·.1)=o:=by
 cases p with
 | none=>exact⟨none,rfl,rfl⟩
 | int i t=>exact⟨some (i,t),rfl,rfl⟩
noncomputable def zL(n d:Nat):Option Int→Int
 | none=>(d:Int)
 | some i=>max 0 (min (if i<0 then i+(n:Int)else i) (n:Int))
theorem zK(n d:Nat)(o:Option Int):zL n d o=((HT.gf n d o:Nat):Int):=by
 cases o with
 | none=>rfl
 | some v =>
  show max (0:Int) (min (if v<0 then v+(n:Int)else v) (n:Int))=(((if v<0 then(v+(n:Int)).toNat else min v.toNat n):Nat):Int)
  by_cases j:v<0
  ·simp only[jI j]
   omega
  ·simp only[i9 j]
   omega
theorem Gg(a b:Option Int)(n:Nat):Builtin.Str.strSliceIndices a b 1 n=sliceRange (zL n 0 a) (zL n n b) 1:=by
 have h1:((1:Int)>0)=True:=by simp
 cases a<;>cases b<;>first
  | rfl
  | (simp only[Builtin.Str.strSliceIndices,zL,h1,if_true];rfl)
  | simp[Builtin.Str.strSliceIndices,zL]
theorem VH(a b:Option Int)(n:Nat):Builtin.Str.strSliceIndices a b 1 n=(List.range (HT.gf n n b-HT.gf n 0 a)).map (fun k=>HT.gf n 0 a+k):=by
 rw[Gg,zK,zK]
 generalize HT.gf n 0 a=p
 generalize HT.gf n n b=q
 simp only[sliceRange,show((1:Int)>0)=True from by simp,if_true]
 by_cases j:(p:Int)<q
 ·have e3:(((q:Int)-p+1-1) / 1).toNat=q-p:=by first | omega | (simp;done) | (simp;omega)
  simp only[j,if_true,e3]
  refine List.map_congr_left fun k _=>?_
  omega
 ·have:q-p=0:=by omega
  simp[j,this]
noncomputable def Hm(z:Str)(lo hi:Option Int):Str :=
 ⟨((z.cps.toList.drop (HT.gf z.length 0 lo)).take (HT.gf z.length z.length hi-HT.gf z.length 0 lo)).toArray⟩
theorem m9(z:Str)(lo hi:Option Int):PySem.StrLaws.sliceText z lo hi=Hm z lo hi:=by
 have h1:HT.gf z.length 0 lo≤z.length:=HT.J0 _ _ (Nat.zero_le _) _
 have h2:HT.gf z.length z.length hi≤z.length:=HT.J0 _ _ (f' _) _
 have j:HT.gf z.length 0 lo≤max (HT.gf z.length 0 lo) (HT.gf z.length z.length hi):=Nat.le_max_left _ _
 have D:max (HT.gf z.length 0 lo) (HT.gf z.length z.length hi)≤z.length:=Nat.max_le.mpr ⟨h1,h2⟩
 have hd:max (HT.gf z.length 0 lo) (HT.gf z.length z.length hi)-HT.gf z.length 0 lo=HT.gf z.length z.length hi-HT.gf z.length 0 lo:=by omega
 have e:Builtin.Str.strSliceIndices lo hi 1 z.length =
   Builtin.Str.strSliceIndices (some ((HT.gf z.length 0 lo:Nat):Int)) (some ((max (HT.gf z.length 0 lo) (HT.gf z.length z.length hi):Nat):Int)) 1 z.length:=by
  rw[PySem.StrLaws.strSliceIndices_plain j D,hd,VH]
 have e2:PySem.StrLaws.sliceText z lo hi =
   PySem.StrLaws.sliceText z (some ((HT.gf z.length 0 lo:Nat):Int)) (some ((max (HT.gf z.length 0 lo) (HT.gf z.length z.length hi):Nat):Int)):=by
  unfold PySem.StrLaws.sliceText
  rw[e]
 rw[e2,PySem.StrLaws.sliceText_nat z j D,hd]
 rfl
theorem kW(z:Str)(lo hi:Option Int):(Hm z lo hi).length≤z.length:=by
 show(((z.cps.toList.drop (HT.gf z.length 0 lo)).take (HT.gf z.length z.length hi-HT.gf z.length 0 lo)).toArray).size≤z.cps.size
 rw[ia,ii,ke,Array.length_toList]
 omega
noncomputable def VR:V→Option Int→Option Int→Hp→VK→Prop:=fun x lo hi H Q=>∃z,x=.str z∧z.length≤sizeLine∧Q (.str (Hm z lo hi)) H
theorem Rh{X:Cx}:Wo X VR:=by
 intro pins s σ H x v Y U lo hi sl Q I S L pl O h
 obtain⟨z,rfl,hz,q⟩:=h
 obtain⟨t,rfl⟩:=S
 obtain⟨os,G,J,D⟩:=L
 obtain⟨l,rfl,rfl⟩:=IsPart.raw pl
 obtain⟨u,rfl,rfl⟩:=IsPart.raw O
 refine⟨"str",_,F.slot_str_getitem.lookup,typeIs_str _ _ _,?_⟩
 refine wpAny_getItem_str_slice (l:=l) (u:=u) (st:=none) ⟨os,G,J,D⟩ rfl ?_
 have j:(PySem.StrLaws.sliceText z (l.map (·.1)) (u.map (·.1))).length≤sizeLine:=by
  rw[m9]
  exact ip (kW z _ _) hz
 rw[←m9]at q
 unfold PySem.StrLaws.sliceText at q j
 show Made.post (if((1:Int)==1&&(Builtin.Str.strSliceIndices (l.map (·.1)) (u.map (·.1)) 1 z.length).length==z.length)=true then Made.val (.str z t)
  else Made.str ⟨((Builtin.Str.strSliceIndices (l.map (·.1)) (u.map (·.1)) 1 z.length).filterMap (z.cps[·]?)).toArray⟩) (EP X pins σ Q) s
 by_cases c:((1:Int)==1&&(Builtin.Str.strSliceIndices (l.map (·.1)) (u.map (·.1)) 1 z.length).length==z.length)=true
 ·rw[jI c]at q ⊢
  exact⟨.str z,H,I,⟨t,rfl⟩,q⟩
 ·rw[i9 c]at q j ⊢
  exact⟨j,.str _,H,I.tok _,⟨_,rfl⟩,q⟩
end L2
namespace Att
open PySem PySem.W PySem.Calls PyProof.Rows
section
variable {prog:Program} {w:World} {A:Around} {E:Value→Shared→Prop} {s:Shared} {K:Frag}
end
end Att
namespace L2
open PySem PySem.Spec PyProof.Rows
end L2
namespace L2
open PySem PySem.Spec PyProof.Rows
end L2
namespace L2
open PySem PySem.Spec PyProof.Rows
noncomputable def inClass(s:Stmt)(j:Nat):Stmt:=match s with
 | .ClassDef _ _ _ body _ _ _ _ _ _ _=>body.getD j (.Pass ⟨0,0,0,0⟩)
 | _=>.Pass ⟨0,0,0,0⟩
noncomputable def mD(s:Stmt):Arguments:=match s with
 | .FunctionDef _ a _ _ _ _ _ _ _ _=>a
 | _=>{ posonlyargs:=[],args:=[],vararg:=none,kwonlyargs:=[],kw_defaults:=[],kwarg:=none,defaults:=[] }
noncomputable def eO(s:Stmt):List Stmt:=match s with
 | .FunctionDef _ _ b _ _ _ _ _ _ _=>b
 | _=>[]
noncomputable def aD(s:Stmt):Scope:=match s with
 | .FunctionDef _ _ _ _ _ _ sc _ _ _=>sc
 | _=>{ kind:=.function,names:=[],isGenerator:=false,isCoroutine:=false }
noncomputable abbrev E0:XK:=fun _ _ _=>False
structure fc (K:PySem.W.Frag) (x qual:Str) (st:Stmt) (f:Addr) (fd:FuncData):Prop where
 ex:∃(oc:Value)(od:Option Addr)(kV doc pm:Value)(an:Option Addr)(cdv ct:Value)(osl:Array (Option Value)),
  fd=PySem.W.fnOf x qual (mD st) (eO st) (aD st) .none kV doc pm an cdv ct∧K.lookup f=some ⟨oc,od,.func fd,osl⟩∧PySem.W.codeIn K cdv qual=true
 kp:PySem.W.keepIn K (.ref f)=true
section
variable {P:Program} {w:World} {K:PySem.W.Frag} {mg:Str→Option Value} {base:Heap}
theorem fc.binds{x qual:Str}{st:Stmt}{f:Addr}{fd:FuncData}{ps:List Str}(F:fc K x qual st f fd)
  (h:∀(kV doc pm:Value)(an:Option Addr)(cdv ct:Value)(us:List Value),us.length=ps.length→bindArgs (PySem.W.fnOf x qual (mD st) (eO st) (aD st) .none kV doc pm an cdv ct) ⟨us,[]⟩=pure (ps.zip us)):Binds K fd ps []:=by
 obtain⟨oc,od,kV,doc,pm,an,cdv,ct,osl,rfl,z,j⟩:=F.ex
 exact .all (h kV doc pm an cdv ct)
theorem qi{x qual:Str}{st:Stmt}{f:Addr}{oc:Value}{od an:Option Addr}{osl:Array (Option Value)}{kV doc pm cdv ct:Value}(l:K.lookup f=some ⟨oc,od,.func (PySem.W.fnOf x qual (mD st) (eO st) (aD st) .none kV doc pm an cdv ct),osl⟩)
  (c:PySem.W.codeIn K cdv qual=true) (k:PySem.W.keepIn K (.ref f)=true):fc K x qual st f (PySem.W.fnOf x qual (mD st) (eO st) (aD st) .none kV doc pm an cdv ct):=⟨⟨oc,od,kV,doc,pm,an,cdv,ct,osl,rfl,l,c⟩,k⟩
end
theorem vU{A:Around}{k:Nat}(j:bG k A):A.units+1<cLine:=iN (Nat.add_le_add_left (by decide:1≤64) _) j.units
section
variable {X:Cx}
theorem pv(i:Nat){x:Str}{pos:Pos}(z:X.N[i]?=some x:=by rfl)(D:Ve X.env.scope x:=by first | exact Or.inl rfl | exact Or.inr (Or.inl rfl) | exact Or.inr (Or.inr rfl))(hd:(x==("__debug__" : Str))=false:=by decide)
  (j:(x==("__classdict__" : Str))=false:=by decide):PE X (.Name x pos) (pP i):=Ku z D hd j
end
theorem aQ{A B:Prop}(h:B):if false=true then A else B:=by
 rw[i9 io]
 exact h
theorem bh{A B:Prop}(h:A):if true=true then A else B:=by
 rw[jI rfl]
 exact h
theorem fM{c A B:Prop}[Decidable c](h1:c→A)(h2:¬c→B):if c then A else B:=by
 by_cases h:c
 ·rw[jI h]
  exact h1 h
 ·rw[i9 h]
  exact h2 h
noncomputable def aA(H H':Hp):Prop:=∀b o,H b=some o→H' b=some o
theorem aA.refl(H:Hp):aA H H:=fun _ _ h=>h
theorem aA.trans{H H1 H2:Hp}(a:aA H H1)(b:aA H1 H2):aA H H2:=fun c o h=>b c o (a c o h)
section
variable {κ:Type} [DecidableEq κ]
end
theorem at_of{xs:List V}{z:Int}{j:Nat}{v:V}(e:z=(j:Int))(h:xs[j]?=some v):qX xs z=some v:=by
 rw[e]
 exact jw h
end L2
end
section
set_option maxHeartbeats 2000000
namespace XL
open PySem PySem.Spec PyProof.Rows L2
noncomputable def M5(h:Heap)(e:Addr)(c:Value)(dd:Option Addr)(tb:Value):Prop :=
 ∃j vs,h.get? e=some j∧j.cls=c∧j.dict=dd∧j.data=.fields vs∧vs[1]?=some tb
noncomputable def zW(h:Heap)(T:Addr)(fl:Value):Prop:=∃j ts,h.get? T=some j∧j.data=.fields ts∧ts[3]?=some fl
theorem Hl(o:Obj)(f:Array Value→Array Value):(o.mapFields f).dict=o.dict:=by
 obtain⟨c,d,j,s⟩:=o
 cases j<;>rfl
section
variable {M:Model} {A:Around} {E:Value→Shared→Prop} {s:Shared}
structure Nf (base:Heap) (l:List Env) (e:Addr) (c:Value) (dd:Option Addr) (fl:Value) (h h':Heap):Prop where
 st:base.StaysIn h'
 fr:h'.FunFrames base l
 ex:∃T,M5 h' e c dd (.ref T)∧T≠e∧base.get? T=none∧zW h' T fl∧h.objs.size≤T
 sl:h.UpToSlots h'
theorem uO{base:Heap}{env:Env}{outer:List Env}{L e:Addr}{c hd:Value}{dd:Option Addr}{tb:Value}{b:Bool}{Q:Unit→Shared→Prop}
  (aa:A.frames=some (env::outer)) (hl:s.heap.FunFrames base (env::outer)) (hf:env.frame=some L) (hx:M5 s.heap e c dd tb) (ae:base.StaysIn s.heap) (ag:base.get? e=none)
  (h:∀h',Nf base (env::outer) e c dd (rawInt L) s.heap h'→Q () { s with heap:=h' }) :
  wpAny M A (do let a ←frameOf env;let pl ←entryPlaceOf L b;let x ←EntryCells.newEntry hd a .none (rawInt L) .none pl;setField (.ref e) 1 x) Q E s:=by
 obtain⟨oe,vs,he,hc,ac,D,h1⟩:=hx
 have U:1<vs.size:=(Array.getElem?_eq_some_iff.mp h1).1
 have af:e∉(env::outer).filterMap (·.frame):=by
  intro hm
  obtain⟨_,o,ho,j⟩:=hl.mem hm
  rw[he]at ho
  cases ho
  exact j vs D
 refine wpAny_bind (wpAny_frameOf_fun aa hl hf fun g1 S=>?_)
 refine wpAny_bind (wpAny_entryPlaceOf fun pl ah=>?_)
 unfold EntryCells.newEntry newFields
 refine wpAny_bind (wpAny_newObj_type ?_ (ah.sizeOk5 _ _ _ _ _))
 have e1:g1.get? e=some oe:=(S.2.1 e af).trans he
 have Y:base.StaysIn g1:=fun q o G=>(S.2.1 q fun hm=>by rw[(hl.mem hm).1]at G;cases G).trans (ae q o G)
 generalize ht:({ cls:=.type "traceback",dict:=none,data:=.fields ([hd,.ref L,.none,rawInt L,.none]++(if pl.isEmpty then List.replicate 6 Value.none else pl)).toArray }:Obj)=tbo
 have e2:=Heap.get?_push_of_some (h:=g1) tbo e1
 refine wpAny_setField e2 D U (h _ ?_)
 have Z:g1.objs.size≠e:=Nat.ne_of_gt (Heap.lt_size e1)
 have d3:=Obj.data_mapFields D (·.setIfInBounds 1 (Value.ref g1.objs.size))
 have e3:=Heap.get?_update_self (Obj.mapFields (·.setIfInBounds 1 (Value.ref g1.objs.size))) e2 (Obj.isFreed_of_fields d3)
 have t3:=(Heap.get?_update_other (g1.push tbo) (Obj.mapFields (·.setIfInBounds 1 (Value.ref g1.objs.size))) (Ne.symm Z)).trans (Heap.get?_push_size g1 (by rw[←ht];rfl))
 have keep:∀q o,q≠e→g1.get? q=some o→((g1.push tbo).update e (Obj.mapFields (·.setIfInBounds 1 (Value.ref g1.objs.size)))).get? q=some o:=fun q o G F=>by
  rw[Heap.get?_update_other _ _ (Ne.symm G)]
  exact Heap.get?_push_of_some _ F
 have J:∀q o,s.heap.get? q=some o→(∀ws,o.data≠.fields ws)→q≠e:=fun q o F j z=>by
  rw[z,he]at F
  cases F
  exact j vs D
 refine⟨fun q o G=>keep q o (fun z=>by rw[z,ag]at G;cases G) (Y q o G),hl.of_keeps fun q o F j=>?_,?_,fun q o F j=>?_⟩
 ·obtain⟨sl,O⟩:=S.2.2 q o F
  exact⟨_,keep q _ (J q o F j) O,rfl⟩
 ·refine⟨g1.objs.size,⟨_,_,e3,(Obj.cls_mapFields _ _).trans hc,(Hl _ _).trans ac,d3,by simp[U]⟩,Z,Y.fresh,⟨_,_,t3,by rw[←ht],?_⟩,?_⟩
  ·simp
  ·exact Nat.le_of_eq S.1.symm
 ·obtain⟨sl,O⟩:=S.2.2 q o F
  exact⟨sl,keep q _ (J q o F j) O⟩
end
end XL
end
section
set_option maxHeartbeats 2000000
namespace XL
open PySem PySem.Spec PyProof.Rows L2
noncomputable def Loose(base h:Heap)(e:Addr)(c:Value)(dd:Option Addr):Prop :=
 ∃tb,M5 h e c dd tb∧(tb=.none∨∃T,tb=.ref T∧T≠e∧base.get? T=none∧zW h T .none)
section
variable {M:Model} {A:Around} {E:Value→Shared→Prop} {s:Shared}
theorem xF{base:Heap}{env:Env}{outer:List Env}{L e:Addr}{c:Value}{dd:Option Addr}{Q:Unit→Shared→Prop}
  (U:A.frames=some (env::outer)) (hl:s.heap.FunFrames base (env::outer)) (hf:env.frame=some L) (hx:Loose base s.heap e c dd) (Y:base.StaysIn s.heap) (Z:base.get? e=none)
  (h:∀h',Nf base (env::outer) e c dd (rawInt L) s.heap h'→Q () { s with heap:=h' }):wpAny M A (noteFrame (.ref e) env) Q E s:=by
 obtain⟨tb,hx,ht⟩:=hx
 have ac:=hx
 obtain⟨oe,vs,he,hc,aa,G,h1⟩:=hx
 unfold noteFrame
 simp only[hf]
 refine wpAny_bind (wpAny_field he G h1 ?_)
 rcases ht with rfl | ⟨T,rfl,ae,af,oT,ts,hT,O,h3⟩
 ·rw[i9 (by decide)]
  exact uO U hl hf ac Y Z h
 ·rw[jI (show(Value.ref T != Value.none)=true from by simp)]
  refine wpAny_bind (wpAny_field hT O h3 ?_)
  rw[i9 (show ¬((Value.none==rawInt L)=true)from by simp[rawInt])]
  refine wpAny_bind (wpAny_setField hT O (Array.getElem?_eq_some_iff.mp h3).1 ?_)
  generalize hg:s.heap.update T (Obj.mapFields (·.setIfInBounds 3 Value.none))=g
  have F:∀b,b≠T→g.get? b=s.heap.get? b:=fun b j=>by rw[←hg];exact Heap.get?_update_other _ _ (Ne.symm j)
  have J:∀b o,s.heap.get? b=some o→(∀ws,o.data≠.fields ws)→b≠T:=fun b o j D z=>by
   rw[z,hT]at j
   cases j
   exact D ts O
  refine uO (s:={ s with heap:=g }) U (hl.of_keeps fun b o j D=>⟨o,(F b (J b o j D)).trans j,rfl⟩) hf ⟨oe,vs,(F e (Ne.symm ae)).trans he,hc,aa,G,h1⟩
   (fun b o j=>(F b fun z=>by rw[z,af]at j;cases j).trans (Y b o j)) Z fun h' S=>h h' ⟨S.st,S.fr,?_,fun b o j D=>S.sl b o ((F b (J b o j D)).trans j) D⟩
  obtain⟨T',x1,x2,x3,x4,x5⟩:=S.ex
  refine⟨T',x1,x2,x3,x4,?_⟩
  have sz:g.objs.size=s.heap.objs.size:=by rw[←hg];exact Heap.size_after_update _ _ _
  exact ip (Nat.le_of_eq sz.symm) x5
theorem l_{base h0:Heap}{l:List Env}{e:Addr}{c fl:Value}{dd:Option Addr}{Q:Unit→Shared→Prop}(S:Nf base l e c dd fl h0 s.heap)
  (h:∀h',Nf base l e c dd .none h0 h'→Q () { s with heap:=h' }):wpAny M A (setFlight (.ref e) none) Q E s:=by
 obtain⟨T,⟨oe,vs,he,hc,aa,J,h1⟩,Y,Z,⟨oT,ts,hT,F,h3⟩,hn⟩:=S.ex
 have U:3<ts.size:=(Array.getElem?_eq_some_iff.mp h3).1
 unfold setFlight
 refine wpAny_bind (wpAny_field he J h1 ?_)
 rw[jI (show(Value.ref T != Value.none)=true from by simp)]
 refine wpAny_setField hT F U (h _ ?_)
 generalize hg:s.heap.update T (Obj.mapFields (·.setIfInBounds 3 ((none:Option Addr).elim Value.none fun f=>rawInt f)))=g
 have G:∀b,b≠T→g.get? b=s.heap.get? b:=fun b j=>by rw[←hg];exact Heap.get?_update_other _ _ (Ne.symm j)
 have L:∀b o,s.heap.get? b=some o→(∀ws,o.data≠.fields ws)→b≠T:=fun b o j D z=>by
  rw[z,hT]at j
  cases j
  exact D ts F
 have gT:=Heap.get?_update_self (Obj.mapFields (·.setIfInBounds 3 ((none:Option Addr).elim Value.none fun f=>rawInt f))) hT (Obj.isFreed_of_fields (Obj.data_mapFields F _))
 rw[hg]at gT
 refine⟨fun b o j=>(G b fun z=>by rw[z,Z]at j;cases j).trans (S.st b o j),S.fr.of_keeps fun b o j D=>⟨o,(G b (L b o j D)).trans j,rfl⟩,
  ⟨T,⟨oe,vs,(G e (Ne.symm Y)).trans he,hc,aa,J,h1⟩,Y,Z,⟨_,_,gT,Obj.data_mapFields F _,by simp[U]⟩,hn⟩,fun b o j D=>?_⟩
 obtain⟨sl,O⟩:=S.sl b o j D
 exact⟨sl,(G b (L b _ O D)).trans O⟩
theorem BK{base:Heap}{env:Env}{outer:List Env}{L e:Addr}{c:Value}{dd:Option Addr}{Q:Unit→Shared→Prop}
  (j:A.frames=some (env::outer)) (O:s.heap.FunFrames base (env::outer)) (J:env.frame=some L) (hx:Loose base s.heap e c dd) (z:base.StaysIn s.heap) (F:base.get? e=none)
  (h:∀h',Nf base (env::outer) e c dd .none s.heap h'→Q () { s with heap:=h' }):wpAny M A (leaving env (.ref e)) Q E s:=by
 unfold leaving
 refine wpAny_bind (xF j O J hx z F fun h' S=>?_)
 exact l_ (s:={ s with heap:=h' }) S fun D G=>h D G
end
end XL
end
section
set_option maxHeartbeats 2000000
namespace XL
open PySem PySem.Spec PyProof.Rows L2
noncomputable def Mj(e C d:Addr):HO:=.ext fun h=>∃j vs,h.get? e=some j∧j.cls=.ref C∧j.dict=some d∧j.data=.fields vs
structure z8 (n:Nat) (H:Hp) (h:Heap) (e C d:Addr):Prop where
 ex:H e=some (Mj e C d)
 new:n≤e
 tb:∃tb,M5 h e (.ref C) (some d) tb∧(tb=.none∨∃T,tb=.ref T∧T≠e∧n≤T∧H T=none∧zW h T .none)
noncomputable def aW(P:Program)(w:World):Fo:=fun outer H s E v s'=>∃e C d H',v=.ref e∧s'.os=s.os∧AllBare s'.gens∧Un (frs outer) [] H H' s.heap s'.heap∧mY P w H' s'.heap∧z8 s.heap.objs.size H' s'.heap e C d∧E (.ref C) (some d) H'
section
variable {P:Program} {w:World} {H:Hp} {h h':Heap} {n:Nat} {e C d:Addr}
theorem z8.grow(F:z8 n H h e C d){m:Nat}(j:m≤n):z8 m H h e C d:=by
 obtain⟨x,y,tb,J,G⟩:=F
 refine⟨x,ip j y,tb,J,?_⟩
 rcases G with z | ⟨T,a1,a2,L,D⟩
 ·exact .inl z
 ·exact .inr ⟨T,a1,a2,ip j L,D⟩
theorem z8.ground(F:z8 n H h e C d)(fs:List Addr)(D:∀b∈fs,H b=none) :
  ∃as:List Addr,(∀b∈fs,b∈as)∧e∈as∧(∀b∈as,b=e∨H b=none)∧(∀b∈as,b∈fs∨n≤b)∧Loose (PySem.W.hideAll h as) h e (.ref C) (some d)∧(∀b∈as,b=e∨b∈fs∨∃o vs,h.get? b=some o∧o.data=.fields vs):=by
 obtain⟨x,y,tb,G,S⟩:=F
 rcases S with z | ⟨T,a1,a2,O,L,J⟩
 ·refine⟨e::fs,fun b j=>.tail _ j,.head _,fun b j=>?_,fun b j=>?_,⟨tb,G,.inl z⟩,fun b j=>?_⟩
  ·exact(hU.mp j).elim .inl fun q=>.inr (D b q)
  ·exact(hU.mp j).elim (fun q=>.inr (q▸y)) .inl
  ·exact(hU.mp j).elim .inl fun q=>.inr (.inl q)
 ·refine⟨e::T::fs,fun b j=>.tail _ (.tail _ j),.head _,fun b j=>?_,fun b j=>?_,⟨tb,G,.inr ⟨T,a1,a2,PySem.W.hideAll_none _ (.tail _ (.head _)),J⟩⟩,fun b j=>?_⟩
  ·rcases hU.mp j with q | q
   ·exact .inl q
   ·exact .inr ((hU.mp q).elim (fun z=>z▸L) (D b))
  ·rcases hU.mp j with q | q
   ·exact .inr (q▸y)
   ·exact(hU.mp q).elim (fun z=>.inr (z▸O)) .inl
  ·rcases hU.mp j with q | q
   ·exact .inl q
   ·refine .inr ((hU.mp q).elim (fun z=>.inr ?_) .inl)
    obtain⟨o,ts,t1,t2,_⟩:=J
    exact⟨o,ts,z▸t1,t2⟩
theorem kE{as:List Addr}{l:List Env}{fl:Value}(ok:mY P w H h)(hx:H e=some (Mj e C d))(has:∀b∈as,b=e∨H b=none)
  (S:Nf (PySem.W.hideAll h as) l e (.ref C) (some d) fl h h'):mY P w H h':=by
 intro a u G
 by_cases F:a=e
 ·subst F
  rw[hx]at G
  cases G
  obtain⟨T,⟨J,vs,x1,x2,x3,x4,_⟩,_⟩:=S.ex
  exact⟨⟨J,vs,x1,x2,x3,x4⟩,⟨J,x1⟩,fun h1 h2 ⟨o,L,O,U⟩ k=>⟨o,L,k _ O,U⟩⟩
 ·refine(ok a u G).stay (fun b v j q=>S.st b v (PySem.W.hideAll_get _ q fun z=>?_)) (fun _ q=>q) fun _ _ q=>q
  rcases has b z with D | D
  ·rcases j with j | j
   ·exact F (j.symm.trans D)
   ·rw[D,hx]at j
    cases j
  ·rcases j with j | j
   ·rw[j,G]at D
    cases D
   ·rw[j]at D
    cases D
theorem z8.wD{as:List Addr}{l:List Env}(F:z8 n H h e C d)(ok:mY P w H h)(z:n≤h.objs.size)(S:Nf (PySem.W.hideAll h as) l e (.ref C) (some d) .none h h'):z8 n H h' e C d:=by
 refine⟨F.ex,F.new,?_⟩
 obtain⟨T,x1,x2,x3,x4,j⟩:=S.ex
 exact⟨.ref T,x1,.inr ⟨T,rfl,x2,ip z j,ok.fresh j,x4⟩⟩
end
section
variable {X:Cx} {pins:List (Addr×Obj)} {σ:L2.St} {H:Hp} {s:Shared} {e C d:Addr}
theorem tW{h':Heap}{as:List Addr}{l:List Env}{fl:Value}{fs:List Addr}{H0:Hp}{h0 h:Heap}(u:Un fs [] H0 H h0 h)(S:Nf (PySem.W.hideAll h as) l e (.ref C) (some d) fl h h')
  (D:∀b∈fs,∀o vs,h.get? b=some o→o.data≠.fields vs) (has:∀b o,h0.get? b=some o→b∈as→b∈fs) (hex:∀b∈fs,∃o',h'.get? b=some o'):Un fs [] H0 H h0 h' where
 keep:=fun b o q n j hx=>S.st b o (PySem.W.hideAll_get _ (u.keep b o q n j hx) fun z=>j (has b o q z))
 slot:=fun b o q n j hx=>by
  obtain⟨sl,e1⟩:=u.slot b o q n j hx
  obtain⟨F,e2⟩:=S.sl b _ e1 fun vs z=>D b j _ vs e1 z
  exact⟨F,e2⟩
 free:=u.free
 there:=fun b o q hx=>by
  obtain⟨o',e1⟩:=u.there b o q hx
  by_cases j:b∈as
  ·exact hex b (has b o q j)
  ·exact⟨o',S.st b o' (PySem.W.hideAll_get _ e1 j)⟩
 tups:=u.tups
 frzs:=u.frzs
 tbls:=u.tbls
theorem leaves{P:Program}{w:World}{K:PySem.W.Frag}{mg:Str→Option Value}{base:Heap}{N:List Str}{qual:Str}{scope:Scope}{f:Addr}{cd:Value}{A:Around}{outer:List Env}{s0:Shared}{H0:Hp}{E:XK}
  (I:Inv (eU (aW P w) P w K mg base N qual scope f cd A outer s0 H0 E) pins σ H s) (F:z8 s0.heap.objs.size H s.heap e C d) (hE:E (.ref C) (some d) H) :
  (eU (aW P w) P w K mg base N qual scope f cd A outer s0 H0 E).xe (.ref e) s:=by
 have J:=I.ok.frames
 have G:=I.stack
 have sub:=I.jb
 obtain⟨as,g1,g2,g3,g4,g5,g6⟩:=F.ground (frs (envOfC qual scope s0.heap.objs.size f cd::outer)) sub
 have Y:s0.heap.objs.size≤s.heap.objs.size:=I.sz
 refine BK (L:=s0.heap.objs.size) J (PySem.W.funFrames_hide G fun env he b j=>g1 b (List.mem_filterMap.mpr ⟨env,he,j⟩)) rfl g5 (fun b o q=>PySem.W.of_hideAll _ q) (PySem.W.hideAll_none _ g2) fun h' S=>?_
 have U:∀b∈frs outer,b∈frs (envOfC qual scope s0.heap.objs.size f cd::outer):=fun b j=>by
  unfold frs at j ⊢
  rw[List.filterMap_cons]
  exact am _ j
 refine⟨e,C,d,H,rfl,I.os,I.bare,?_,kE I.hok F.ex g3 S,F.wD I.hok Y S,hE⟩
 refine tW (l:=envOfC qual scope s0.heap.objs.size f cd::outer) I.base S (fun b j o vs Z hd=>?_) (fun b o q j=>?_) fun b j=>?_
 ·obtain⟨_,o',D,O⟩:=G.mem (U b j)
  rw[Z]at D
  cases D
  exact O vs hd
 ·rcases g4 b j with z | z
  ·unfold frs at z
   rw[List.filterMap_cons]at z
   rcases hU.mp z with z | z
   ·exact absurd (Heap.lt_size q) (by rw[z];exact Nat.lt_irrefl _)
   ·exact z
  ·exact absurd (Heap.lt_size q) (Nat.not_lt.mpr z)
 ·obtain⟨_,o',D,_⟩:=S.fr.mem (U b j)
  exact⟨o',D⟩
theorem passes{P:Program}{w:World}{K:PySem.W.Frag}{mg:Str→Option Value}{base:Heap}{N:List Str}{qual:Str}{scope:Scope}{f:Addr}{cd:Value}{A:Around}{outer:List Env}{s0:Shared}{H0:Hp}{E:XK} :
  iB (aW P w) (eU (aW P w) P w K mg base N qual scope f cd A outer s0 H0 E) E:=by
 intro pins σ H s v s' I h
 obtain⟨e,C,d,H',rfl,os,bare,un,hok,F,j⟩:=h
 have D:=I.call' (ch:=[]) os un hok bare (fun b z=>absurd z (by simp))
 exact leaves D (F.grow I.sz) j
end
end XL
end
section
namespace XL
open PySem
section
variable {prog:Program} {w:World} {A:Around} {h:Heap} {g:Array GenState} {d:Drawn} {t:Nat} {os:OsState}
variable {nm q:Str} {C N:Addr} {bs bm:List Value} {hdct:Bool} {sn:List Str} {sub:List Value} {ab:Bool} {col:Option Bool} {dd:Option Addr} {k0 k1 k2 k3 k5:Option Value} {B newId initId:String} {bmN:List Value}
theorem Pg{R:Result→Shared→Prop}(F:ExcBaseFacts B newId initId bmN)(z:bm.contains (.type B)=true)(G:bm.contains (.type "AttributeError")=false)(J:bm.contains (.type "NameError")=false)
  (j:h.get? C=some (excClassObj nm q C N bs bm hdct sn sub ab col dd k0 k1 k2 k3 k5 newId))
  (L:R (.ok (.ret (.ref (h.objs.size+1)))) ⟨(h.push { cls:=.type "tuple",data:=.seq #[] }).push { cls:=.ref C,data:=.fields #[.ref h.objs.size,.none,.none,.none,.bool false,.none] },g,d,t,os⟩) :
  codeAny (model prog w) A (.builtin newId ⟨[.ref C],[]⟩) R ⟨h,g,d,t,os⟩:=by
 have ends:=F.ends
 have S:(Value.ref C::bm).contains (.type B)=true:=by rw[List.contains_cons,z,Bool.or_true]
 have O:(Value.ref C::bm).contains (.type "AttributeError")=false:=by rw[List.contains_cons,G];rfl
 have D:(Value.ref C::bm).contains (.type "NameError")=false:=by rw[List.contains_cons,J];rfl
 refine codeAny_builtinAt F.entry ?_
 unfold Builtin.«BaseException.__new__»
 refine wpAt_bind ?_
 show wpAt _ _ _ (stack>>=_) _ _ _
 refine wpAt_bind (wpAt_stack fun p below=>wpAt_of_wpAny ?_)
 wp_walk
 refine wpAt_of_wpAny ?_
 rw[F.owner]
 repeat(first
  | with_reducible refine wpAny_madeHere_exc F.canon j ?_
  | with_reducible refine wpAny_loadPart_at j ?_
  | (with_reducible refine wpAny_isSubtype_exc j ?_;first | rw[S] | rw[O] | rw[D])
  | wp_step)
 show R _ _
 rw[Heap.size_push]
 exact L
theorem vd{E:Value→Shared→Prop}(F:ExcBaseFacts B newId initId bmN)(S:bm.contains (.type B)=true)(hA:bm.contains (.type "AttributeError")=false)(hN:bm.contains (.type "NameError")=false)
  {fI:Addr} {O:Obj} {Q:Fin→Shared→Prop}
  (j:h.get? C=some (excClassObj nm q C N bs bm hdct sn sub ab col dd k0 k1 k2 k3 k5 newId)) (hi:PySem.W.Looks (model prog w) h (typeLookup (.ref C) "__init__") (some (.ref fI))) (L:h.get? fI=some O) (G:O.cls=.type "function")
  (U:wpAny (model prog w) A (call (.ref fI) [.ref (h.objs.size+1)]) (fun r s'=>r=.none∧Q (.done (.ret (.ref (h.objs.size+1)))) s') E
   ⟨(h.push { cls:=.type "tuple",data:=.seq #[] }).push { cls:=.ref C,data:=.fields #[.ref h.objs.size,.none,.none,.none,.bool false,.none] },g,d,t,os⟩) :
  wpAny (model prog w) A (Builtin.«type.__call__» ⟨[.ref C],[]⟩) Q E ⟨h,g,d,t,os⟩:=by
 repeat(first | with_reducible refine wpAny_loadPart_at j ?_ | with_reducible refine wpAny_madeBy_exc j ?_ | wp_step)
 refine codeAny_call_builtin_code (Code.quiet_builtin _ F.quiet) (wpAny_check_new_subU (bmB:=bm) F S .base j ?_)
 refine Pg F S hA hN j ?_
 show wpAny _ _ _ _ _ _
 generalize D:((h.push { cls:=.type "tuple",data:=.seq #[] }).push { cls:=.ref C,data:=.fields #[.ref h.objs.size,.none,.none,.none,.bool false,.none] })=g2
 have up:∀b o,h.get? b=some o→g2.get? b=some o:=fun b o e=>by rw[←D];exact Heap.get?_push_of_some _ (Heap.get?_push_of_some _ e)
 have z:g2.get? (h.objs.size+1)=some { cls:=.ref C,data:=.fields #[.ref h.objs.size,.none,.none,.none,.bool false,.none] }:=by rw[←D];heap_get
 have cC:(Value.ref C::bm).contains (.ref C)=true:=by simp
 have J:=up _ _ j
 rw[D]at U
 unfold isInstance
 repeat(first | with_reducible refine wpAny_loadPart_at z ?_ | (with_reducible refine wpAny_isSubtype_exc J ?_;rw[cC]) | wp_step)
 show wpAny _ _ (typeLookup (.ref C) _) _ _ _
 refine(hi.keeps up).at (wpAny_holding (wpAny_bind ?_))
 unfold bindSpecial
 refine wpAny_bind (wpAny_typeOf (T:="function") ⟨_,up _ _ L,G⟩ ?_)
 rw[jI (by decide)]
 refine wpAny_pure (wpAny_bind (wpAny_mono U (fun r s' Z=>?_) fun _ _ x=>x))
 obtain⟨rfl,Y⟩:=Z
 wp_walk
 exact Y
theorem Mt{E:Value→Shared→Prop}(F:ExcBaseFacts B newId initId bmN)(J:bm.contains (.type B)=true)(L:bm.contains (.type "AttributeError")=false)(O:bm.contains (.type "NameError")=false)
  {fI:Addr} {G:Obj} {Q:Value→Shared→Prop}
  (j:h.get? C=some (excClassObj nm q C N bs bm hdct sn sub ab col dd k0 k1 k2 k3 k5 newId)) (hi:PySem.W.Looks (model prog w) h (typeLookup (.ref C) "__init__") (some (.ref fI))) (z:h.get? fI=some G) (D:G.cls=.type "function")
  (S:wpAny (model prog w) (A.under (.builtin "type.__call__" ⟨[.ref C],[]⟩)) (call (.ref fI) [.ref (h.objs.size+1)]) (fun r s'=>r=.none∧Q (.ref (h.objs.size+1)) s') E
   ⟨(h.push { cls:=.type "tuple",data:=.seq #[] }).push { cls:=.ref C,data:=.fields #[.ref h.objs.size,.none,.none,.none,.bool false,.none] },g,d,t,os⟩) :
  wpAny (model prog w) A (call (.ref C) []) Q E ⟨h,g,d,t,os⟩:=by
 have f1:=tc_lookup
 have f2:=tc_bind (.ref C)
 have U:(⟨h,g,d,t,os⟩:Shared).TypeIs (.ref C) "type":=⟨_,j,rfl⟩
 refine wpAny_call (codeAny_of_tree ?_)
 show wpAny _ _ (callAny (.ref C) _) _ _ _
 repeat(any_goals (first | assumption | with_reducible refine wpAny_loadPart_at j ?_ | wp_step))
 refine⟨rfl,?_⟩
 exact codeAny_call_builtin_at (Code.quiet_builtin _ (by decide +kernel)) entry_typeCall (wpAny_check_type_call_sub j (vd F J L O j hi z D S))
end
section
variable {M:Model} {A:Around} {E:Value→Shared→Prop} {env:Env}
variable {nm q:Str} {C N:Addr} {bs bm:List Value} {hdct:Bool} {sn:List Str} {sub:List Value} {ab:Bool} {col:Option Bool} {dd:Option Addr} {k0 k1 k2 k3 k5:Option Value} {newId:String}
theorem Gn{s:Shared}{x:Sem Value}{Q:Flow→Shared→Prop}(j:bm.contains (.type "BaseException")=true)(J:A.handled=none)
  (h:wpAny M A x (fun v s1=>∃e t od osl,v=.ref e∧s1.heap.get? C=some (excClassObj nm q C N bs bm hdct sn sub ab col dd k0 k1 k2 k3 k5 newId) ∧
   s1.heap.get? e=some ⟨.ref C,od,.fields #[.ref t,.none,.none,.none,.bool false,.none],osl⟩∧E (.ref e) s1) E s):wpAny M A (raiseStmt env (some x) none) Q E s:=by
 have L:(Value.ref C::bm).contains (.type "BaseException")=true:=by rw[List.contains_cons,j,Bool.or_true]
 unfold raiseStmt
 refine wpAny_bind (wpAny_mono h (fun v s1 h1=>?_) fun _ _ z=>z)
 obtain⟨e,t,od,osl,rfl,D,G,F⟩:=h1
 obtain⟨O,g,d,tk,os⟩:=s1
 repeat(first
  | with_reducible refine wpAny_loadPart_at G ?_
  | with_reducible refine wpAny_loadPart_at D ?_
  | (with_reducible refine wpAny_isSubtype_exc D ?_;rw[L])
  | wp_step)
 exact wpAny_raiseNew_none J F
end
end XL
end
section
namespace XL
open PySem PySem.W PyProof.Rows Builtin Builtin.ObjectAttr
noncomputable def mC:List Value→Bool
 | .ref _::r=>mC r
 | [.type a,.type b,.type c]=>a == "Exception" && (b == "BaseException" && c == "object")
 | _=>false
theorem kO(self:Value):∀{l:List Value},mC l=true→refuseLoop self "__setattr__" l=pure ()
 | .ref _::r,h=>by
  rw[refuseLoop_ref]
  exact kO self (l:=r) h
 | [.type a,.type b,.type c],h=>by
  have q:(a == "Exception")=true∧(b == "BaseException")=true∧(c == "object")=true:=by
   rw[←h9,←h9]
   exact h
  rw[beq_iff_eq.mp q.1,beq_iff_eq.mp q.2.1,beq_iff_eq.mp q.2.2]
  exact PySem.F.store_Exception.passes self
theorem qQ:∀{l:List Value},mC l=true→l.contains (.type "object")=true
 | .ref _::r,h=>by rw[List.contains_cons,qQ (l:=r) h,Bool.or_true]
 | [.type a,.type b,.type c],h=>by
  have q:(a == "Exception")=true∧(b == "BaseException")=true∧(c == "object")=true:=by
   rw[←h9,←h9]
   exact h
  rw[beq_iff_eq.mp q.1,beq_iff_eq.mp q.2.1,beq_iff_eq.mp q.2.2]
  simp
noncomputable def gY(K:Frag)(C:Addr):Bool:=(clsIn K C).any fun cd=>mC cd.mro
section
variable {prog:Program} {w:World} {A:Around} {s:Shared} {K:Frag} {x C:Addr}
theorem Oi{R:Result→Shared→Prop}{S:Obj}{od:Option Obj}{name:Str}{tk:Tok}{v:Value}(X:K.In s.heap)(I:PySem.W.InstAt s.heap x S C od)(Y:gY K C=true)(Z:takerIn K C name=some none)
  (h:∀b,wpAny (model prog w) A.in1 (storeInOwnDict (.ref x) (.ref C) (.str name tk) name v b)
   (fun fin s'=>match fin with | .done f=>R (.ok f) s' | .again J=>J.quiet=true∧codeAny (model prog w) A J R s') (fun e s'=>R (.error e) s') s) :
  codeAny (model prog w) A (.call (.builtin "object.__setattr__") ⟨[.ref x,.str name tk,v],[]⟩) R s:=by
 have j:=PySem.F.store_object
 obtain⟨cd,G,z⟩:=any_some Y
 have ne:cd.mro.isEmpty=false:=by
  cases q:cd.mro with
  | nil=>rw[q]at z;cases z
  | cons _ _=>rfl
 have sub:Looks (model prog w) s.heap (isInstance (.ref x) (.type "object")) true :=
  I.type.andThen (looks_mroIn X (by unfold mroIn;rw[G,Option.bind_some,i9 (by rw[ne];decide),qQ z]))
 refine codeAny_call_builtin j.slot.plain j.entry (@check_slot (model prog w) _ _ s "object.__setattr__" "object" "__setattr__" (.ref x) [.str name tk,v] [] _ j.kind j.split sub (j.args (.ref x) (.str name tk) v) ?_)
 obtain⟨attr,O,hr⟩:=Option.bind_eq_some_iff.mp Z
 have L:Looks (model prog w) s.heap (mroOf (.ref C)) cd.mro:=(looks_clsIn X G).andThen .now
 have U:Looks (model prog w) s.heap (storeTaker? attr) none:=by
  cases attr with
  | none=>exact .now
  | some a =>
   obtain⟨b,hb,D⟩:=Option.map_eq_some_iff.mp hr
   refine(looks_takesIn X hb).andThen ?_
   cases b with
   | true=>cases D
   | false=>exact .now
 rw[osa_eq,refuse_eq]
 refine wpAny_bind (wpAny_bind (I.type.here (wpAny_bind (L.here ?_))))
 rw[kO _ z]
 refine wpAny_pure (wpAny_bind (I.type.here (wpAny_bind ((looks_findIn X O).here (wpAny_bind (U.here ?_))))))
 exact h _
theorem Gh{E:Value→Shared→Prop}{j:Obj}{name:Str}{v:Value}{Q:Unit→Shared→Prop}(X:K.In s.heap)(hx:s.heap.get? x=some j)(z:j.cls=.ref C)(L:j.dict=none)(O:∀c,j.data≠.cls c)
  (hs:findIn K (.ref C) "__setattr__"=some (some (.builtin "object.__setattr__"))) (hp:gY K C=true) (ht:takerIn K C name=some none) (hh:hasDictIn K C=true)
  (h:∀h' tk,(∀b o,b≠x→s.heap.get? b=some o→h'.get? b=some o)→h'.get? x=some { j with dict:=some s.heap.objs.size }→h'.Ns1 s.heap.objs.size (fun y=>if y=name then some v else none)→Q () { s with heap:=h',toks:=tk }) :
  wpAny (model prog w) A (setAttr (.ref x) name v) Q E s:=by
 have I:PySem.W.InstAt s.heap x j C none:=⟨hx,z,by
  unfold notCls
  obtain⟨_,_,dt,_⟩:=j
  cases dt<;>first | rfl | exact absurd rfl (O _),by rw[L];trivial⟩
 refine set_plain X I hs (Oi (s:={ s with toks:=s.toks+1 }) X I hp ht fun b=>?_)
 obtain⟨cd,hc,ag⟩:=any_some hh
 unfold storeInOwnDict
 refine wpAny_bind (wpAny_pure (wpAny_bind ?_))
 unfold ownDictForStores instanceDict
 refine wpAny_bind (wpAny_loadPart hx ?_)
 rw[z]
 refine wpAny_bind (PySem.W.Looks.here (s:={ s with toks:=s.toks+1 }) (PySem.W.looks_clsIn X hc) ?_)
 rw[ag,L]
 simp only[Bool.not_true,Bool.false_eq_true,if_false,typeHasDict,Bool.or_self]
 have F:x≠s.heap.objs.size:=i3 (Heap.lt_size hx)
 have J:(s.heap.push { cls:=.type "dict",data:=.dict #[] }).get? x=some j:=Heap.get?_push_of_some _ hx
 have fin:wpAny (model prog w) A.in1 (do
   let d ←alloc { cls:=.type "dict",data:=.dict #[] }
   update x fun o=>{ o with dict:=some d }
   dictMade (.ref C) x d) (fun r s'=>wpAny (model prog w) A.in1 (match r with | some d=>storeInDict d (.str name s.toks) name v | none=>noDictFor (.ref x) (.ref C) name b)
    (fun fin s'=>match fin with | .done f=>(match(Except.ok f:Result)with | .ok (.ret _)=>Q () s' | .ok _=>False | .error e=>E e s') | .again c'=>c'.quiet=true∧codeAny (model prog w) A c' (fun r s'=>match r with | .ok (.ret _)=>Q () s' | .ok _=>False | .error e=>E e s') s') (fun e s'=>E e s') s') (fun e s'=>E e s') { s with toks:=s.toks+1 }:=by
  refine wpAny_bind (wpAny_alloc' ?_)
  refine wpAny_bind (wpAny_update' J ?_)
  unfold dictMade
  refine wpAny_pure ?_
  generalize hg:((s.heap.push { cls:=.type "dict",data:=.dict #[] }).update x fun o=>{ o with dict:=some s.heap.objs.size })=g
  have gd:g.get? s.heap.objs.size=some { cls:=.type "dict",data:=.dict #[] }:=by
   rw[←hg]
   exact(Heap.get?_update_ne _ _ _ _ F.symm).trans (Heap.get?_push_at rfl rfl)
  have gx:g.get? x=some { j with dict:=some s.heap.objs.size }:=by
   rw[←hg]
   refine Heap.get?_update_self _ J ?_
   have af:=(Heap.get?_some_iff.mp hx).2
   obtain⟨oc,od,S,osl⟩:=j
   cases S<;>first | rfl | exact af
  have go:∀b o,b≠x→s.heap.get? b=some o→g.get? b=some o:=fun b o U e=>by
   rw[←hg]
   exact(Heap.get?_update_ne _ _ _ _ U).trans (Heap.get?_push_of_some _ e)
  have Y:g.Ns s.heap.objs.size (fun _=>none):=⟨_,#[],_,gd,rfl,fun e he=>absurd he (by simp),fun _=>rfl⟩
  show wpAny _ _ (storeInDict s.heap.objs.size (.str name s.toks) name v) _ _ _
  unfold storeInDict newKeyGuard
  refine wpAny_bind (wpAny_pure (wpAny_bind (wpAny_nsSet1 (Heap.Ns1.of_empty Y) fun h' D G=>?_)))
  obtain⟨oD,ai,ah,aa,Z,ac⟩:=D.count (Within.cons name v Within.nil)
  refine wpAny_bind (wpAny_lookBehind aa (by rw[Z];exact pastItsLine_dict (ip ac (by rw[cr,iq,sizeLine_eq];omega))) ?_)
  refine wpAny_pure ?_
  refine h h' _ (fun b o U e=>?_) ?_ D
  ·exact(G.2 b (i3 (Heap.lt_size e))).trans (go b o U e)
  ·exact(G.2 x F).trans gx
 cases ae:j.data with
 | cls c=>exact absurd ae (O c)
 | _=>exact fin
end
end XL
end
section
namespace XL
open PySem PySem.W PyProof.Rows Builtin Builtin.ObjectAttr
theorem zQ:builtinKind "BaseException.__getattribute__"=some .slot:=by decide +kernel
theorem Hr:splitId "BaseException.__getattribute__"=some ("BaseException","__getattribute__"):=by kernel_rfl
theorem Hs:plainId "BaseException.__getattribute__"=true:=by decide +kernel
theorem o_:∀{l:List Value},mC l=true→l.contains (.type "BaseException")=true
 | .ref _::r,h=>by rw[List.contains_cons,o_ (l:=r) h,Bool.or_true]
 | [.type a,.type b,.type c],h=>by
  have q:(a == "Exception")=true∧(b == "BaseException")=true∧(c == "object")=true:=by
   rw[←h9,←h9]
   exact h
  rw[beq_iff_eq.mp q.1,beq_iff_eq.mp q.2.1,beq_iff_eq.mp q.2.2]
  simp
theorem Qi(o:Value):bindSpecial (.builtin "BaseException.__getattribute__") o=pure (.builtin "BaseException.__getattribute__",[o]):=by
 have z:withoutEnding? "BaseException.__getattribute__" "#opaque"=none:=by decide +kernel
 have j:withoutEnding? "BaseException.__getattribute__" "#data"=none:=by decide +kernel
 simp only[bindSpecial,typeOf,builtinType,z,j,zQ]
 rfl
section
variable {prog:Program} {w:World} {A:Around} {s:Shared} {K:Frag} {x C:Addr}
theorem Qh{E:Value→Shared→Prop}{L:Obj}{od:Option Obj}{name:Str}{v:Value}{expr:Bool}{Q:Value→Shared→Prop}(X:K.In s.heap)(I:PySem.W.InstAt s.heap x L C od)(U:gY K C=true)
  (J:findIn K (.ref C) "__getattribute__"=some (some (.builtin "BaseException.__getattribute__"))) (hk:findIn K (.ref C) "__getattr__"=some none)
  (O:findObj K C od name=some (.value v)) (Z:handedIn v=true) (h:Q v { s with toks:=s.toks+1 }):wpAny (model prog w) A (getAttr (.ref x) name expr) Q E s:=by
 obtain⟨cd,Y,D⟩:=any_some U
 have ne:cd.mro.isEmpty=false:=by
  cases q:cd.mro with
  | nil=>rw[q]at D;cases D
  | cons _ _=>rfl
 have sub:Looks (model prog w) s.heap (isInstance (.ref x) (.type "BaseException")) true :=
  I.type.andThen (looks_mroIn X (by unfold mroIn;rw[Y,Option.bind_some,i9 (by rw[ne];decide),o_ D]))
 have j:(onTheHeap (.ref C)&&(Value.builtin "BaseException.__getattribute__"==Value.builtin "object.__getattribute__"))=false:=by
  have z:(Value.builtin "BaseException.__getattribute__"==Value.builtin "object.__getattribute__")=false:=by decide +kernel
  rw[z,Bool.and_false]
 unfold getAttr
 refine wpAny_bind (wpAny_mkText ?_)
 unfold getAttrBy
 refine wpAny_holding (wpAny_bind (PySem.W.Looks.here (s:={ s with toks:=s.toks+1 }) I.type (wpAny_bind (PySem.W.Looks.here (s:={ s with toks:=s.toks+1 }) (looks_findIn X J) ?_))))
 dsimp only
 rw[j,i9 (by decide)]
 unfold getAttrByItsOwn hookBefore
 rw[jI (by rfl)]
 refine wpAny_bind (PySem.W.Looks.here (s:={ s with toks:=s.toks+1 }) (looks_findIn X hk) ?_)
 have G:(expr&&onTheHeap (Value.builtin "BaseException.__getattribute__"))=false:=by cases expr<;>rfl
 have run:wpAny (model prog w) A (callGetattribute (.ref x) (.str name s.toks) (.builtin "BaseException.__getattribute__") expr) (fun u s'=>u=v∧s'={ s with toks:=s.toks+1 }) (fun _ _=>False) { s with toks:=s.toks+1 }:=by
  unfold callGetattribute
  rw[G,i9 (by decide)]
  unfold boundAndCalled
  rw[Qi]
  refine wpAny_bind (wpAny_pure (wpAny_call ?_))
  refine codeAny_call_builtin Hs PySem.F.entry_bexc_ga (@check_slot (model prog w) _ _ _ "BaseException.__getattribute__" "BaseException" "__getattribute__" (.ref x) [.str name s.toks] [] _ zQ Hr sub (PySem.F.args_bexc_ga _ _) ?_)
  unfold Builtin.«object.__getattribute__»
  refine wpAny_bind (wpAny_pure (wpAny_bind (wpAny_pure ?_)))
  refine wpAny_bind (PySem.W.Looks.here (s:={ s with toks:=s.toks+1 }) I.type (wpAny_bind (PySem.W.Looks.here (s:={ s with toks:=s.toks+1 }) (looks_find X I O) ?_)))
  exact wpAny_pure ⟨rfl,rfl⟩
 refine wpAny_bind (wpAny_attempt (wpAny_holding (wpAny_mono run (fun u s' S=>?_) fun _ _ z=>False.elim z)))
 obtain⟨rfl,rfl⟩:=S
 show wpAny _ _ (handedOut u) _ _ _
 rw[handedOut_of Z]
 exact wpAny_pure h
end
end XL
end
section
namespace XL
open PySem PySem.Spec PyProof.Rows L2
noncomputable def yq(x C:Addr)(dd:Option Addr):HO:=.ext fun h=>∃(j:Obj)(t:Addr),h.get? x=some j∧j.cls=.ref C∧j.dict=dd∧j.data=.fields #[.ref t,.none,.none,.none,.bool false,.none]
theorem HJ:plainId "Exception.__init__"=true:=by decide +kernel
theorem HQ{M:Model}{A:Around}{E:Value→Shared→Prop}{h:Heap}{g:Array GenState}{d:Drawn}{tk:Nat}{os:OsState}{x C:Addr}{od D:Option Addr}{z:Data}{osl j:Array (Option Value)}{L:Value}{cd:ClassData}{Q:Unit→Shared→Prop}
  (sub:PySem.W.Looks M h (isInstance (.ref x) (.type "Exception")) true) (hx:h.get? x=some ⟨.ref C,od,z,osl⟩) (J:h.get? C=some ⟨L,D,.cls cd,j⟩) (G:Q () ⟨h,g,d,tk,os⟩) :
  wpAny M A (checkBuiltinCall "Exception.__init__" ⟨[.ref x],[]⟩) Q E ⟨h,g,d,tk,os⟩:=by
 have F:=PySem.F.excCall_Exception
 have ns:=F.noStar
 simp only[checkBuiltinCall,F.initKind,F.initSplit,F.initRow]
 refine wpAny_bind (PySem.W.Looks.here (s:=⟨h,g,d,tk,os⟩) sub ?_)
 simp only[Bool.not_true,Bool.false_eq_true,if_false]
 repeat(first | with_reducible refine wpAny_loadPart_at hx ?_ | with_reducible refine wpAny_loadPart_at J ?_ | wp_step)
 exact G
theorem qR:∀{l:List Value},mC l=true→l.contains (.type "Exception")=true
 | .ref _::r,h=>by rw[List.contains_cons,qR (l:=r) h,Bool.or_true]
 | [.type a,.type b,.type c],h=>by
  have q:(a == "Exception")=true∧(b == "BaseException")=true∧(c == "object")=true:=by
   rw[←h9,←h9]
   exact h
  rw[beq_iff_eq.mp q.1,beq_iff_eq.mp q.2.1,beq_iff_eq.mp q.2.2]
  simp
section
variable {X:Cx}
theorem Qo:nu X (.builtin "Exception.__init__") (fun xs H Q=>∃x C dd,xs=[.ref x]∧H x=some (yq x C dd)∧gY X.K C=true∧Q .non H):=by
 intro pins s σ H xs us Q I r h
 obtain⟨x,C,dd,rfl,hx,hp,q⟩:=h
 obtain rfl:=Vals.Ul r
 obtain⟨⟨oe,t,h1,h2,Y,Z⟩,_,_⟩:=(show cU X.prog X.w H s.heap x (yq x C dd)from I.hok x _ hx)
 obtain⟨cd,J,O⟩:=PySem.W.any_some hp
 have ne:cd.mro.isEmpty=false:=by
  cases q:cd.mro with
  | nil=>rw[q]at O;cases O
  | cons _ _=>rfl
 have ty:PySem.W.Looks (model X.prog X.w) s.heap (typeOf (.ref x)) (.ref C):=h2▸(PySem.W.Looks.ld h1).andThen .now
 have sub:PySem.W.Looks (model X.prog X.w) s.heap (isInstance (.ref x) (.type "Exception")) true :=
  ty.andThen (PySem.W.looks_mroIn I.o6 (by unfold PySem.W.mroIn;rw[J,Option.bind_some,i9 (by rw[ne];decide),qR O]))
 obtain⟨c2,L,j,S⟩:∃c2 L j,s.heap.get? C=some ⟨c2,L,.cls cd,j⟩:=by
  unfold PySem.W.clsIn at J
  split at J
  ·rename_i q
   cases J
   exact⟨_,_,_,I.o6 _ _ q⟩
  ·cases J
 obtain⟨oc,od,aa,osl⟩:=oe
 dsimp only at h2 Y Z
 subst h2 Y Z
 refine wpAny_call (codeAny_call_builtin HJ PySem.F.excCall_Exception.initEntry (HQ (g:=s.gens) (d:=s.drawn) (tk:=s.toks) (os:=s.os) sub h1 S ?_))
 have sz:0<(#[Value.ref t,Value.none,.none,.none,.bool false,.none]:Array Value).size:=by simp
 have U:(s.heap.push { cls:=.type "tuple",data:=.seq #[] }).get? x=some _:=Heap.get?_push_of_some _ h1
 have G:=Heap.get?_update_self (Obj.mapFields (·.setIfInBounds 0 (Value.ref s.heap.objs.size))) U (Obj.isFreed_of_fields (Obj.data_mapFields rfl _))
 have fin:∀h':Heap,h'=(s.heap.push { cls:=.type "tuple",data:=.seq #[] }).update x (Obj.mapFields (·.setIfInBounds 0 (Value.ref s.heap.objs.size)))→EP X pins σ Q .none { s with heap:=h' }:=fun h' e=>by
  refine⟨.non,H,?_,rfl,q⟩
  have kp:∀b u,b≠x→s.heap.get? b=some u→h'.get? b=some u:=fun b u hb z=>by
   rw[e,Heap.get?_update_other _ _ (Ne.symm hb)]
   exact Heap.get?_push_of_some _ z
  have D:h'.get? x=some ⟨.ref C,od,.fields #[.ref s.heap.objs.size,.none,.none,.none,.bool false,.none],osl⟩:=by rw[e];exact G
  have w1:=I.write (x:=x) (e:=x) (o:=yq x C od) (t':=s.toks) (h':=h') (by rw[hx];exact True.intro) (.inl rfl) kp ⟨_,D⟩
   ⟨⟨_,s.heap.objs.size,D,rfl,rfl,rfl⟩,⟨_,D⟩,fun g1 g2 ⟨o,t,y1,y2⟩ k=>⟨o,t,k _ y1,y2⟩⟩
  have same:upd H x (yq x C od)=H:=by
   funext b
   unfold upd
   by_cases z:b=x
   ·rw[jI z,z,hx]
   ·rw[i9 z]
  rw[same]at w1
  exact w1
 unfold Builtin.«BaseException.__init__»
 wp_walk
 exact fin _ rfl
noncomputable def Uj(K:PySem.W.Frag)(ta tv:TE)(f:Str):TS:=fun D σ H=>tv σ H fun y H1=>ta σ H1 fun v H2=>∃x C,v=.ref x∧H2 x=some (yq x C none)∧gY K C=true ∧
 PySem.W.findIn K (.ref C) "__setattr__"=some (some (.builtin "object.__setattr__"))∧PySem.W.takerIn K C f=some none∧PySem.W.hasDictIn K C=true ∧
 ∀d,H2 d=none→d≠x→D.nx σ (upd (upd H2 d (.xd [(f,y)])) x (yq x C (some d)))
theorem Oc{o value:Expr}{f:Str}{pos pos':Pos}{ta tv:TE}(ha:PE X o ta)(hv:PE X value tv)(hs:swapsWith value (some (.Attribute o f pos')) pos.line X.env=pure false) :
  PS X (.Assign [.Attribute o f pos'] value pos) (Uj X.K ta tv f):=by
 intro pins s σ H D I h
 refine plainObj_wpAny_Assign_Attribute (cG (hv pins s σ H _ I h) fun u s1 ⟨y,H1,I1,ry,q⟩=>cG (ha pins s1 σ H1 _ I1 q) fun ov s2 hz=>?_) hs
 obtain⟨v,H2,J,rx,x,C,ex,hx,hp,S,ht,hh,q2⟩:=hz
 subst ex
 obtain rfl:ov=Value.ref x:=rx
 obtain⟨⟨oe,t,h1,h2,h3,h4⟩,_,_⟩:=(show cU X.prog X.w H2 s2.heap x (yq x C none)from J.hok x _ hx)
 refine Gh J.o6 h1 h2 h3 (fun c z=>by rw[h4]at z;cases z) S hp ht hh fun h' tk kp F Y=>?_
 have hsz:H2 s2.heap.objs.size=none:=J.hok.fresh (f' _)
 have L:s2.heap.objs.size≠x:=Nat.ne_of_gt (Heap.lt_size h1)
 refine⟨σ,_,?_,q2 s2.heap.objs.size hsz L⟩
 have j:∀b,H2 b=none→b≠x:=fun b e z=>by rw[z,hx]at e;cases e
 refine J.un (h':=h') (t':=tk) ⟨fun b o e n _ _=>kp b o (j b n) e,fun b o e n _ _=>⟨o.slots,kp b o (j b n) e⟩,fun b o e n _=>?_,fun b o e _=>?_,fun b xs e=>?_,fun b o u e=>?_,fun b ps e=>⟨#[],?_⟩⟩ ?_
 ·rw[az (j b n),az (i3 (Heap.lt_size e))]
  exact n
 ·by_cases z:b=x
  ·exact⟨_,z▸F⟩
  ·exact⟨o,kp b o z e⟩
 ·rw[az (qK e hx (by intro z;cases z)),az (aH e hsz)]
  exact e
 ·rw[az (qK e hx (by intro z;cases z)),az (aH e hsz)]
  exact e
 ·rw[az (qK e hx (by intro z;cases z)),az (aH e hsz),e]
  simp
 ·intro b u e
  by_cases U:b=x
  ·subst U
   rw[ak]at e
   cases e
   exact⟨⟨_,t,F,h2,rfl,h4⟩,⟨_,F⟩,fun g1 g2 ⟨o,t,y1,y2⟩ k=>⟨o,t,k _ y1,y2⟩⟩
  ·rw[az U]at e
   by_cases zd:b=s2.heap.objs.size
   ·subst zd
    rw[ak]at e
    cases e
    refine⟨_,Y,fun g=>?_⟩
    by_cases O:g=f
    ·subst O
     rw[jI rfl,List.lookup_cons_self]
     exact ry
    ·rw[i9 O]
     have nb:(g==f)=false:=by
      cases q:(g==f)with
      | false=>rfl
      | true=>exact absurd (eq_of_beq q) O
     rw[List.lookup_cons,nb]
     exact True.intro
   ·rw[az zd]at e
    refine(J.hok b u e).stay (fun c v G z=>kp c v (fun Z=>?_) z) (fun c z=>?_) fun c xs z=>?_
    ·rcases G with G | G
     ·exact U (G.symm.trans Z)
     ·rw[Z,hx]at G
      cases G
    ·rw[az (qK z hx (by intro y;cases y)),az (aH z hsz)]
     exact z
    ·rw[az (qK z hx (by intro y;cases y)),az (aH z hsz)]
     exact z
end
end XL
end
section
namespace XL
open PySem PySem.Spec PyProof.Rows L2
structure g_ (K:PySem.W.Frag) (C:Addr) (m:Str) (f:Addr):Prop where
 ga:PySem.W.specialIn K (.ref C) "__getattribute__"=some (some (.builtin "type.__getattribute__"))
 rd:PySem.W.readsIn K C (.type "type")=true
 at_:PySem.W.findCls K (.ref C) (.type "type") m=some (.val (.ref f))
 kp:PySem.W.keepIn K (.ref f)=true
theorem QW(K:PySem.W.Frag):PySem.W.findCls K (.type "Exception") (.type "type") "__init__"=some (.val (.builtin "Exception.__init__")):=by kernel_rfl
section
variable {X:Cx} {CX:Fo} {k:Nat} {f C:Addr} {fd:FuncData} {ps:List Str} {sp:Sp} {dvs:List V} {ds:List Value} {E:XK} {m:Str} {pos apos:Pos} {e o:Expr} {es:List Expr} {ta:TE} {t:TA}
theorem lK{pl:Sem Bool}(he:PE X o (tC (.ref C)))(j:g_ X.K C m f)(F:aF X.prog X.w X.K X.mg X.base CX k f fd ps sp)(Y:bG k X.A)(hb:Binds X.K fd ps ds)(hd:Vals dvs ds)(hx:iB CX X E)(O:PA X (e::es) t)
  (D:starEach (e::es) X.env=(false,eval e X.env)::starEach es X.env:=by rfl) (G:(backTo pos (starEach es X.env)).any (·.1)=false:=by rfl)
  (U:eval (.Call (.Attribute o m apos) (e::es) [] pos) X.env=(do
   let J ←eval o X.env
   standAt apos.atName
   let(f,first) ←holding [J] (getMethod J m pl)
   callWith pos f first (backTo pos (starEach (e::es) X.env)) (backToKw pos (keywordEach [] X.env))):=by rfl) :
  PE X (.Call (.Attribute o m apos) (e::es) [] pos) (qz sp dvs E t):=by
 intro pins s σ H Q I h
 refine PySem.W.methodCall_KW (pl:=pl) (cG (he pins s σ H (fun v H1=>v=.ref C∧H1=H) I ⟨rfl,rfl⟩) fun u s1 ⟨v,H1,z,rx,e1,e2⟩=>?_) U
 subst e1 e2
 obtain rfl:u=Value.ref C:=rx
 refine PySem.W.method_cls z.o6 j.ga (PySem.W.cls_value z.o6 j.rd j.at_ rfl ?_)
 have Z:=z.tok (s1.toks+1)
 refine PySem.W.callWith_K (first:=[]) (h₀:=X.base) I.ok.mod.kin j.kp (cG (O pos pins _ σ H1 _ Z h) fun us s2 ⟨vs,H2,L,r,S⟩=>⟨L.o6,?_⟩) D G
 exact wZ F Y hb hd hx L r S
theorem Ks{pl:Sem Bool}{p:Pos}(G:Gl X "Exception")(F:X.mg "Exception"=none)(J:PA X [e] t)
  (z:starEach [e] X.env=[(false,eval e X.env)]:=by rfl)
  (S:eval (.Call (.Attribute (.Name "Exception" p) "__init__" apos) [e] [] pos) X.env=(do
   let D ←eval (.Name "Exception" p) X.env
   standAt apos.atName
   let(f,first) ←holding [D] (getMethod D "__init__" pl)
   callWith pos f first (backTo pos (starEach [e] X.env)) (backToKw pos (keywordEach [] X.env))):=by rfl) :
  PE X (.Call (.Attribute (.Name "Exception" p) "__init__" apos) [e] [] pos) (Qy (fun xs H Q=>∃x C dd,xs=[.ref x]∧H x=some (yq x C dd)∧gY X.K C=true∧Q .non H) t):=by
 intro pins s σ H Q I h
 refine PySem.W.methodCall_KW (pl:=pl) (qe I G F (u:=.type "Exception") (by decide +kernel) ?_ (by decide) (by decide)) S
 obtain⟨Z,j⟩:=I.fr
 refine PySem.W.method_type j I.ok.mod.kin (by kernel_rfl) (by decide +kernel) (QW X.K) (by decide +kernel) ?_
 have Y:=I.tok (s.toks+1)
 exact PyProof.Rows.callWith_builtin1 (cG (J pos pins _ σ H _ Y h) fun us s1 ⟨vs,H1,L,O,U⟩=>Qo pins s1 σ H1 vs us Q L O U) z rfl
end
structure pJ (K:PySem.W.Frag) (C:Addr):Prop where
 over:gY K C=true
 sa:PySem.W.findIn K (.ref C) "__setattr__"=some (some (.builtin "object.__setattr__"))
 tk:PySem.W.takerIn K C "number"=some none
 hd:PySem.W.hasDictIn K C=true
 ga:PySem.W.findIn K (.ref C) "__getattribute__"=some (some (.builtin "BaseException.__getattribute__"))
 gh:PySem.W.findIn K (.ref C) "__getattr__"=some none
 nn:PySem.W.findIn K (.ref C) "number"=some none
noncomputable def WM(K:PySem.W.Frag):Sp:=fun vs H Q _=>∃x C n,vs=[.ref x,.int n]∧H x=some (yq x C none)∧pJ K C∧∀d,H d=none→d≠x→Q .non (upd (upd H d (.xd [("number",.int n)])) x (yq x C (some d)))
noncomputable def NB(K:PySem.W.Frag)(n:Int):Sp:=fun vs H Q _=>∃x C,vs=[.ref x]∧H x=some (yq x C none)∧pJ K C∧∀d,H d=none→d≠x→Q .non (upd (upd H d (.xd [("number",.int n)])) x (yq x C (some d)))
end XL
end
section
set_option linter.unusedVariables false
namespace XL
open PySem PySem.Spec PyProof.Rows L2
structure Wl (K:PySem.W.Frag) (C fI:Addr):Prop where
 cls:∃nm q N bs bm hdct sn sub ab col dd k0 k1 k2 k3 k5,K.lookup C=some (excClassObj nm q C N bs bm hdct sn sub ab col dd k0 k1 k2 k3 k5 "Exception.__new__")∧bm.contains (.type "Exception")=true ∧
  bm.contains (.type "AttributeError")=false∧bm.contains (.type "NameError")=false∧bm.contains (.type "BaseException")=true
 init:PySem.W.findIn K (.ref C) "__init__"=some (some (.ref fI))
 fn:PySem.W.isFn K (.ref fI)=true
 kp:PySem.W.keepIn K (.ref C)=true
noncomputable def Throws(X:Cx)(E:XK):Prop:=∀(pins:List (Addr×Obj))(σ:L2.St)(H:Hp)(s:Shared)(m:Nat)(e C d:Addr),Inv X pins σ H s→X.s_0.heap.objs.size≤m→(∀p∈X.pn++pins,p.1<m)→z8 m H s.heap e C d→E (.ref C) (some d) H→X.xe (.ref e) s
theorem Throws.passes{X:Cx}{E:XK}(t:Throws X E):iB (aW X.prog X.w) X E:=by
 intro pins σ H s v s' I h
 obtain⟨e,C,d,H',rfl,os,bare,un,hok,F,D⟩:=h
 have G:=I.call' (ch:=[]) os un hok bare (fun b z=>absurd z (by simp))
 exact t pins σ H' s' s.heap.objs.size e C d G I.sz (fun p j=>Heap.lt_size (I.pin p j).1) F D
theorem bF{P:Program}{w:World}{K:PySem.W.Frag}{mg:Str→Option Value}{base:Heap}{N:List Str}{qual:Str}{scope:Scope}{f:Addr}{cd:Value}{A:Around}{outer:List Env}{s0:Shared}{H0:Hp}{E:XK} :
  Throws (eU (aW P w) P w K mg base N qual scope f cd A outer s0 H0 E) E:=fun pins σ H s m e C d I j _ F z=>leaves I (F.grow j) z
noncomputable def Ir(C:Addr)(n:Int)(E:XK):TS:=fun _ _ H=>∀e d H',(∀b o,H b=some o→H' b=some o)→H' e=some (Mj e C d)→H' d=some (.xd [("number",.int n)])→E (.ref C) (some d) H'
theorem Sx{K:PySem.W.Frag}{f:Addr}(h:PySem.W.isFn K (.ref f)=true){g:Heap}(X:K.In g):∃o,g.get? f=some o∧o.cls=.type "function":=by
 have e:=beq_iff_eq.mp h
 unfold PySem.W.typeIn at e
 simp only at e
 cases q:K.lookup f with
 | none=>rw[q]at e;cases e
 | some o =>
  rw[q]at e
  exact⟨o,X _ _ q,Option.some.inj e⟩
theorem bO{X:Cx}{C fI:Addr}{x:Str}{np cpos pos:Pos}{n:Int}{E:XK}{k:Nat}{fd:FuncData}(M:Wl X.K C fI)(hc:pJ X.K C)(F:aF X.prog X.w X.K X.mg X.base (aW X.prog X.w) k fI fd ["self"] (NB X.K n))(hr:bG (k+1) X.A)
  (hg:Gl X x) (hm:X.mg x=some (.ref C)) (hb:Binds X.K fd ["self"] []) (calm:X.calm=true) (th:Throws X E) (Y:(x==("__debug__" : Str))=false:=by decide) :
  PS X (.Raise (some (.Call (.Name x np) [] [] cpos)) none pos) (Ir C n E):=by
 intro pins s σ H D I h
 obtain⟨nm,q,N,bs,bm,hdct,sn,sub,ab,col,dd,k0,k1,k2,k3,k5,hC,b1,b2,b3,b4⟩:=M.cls
 rw[arm_exec_Raise]
 refine wpAny_bind (wpAny_standAt (Gn (C:=C) (nm:=nm) (q:=q) (N:=N) (bs:=bs) (bm:=bm) (hdct:=hdct) (sn:=sn) (sub:=sub) (ab:=ab) (col:=col) (dd:=dd) (k0:=k0) (k1:=k1) (k2:=k2) (k3:=k3) (k5:=k5) (newId:="Exception.__new__") b4 (I.ok.hd calm) ?_))
 refine wpAny_bind (wpAny_mono (Q:=fun v s1=>∃e t od osl,v=.ref e∧s1.heap.get? C=some (excClassObj nm q C N bs bm hdct sn sub ab col dd k0 k1 k2 k3 k5 "Exception.__new__") ∧
   s1.heap.get? e=some ⟨.ref C,od,.fields #[.ref t,.none,.none,.none,.bool false,.none],osl⟩∧X.xe (.ref e) s1) (E:=X.xe) ?_ (fun v s3 h3=>wpAny_bind (wpAny_standAt (wpAny_pure h3))) fun _ _ z=>z)
 refine wpAny_Call_Name_kw (lU I hg hm ?_ Y)
 refine PySem.W.callWith_K0 (first:=[]) I.o6 M.kp ?_
 obtain⟨oI,U,ac⟩:=Sx M.fn I.o6
 obtain⟨j,g,dr,tk,os⟩:=s
 refine Mt (w:=X.w) PySem.F.excBase_Exception b1 b2 b3 (I.o6 _ _ hC) (PySem.W.looks_findIn I.o6 M.init) U ac ?_
 generalize O:((j.push { cls:=.type "tuple",data:=.seq #[] }).push { cls:=.ref C,data:=.fields #[.ref j.objs.size,.none,.none,.none,.bool false,.none] })=h2
 have up:∀b u,j.get? b=some u→h2.get? b=some u:=fun b u e=>by rw[←O];exact Heap.get?_push_of_some _ (Heap.get?_push_of_some _ e)
 have hx:h2.get? (j.objs.size+1)=some ⟨.ref C,none,.fields #[.ref j.objs.size,.none,.none,.none,.bool false,.none],#[]⟩:=by rw[←O];heap_get
 have I1:Inv X pins σ (upd H (j.objs.size+1) (yq (j.objs.size+1) C none)) ⟨h2,g,dr,tk,os⟩ :=
  I.laid (a:=j.objs.size+1) (t':=tk) up (Nat.le_succ _) ⟨⟨_,j.objs.size,hx,rfl,rfl,rfl⟩,⟨_,hx⟩,fun g1 g2 ⟨o,t,J,S⟩ k=>⟨o,t,k _ J,S⟩⟩
 have Z:H (j.objs.size+1)=none:=I.hok.fresh (Nat.le_succ _)
 have aa:NB X.K n [.ref (j.objs.size+1)] (upd H (j.objs.size+1) (yq (j.objs.size+1) C none)) (fun v H2=>v=.non∧∃d,H d=none∧d≠j.objs.size+1∧H2=upd (upd (upd H (j.objs.size+1) (yq (j.objs.size+1) C none)) d (.xd [("number",.int n)])) (j.objs.size+1) (yq (j.objs.size+1) C (some d))) (fun _ _ _=>False) :=
  ⟨_,C,rfl,ak,hc,fun d hd G=>⟨rfl,d,by rw[az G]at hd;exact hd,G,rfl⟩⟩
 refine wpAny_call (codeAny_mono (F.run _ X.stack ⟨h2,g,dr,tk,os⟩ _ ⟨[.ref (j.objs.size+1)],[]⟩ [.ref (j.objs.size+1)] [.ref (j.objs.size+1)] _ _ (hr.make C [] []) (I1.env0.make C [] []) (hb _ [.ref (j.objs.size+1)] I1.o6 rfl) (.cons rfl .nil) aa) fun r s' L=>?_)
 cases r with
 | error v =>
  obtain⟨_,_,_,_,_,_,_,_,_,_,z⟩:=L
  exact False.elim z
 | ok fl =>
  cases fl with
  | next=>exact False.elim L
  | brk=>exact False.elim L
  | cont=>exact False.elim L
  | ret u =>
   obtain⟨v,H2,I3,rv,ev,d,hd,G,eH⟩:=I1.after L
   subst ev
   refine⟨rv,?_⟩
   have ex:H2 (j.objs.size+1)=some (yq (j.objs.size+1) C (some d)):=by rw[eH];exact ak
   obtain⟨⟨oe,t,J,S,y3,y4⟩,_,_⟩:=(show cU X.prog X.w H2 s'.heap (j.objs.size+1) (yq (j.objs.size+1) C (some d))from I3.hok _ _ ex)
   obtain⟨oc,od,ae,osl⟩:=oe
   dsimp only at S y3 y4
   subst S y3 y4
   have I4:Inv X pins σ (upd H2 (j.objs.size+1) (Mj (j.objs.size+1) C d)) s':=by
    have w1:=I3.write (x:=j.objs.size+1) (e:=j.objs.size+1) (o:=Mj (j.objs.size+1) C d) (t':=s'.toks) (h':=s'.heap) (by rw[ex];exact True.intro) (.inl rfl) (fun b z _ e=>e) ⟨_,J⟩
     ⟨⟨_,_,J,rfl,rfl,rfl⟩,⟨_,J⟩,fun g1 g2 ⟨o,t,z1,z2⟩ k=>⟨o,t,k _ z1,z2⟩⟩
    exact w1
   refine⟨j.objs.size+1,t,some d,osl,rfl,I3.o6 _ _ hC,J,?_⟩
   refine th pins σ _ s' j.objs.size (j.objs.size+1) C d I4 I.sz (fun p j=>Heap.lt_size (I.pin p j).1) ⟨ak,Nat.le_succ _,.none,⟨_,_,J,rfl,rfl,rfl,rfl⟩,.inl rfl⟩ ?_
   refine h (j.objs.size+1) d _ (fun b o e=>?_) ak ?_
   ·have nb:b≠j.objs.size+1:=aH e Z
    rw[az nb,eH,az nb,az (aH e hd),az nb]
    exact e
   ·rw[az G,eH,az G]
    exact ak
end XL
end
section
namespace XL
open PySem PySem.Spec PyProof.Rows L2
section
variable {X:Cx} {pins:List (Addr×Obj)} {σ:L2.St} {H:Hp} {s:Shared} {e C d:Addr}
theorem km{as:List Addr}{fl:Value}{h':Heap}{m:Nat}(I:Inv X pins σ H s)(F:z8 m H s.heap e C d)(hm:X.s_0.heap.objs.size≤m)(hp:∀p∈X.pn++pins,p.1<m)
  (g3:∀b∈as,b=e∨H b=none) (g4:∀b∈as,b∈frs X.stack∨m≤b) (g6:∀b∈as,b=e∨b∈frs X.stack∨∃o vs,s.heap.get? b=some o∧o.data=.fields vs)
  (S:Nf (PySem.W.hideAll s.heap as) X.stack e (.ref C) (some d) fl s.heap h'):Inv X pins σ H { s with heap:=h' }:=by
 have aa:=I.stack
 have fd:∀b∈frs X.stack,∀o vs,s.heap.get? b=some o→o.data≠.fields vs:=fun b G o vs Y hd=>by
  obtain⟨_,o',j,D⟩:=aa.mem G
  rw[Y]at j
  cases j
  exact D vs hd
 have J:∀b,b∈(as.filter fun b=>decide (b≠e)&&decide (b∉frs X.stack))↔b∈as∧b≠e∧b∉frs X.stack:=fun b=>by
  rw[List.mem_filter,h9,jv,jv]
 refine I.call' (s':={ s with heap:=h' }) (ch:=as.filter fun b=>decide (b≠e)&&decide (b∉frs X.stack)) rfl ⟨fun b o q n G hx=>?_,fun b o q n G hx=>?_,fun b o q n hx=>n,fun b o q hx=>?_,fun _ _ q=>q,fun _ _ _ q=>q,fun b ps q=>⟨#[],by rw[q];simp⟩⟩ (kE I.hok F.ex g3 S) I.bare fun b G=>?_
 ·refine S.st b o (PySem.W.hideAll_get _ q fun z=>hx ((J b).mpr ⟨z,fun y=>?_,G⟩))
  rw[y,F.ex]at n
  cases n
 ·exact S.sl b o q fun vs z=>fd b G o vs q z
 ·by_cases z:b∈as
  ·by_cases U:b=e
   ·subst U
    obtain⟨_,⟨oe,_,x1,_⟩,_⟩:=S.ex
    exact⟨oe,x1⟩
   ·by_cases O:b∈frs X.stack
    ·obtain⟨_,o',j,_⟩:=S.fr.mem O
     exact⟨o',j⟩
    ·exact absurd ((J b).mpr ⟨z,U,O⟩) hx
  ·exact⟨o,S.st b o (PySem.W.hideAll_get _ q z)⟩
 ·obtain⟨z,U,O⟩:=(J b).mp G
  have L:m≤b:=(g4 b z).elim (fun y=>absurd y O) id
  obtain⟨o,vs,Y,hd⟩:=(g6 b z).elim (fun y=>absurd y U) fun y=>y.elim (fun y=>absurd y O) id
  refine⟨.inr (ip hm L),fun y=>?_,fun x c hc y=>?_,fun p Z y=>?_⟩
  ·obtain⟨mm,⟨o',es,ep,j,D,_⟩,_⟩:=I.loc
   rw[←y,Y]at j
   cases j
   rw[hd]at D
   cases D
  ·obtain⟨v,o',j,D⟩:=I.cell x c hc
   rw[y,Y]at j
   cases j
   rw[hd]at D
   cases D
  ·have:=hp p Z
   rw[y]at this
   exact absurd this (Nat.not_lt.mpr L)
theorem BW{h':Heap}{O:Str→Option Value}{tk:Nat}(I:Inv X pins σ H s)(S:h'.Ns X.env.locals O)(F:Heap.SameBut X.env.locals s.heap h'):Inv X pins (List.replicate σ.length none) H { s with heap:=h',toks:=tk }:=by
 have D:∀b o,X.s_0.heap.get? b=some o→b≠X.env.locals:=fun b o e=>i3 (ib (Heap.lt_size e) I.ok.above)
 refine⟨I.ok,I.os,I.bare,⟨fun b o e n J hx=>(F.2 b (D b o e)).trans (I.base.keep b o e n J hx),fun b o e n J hx=>?_,I.base.free,fun b o e hx=>?_,I.base.tups,I.base.frzs,I.base.tbls⟩,⟨O,S,fun j y v' e1 e2 e3=>?_⟩,fun y c e=>?_,I.free,I.freeC,fun p U=>?_,fun b Y e=>?_,by rw[List.length_replicate];exact I.len⟩
 ·obtain⟨sl,e1⟩:=I.base.slot b o e n J hx
  exact⟨sl,(F.2 b (D b o e)).trans e1⟩
 ·obtain⟨o',e1⟩:=I.base.there b o e hx
  exact⟨o',(F.2 b (D b o e)).trans e1⟩
 ·rw[List.getElem?_replicate]at e2
  split at e2<;>cases e2
 ·obtain⟨L,z⟩:=I.cell y c e
  exact⟨L,z.sameBut F (I.QQ y c e)⟩
 ·obtain⟨e,n,ne,Z,dd⟩:=I.pin p U
  exact⟨(F.2 p.1 ne).trans e,n,ne,Z,dd⟩
 ·refine(I.hok b Y e).stay (fun c L G q=>(F.2 c ?_).trans q) (fun _ q=>q) fun _ _ q=>q
  intro z
  rcases G with G | G
  ·rw[←G,z,I.free]at e
   cases e
  ·rw[z,I.free]at G
   cases G
noncomputable abbrev Qz(X:Cx)(e:Addr)(E:Value→Shared→Prop):Cx:={ X with A:=X.A.mark (some (.ref e)),calm:=false,xe:=E }
noncomputable abbrev Ej(X:Cx)(pn:List (Addr×Obj))(E:Value→Shared→Prop):Cx:={ X with xe:=E,pn:=pn }
theorem Ei(I:Inv X pins σ H s)(e:Addr)(E:Value→Shared→Prop):Inv (Qz X e E) pins σ H s :=
 ⟨⟨I.ok.mod,I.ok.kind,I.ok.glob,I.ok.blt,I.ok.above,I.ok.inj,I.ok.has,I.ok.cab,fun z=>Bool.noConfusion z,I.ok.frames,I.ok.stk,I.ok.exf,I.ok.bs,I.ok.bsz,I.ok.noex,I.ok.exfs,I.ok.nO,I.ok.frf⟩,I.os,I.bare,I.base,I.loc,I.cell,I.free,I.freeC,I.pin,I.hok,I.len⟩
theorem R7{E:Value→Shared→Prop}{hd:X.calm=true→X.A.handled=none}(I:Inv (Qz X e E) pins σ H s):Inv X pins σ H s :=
 ⟨⟨I.ok.mod,I.ok.kind,I.ok.glob,I.ok.blt,I.ok.above,I.ok.inj,I.ok.has,I.ok.cab,hd,I.ok.frames,I.ok.stk,I.ok.exf,I.ok.bs,I.ok.bsz,I.ok.noex,I.ok.exfs,I.ok.nO,I.ok.frf⟩,I.os,I.bare,I.base,I.loc,I.cell,I.free,I.freeC,I.pin,I.hok,I.len⟩
theorem P0(I:Inv X pins σ H s)(E:Value→Shared→Prop):Inv (Ej X (X.pn++pins) E) [] σ H s :=
 ⟨⟨I.ok.mod,I.ok.kind,I.ok.glob,I.ok.blt,I.ok.above,I.ok.inj,I.ok.has,I.ok.cab,I.ok.hd,I.ok.frames,I.ok.stk,I.ok.exf,I.ok.bs,I.ok.bsz,I.ok.noex,I.ok.exfs,I.ok.nO,I.ok.frf⟩,I.os,I.bare,I.base,I.loc,I.cell,I.free,I.freeC,fun p j=>I.pin p (by rw[i6]at j;exact j),I.hok,I.len⟩
theorem xu{E:Value→Shared→Prop}{z:List (Addr×Obj)}(I:Inv (Ej X (X.pn++pins) E) z σ H s):Inv X pins σ H s :=
 ⟨⟨I.ok.mod,I.ok.kind,I.ok.glob,I.ok.blt,I.ok.above,I.ok.inj,I.ok.has,I.ok.cab,I.ok.hd,I.ok.frames,I.ok.stk,I.ok.exf,I.ok.bs,I.ok.bsz,I.ok.noex,I.ok.exfs,I.ok.nO,I.ok.frf⟩,I.os,I.bare,I.base,I.loc,I.cell,I.free,I.freeC,fun p j=>I.pin p (List.mem_append_left _ j),I.hok,I.len⟩
end
end XL
end
section
set_option linter.unusedVariables false
namespace XL
open PySem PySem.Spec PyProof.Rows L2
noncomputable def TJ(K:PySem.W.Frag)(ta:TE):TE:=fun σ H Q=>ta σ H fun v H1=>∃x C d n,v=.ref x∧H1 x=some (Mj x C d)∧H1 d=some (.xd [("number",.int n)])∧pJ K C∧Q (.int n) H1
theorem Oe{X:Cx}{e:Expr}{pos:Pos}{ta:TE}(he:PE X e ta)(hb:attributeBase e "number" X.env (eval e X.env)=eval e X.env):PE X (.Attribute e "number" pos) (TJ X.K ta):=by
 intro pins s σ H Q I h
 refine Fd hb (cG (he pins s σ H _ I h) fun u s1 hz=>?_)
 obtain⟨v,H1,D,rx,x,C,d,n,ex,hx,hd,z,q⟩:=hz
 subst ex
 obtain rfl:u=Value.ref x:=rx
 obtain⟨⟨G,vs,h1,h2,Z,h4⟩,_,_⟩:=(show cU X.prog X.w H1 s1.heap x (Mj x C d)from D.hok x _ hx)
 obtain⟨mA,L,j⟩:=(show cU X.prog X.w H1 s1.heap d (.xd [("number",.int n)])from D.hok d _ hd)
 have O:=j "number"
 rw[List.lookup_cons_self]at O
 obtain⟨u,U,ru⟩:=n8.some_of O
 obtain⟨t,rfl⟩:=(show ∃t,u=Value.int n t from ru)
 obtain⟨od,F,S⟩:=vP L
 have Y:PySem.W.notCls G=true:=by
  unfold PySem.W.notCls
  obtain⟨_,_,dt,_⟩:=G
  cases dt<;>first | rfl | cases h4
 have J:PySem.W.InstAt s1.heap x G C (some od):=⟨h1,h2,Y,by rw[Z];exact F⟩
 refine Qh D.o6 J z.over z.ga z.gh (PySem.W.findObj_own z.hd z.nn rfl (by rw[S,U])) rfl ?_
 exact⟨.int n,H1,D.tok _,⟨t,rfl⟩,q⟩
noncomputable def ww(K:PySem.W.Frag)(Rc:Addr)(D:Ends):XK:=fun c dd H=>∃C d n,c=.ref C∧dd=some d∧pJ K C∧PySem.W.exmOne K (.ref C) (.ref Rc)=some true∧H d=some (.xd [("number",.int n)])∧∀l,H l=none→D.rt (.ref l) (upd H l (.lst [.int n]))
noncomputable def Vz(K:PySem.W.Frag)(Rc:Addr)(tb:XK→TS):TS:=fun D σ H=>tb (ww K Rc D) { D with nx:=fun _ _=>False } σ H
theorem Gp{X:Cx}{Rc:Addr}{body:List Stmt}{cn x:Str}{i:Nat}{p1 p2 p3 p4 p5 hp pos:Pos}{tb:XK→TS}(calm:X.calm=true)(hN:X.N.Nodup)(hi:X.N[i]?=some x)(j:X.env.scope.names.lookup x=some .local)(hg:Gl X cn)(hm:X.mg cn=some (.ref Rc))
  (S:X.stack=X.env::X.outer) (ar:X.env.frame=some X.env.locals)
  (hb:∀(pn:List (Addr×Obj))(xe:Value→Shared→Prop)(E:XK),Throws (Ej X pn xe) E→zX (Ej X pn xe) body (tb E))
  (ai:∀e E,attributeBase (.Name x p4) "number" (Qz X e E).env (eval (.Name x p4) (Qz X e E).env)=eval (.Name x p4) (Qz X e E).env:=by intro _ _;rfl) (ah:(cn==("__debug__" : Str))=false:=by decide) (ae:(x==("__debug__" : Str))=false:=by decide) (af:(x==("__classdict__" : Str))=false:=by decide) :
  PS X (.Try body [.ExceptHandler (some (.Name cn p1)) (some x) [.Return (some (.List [.Attribute (.Name x p4) "number" p3] p2)) p5] hp] [] [] pos) (Vz X.K Rc tb):=by
 intro pins s σ H D I h
 refine wpAny_Try_except ?_
 refine wpAny_mono (hb (X.pn++pins) (fun v s1=>wpAny (model X.prog X.w) X.A (noteFrame v X.env) (fun _ s2=>wpAny (model X.prog X.w) X.A (setFlight v none) (fun _ s3 =>
   wpAny (model X.prog X.w) X.A (handleBy v X.env [.ExceptHandler (some (.Name cn p1)) (some x) [.Return (some (.List [.Attribute (.Name x p4) "number" p3] p2)) p5] hp]) (SP X pins D) X.xe s3) X.xe s2) X.xe s1)
  (ww X.K Rc D) ?_ [] s σ H _ (P0 I _) h) (fun f s1 q=>?_) fun _ _ z=>z
 ·-- an exception comes
  intro qs σ1 H1 s1 m e C d J aa ac F hE
  have L:=xu J
  have ax:Inv X pins σ1 H1 s1:=L
  obtain⟨as,g1,g2,g3,g4,g5,g6⟩:=F.ground (frs X.stack) L.jb
  have G:∀p∈X.pn++pins,p.1<m:=fun p hp=>ac p (List.mem_append_left _ hp)
  have O:=PySem.W.funFrames_hide L.stack fun env he b hb=>g1 b (List.mem_filterMap.mpr ⟨env,he,hb⟩)
  have frames:X.A.frames=some (X.env::X.outer):=by rw[←S];exact L.ok.frames
  rw[S]at O
  show wpAny _ _ (noteFrame (.ref e) X.env) _ _ _
  refine xF (base:=PySem.W.hideAll s1.heap as) frames O ar g5 (fun b o q=>PySem.W.of_hideAll _ q) (PySem.W.hideAll_none _ g2) fun h2 S2=>?_
  refine l_ (s:={ s1 with heap:=h2 }) S2 fun U Z=>?_
  rw[←S]at Z
  have I3:Inv X pins σ1 H1 { s1 with heap:=U }:=km L F aa G g3 g4 g6 Z
  have F3:z8 m H1 U e C d:=F.wD L.hok (Nat.le_of_not_lt fun z=>by
   have:=F.new
   obtain⟨⟨oe,_,x1,_⟩,_,_⟩:=(show cU X.prog X.w H1 s1.heap e (Mj e C d)from L.hok e _ F.ex)
   exact absurd (ib (ib z this) (Nat.le_of_lt (Heap.lt_size x1))) (Nat.lt_irrefl _)) Z
  obtain⟨C',d',n,e1,e2,hc,hx,hd,k⟩:=hE
  cases e1
  cases e2
  have J3:=Ei I3 e (fun _ _=>False)
  refine wpAny_handleBy_cons (codeAny_handlers_test (lU (X:=Qz X e fun _ _=>False) J3 hg hm ?_ ah)) (by intro q;cases q)
  obtain⟨oe,vs,x1,x2,x3,x4⟩:=(show cU X.prog X.w H1 U e (Mj e C d)from I3.hok e _ F3.ex).1
  have LT:PySem.W.Looks (model X.prog X.w) U (typeOf (.ref e)) (.ref C):=x2▸(PySem.W.Looks.ld x1).andThen .now
  refine PySem.W.Looks.here (s:={ s1 with heap:=U }) (PySem.W.exm_one I3.o6 LT hx) ?_
  refine codeAny_handlers_suite_as ?_
  obtain⟨bs,k1,k2,k3,k4,k5,k6⟩:=F3.ground (frs X.stack) I3.jb
  have al:=PySem.W.funFrames_hide I3.stack fun env he b hb=>k1 b (List.mem_filterMap.mpr ⟨env,he,hb⟩)
  obtain⟨T,y1,y2,y3,y4,y5⟩:=Z.ex
  have again:∀(A':Around)(Q':Unit→Shared→Prop)(E':Value→Shared→Prop),(∀h4,Inv X pins σ1 H1 { s1 with heap:=h4 }→Q' () { s1 with heap:=h4 })→wpAny (model X.prog X.w) A' (setFlight (.ref e) none) Q' E' { s1 with heap:=U }:=fun A' Q' E' hq=>by
   refine l_ (s:={ s1 with heap:=U }) (base:=PySem.W.hideAll s1.heap as) (h0:=s1.heap) Z fun h4 S4=>hq h4 ?_
   exact km L F aa G g3 g4 g6 S4
  refine again _ _ _ fun h4 I4=>?_
  have J4:=Ei I4 e (fun _ _=>False)
  refine tX (X:=Qz X e fun _ _=>False) (i:=i) (v:=.ref e) J4 hN hi (.inl j) rfl (fun s5 J5=>?_) (.inr j)
  have body:zX (Qz X e fun _ _=>False) [.Return (some (.List [.Attribute (.Name x p4) "number" p3] p2)) p5] _:=ao (aV (bT (aj (Oe (Ku (i:=i) hi (.inl j) ae af) (ai e _)) au)))
  have hiσ:i<σ1.length:=by rw[I4.len];exact(hZ.mp hi).1
  refine wpAny_mono (body pins s5 (σ1.set i (some (.ref e))) H1 { nx:=fun _ _=>False,rt:=D.rt } J5 ⟨_,List.getElem?_set_self hiσ,e,C,d,n,rfl,F.ex,hd,hc,by show 1≤sizeLine;decide,fun l hl=>k l hl⟩) (fun f s6 Y=>?_) fun _ _ z=>False.elim z
  cases f with
  | next=>obtain⟨_,_,_,z⟩:=Y;exact False.elim z
  | brk=>obtain⟨_,_,_,z⟩:=Y;exact False.elim z
  | cont=>obtain⟨_,_,_,z⟩:=Y;exact False.elim z
  | ret u =>
   obtain⟨v,σ6,H6,J6,rv,Y⟩:=Y
   have I6:Inv X pins σ6 H6 s6:=R7 (hd:=I.ok.hd) J6
   obtain⟨m6,aw,_⟩:=id I6.loc
   refine wpAny_nameGoes j aw (by rw[I6.ok.kind];rfl) fun h7 m7 ag av=>?_
   exact⟨v,_,H6,BW I6 ag av,rv,Y⟩
 ·-- no exception
  cases f with
  | next=>obtain⟨_,_,_,z⟩:=q;exact False.elim z
  | brk=>obtain⟨σ',H',J,z⟩:=q;exact⟨σ',H',xu J,z⟩
  | cont=>obtain⟨σ',H',J,z⟩:=q;exact⟨σ',H',xu J,z⟩
  | ret u=>obtain⟨v,σ',H',J,r,z⟩:=q;exact⟨v,σ',H',xu J,r,z⟩
end XL
end
section
namespace XL
open PySem
section
variable {prog:Program} {w:World} {A:Around} {R:Result→Shared→Prop} {I:Addr} {fp wr:List Addr} {n:Nat} {P:Nat→Value→Prop} {St:Nat→Heap→Prop}
theorem G6(W:Walks prog w A.in1 I fp wr n P St)(bt:Nat→Nat→Bool)(ag:CmpOf prog w A.in1 .Gt P bt)(S:Addr)(ae:S∉fp)(dn:Str)(dv:Value) :
  ∀(k j:Nat)(s:Shared)(old:List Value)(c:Nat),n-j=k→j≤n→St j s.heap→((old=[]∧j=0)∨∃Y m,j=m+1∧old=[Y,Y]∧P (argBest bt m) Y) →
  s.heap.get? S=some { cls:=.type "list",dict:=none,data:=.seq old.toArray c,slots:=#[] } →
  (∀v h' tk,((n=0∧v=dv)∨(0<n∧P (argBest bt (n-1)) v))→(∀b o,b∉wr→b≠S→s.heap.get? b=some o→h'.get? b=some o)→R (.ok (.ret v)) { s with heap:=h',toks:=tk }) →
  codeAny (model prog w) A (.builtin "max.loop" ⟨[.ref I,.none,.ref S],[(dn,dv)]⟩) R s:=by
 have ah:S∉wr:=fun h=>ae (W.sub _ h)
 have nm:(toString "max"++toString ".loop" : String) = "max.loop":=by decide
 intro k
 induction k with
 | zero =>
  intro j s old c hk hj af ho hS hR
  obtain rfl:j=n:=by omega
  refine codeAny_builtin F.entry_max_loop ?_
  rw[Around.under_plainId F.plain_max_loop _]
  show wpAny _ A.in1 (seqItems? (.ref S)>>=_) _ _ s
  refine wpAny_bind (wpAny_seqItems hS rfl ?_)
  show wpAny _ A.in1 (tryCatch (pyNext (.ref I)) _>>=_) _ _ s
  refine wpAny_bind (wpAny_tryCatch (W.done s _ _ af fun h' tk O=>?_))
  rcases ho with⟨rfl,rfl⟩ | ⟨Y,m,rfl,rfl,hP⟩
  ·refine wpAny_bind (wpAny_rule (wpAny_pure ?_))
   exact hR dv _ tk (.inl ⟨rfl,rfl⟩) fun b o G _ e=>O b o G e
  ·have U:=O S _ ah hS
   show wpAny _ A.in1 (updateSeq S (fun _=>#[])>>=_) _ _ _
   refine wpAny_bind (wpAny_updateSeq U rfl (wpAny_bind (wpAny_letGo (wpAny_pure ?_))))
   exact hR Y _ tk (.inr ⟨by omega,hP⟩) fun b o G D e=>(Heap.get?_update_other _ _ (Ne.symm D)).trans (O b o G e)
 | succ k ih =>
  intro j s old c hk hj af ho hS hR
  have al:j<n:=by omega
  refine codeAny_builtin F.entry_max_loop ?_
  rw[Around.under_plainId F.plain_max_loop _]
  show wpAny _ A.in1 (seqItems? (.ref S)>>=_) _ _ s
  refine wpAny_bind (wpAny_seqItems hS rfl ?_)
  show wpAny _ A.in1 (tryCatch (pyNext (.ref I)) _>>=_) _ _ s
  refine wpAny_bind (wpAny_tryCatch (W.item j s _ _ al af fun v h' tk hP ac O=>?_))
  have U:=O S _ ah hS
  rcases ho with⟨rfl,rfl⟩ | ⟨Y,m,rfl,rfl,ai⟩
  ·show wpAny _ A.in1 (updateSeq S (fun _=>#[v,v])>>=_) _ _ _
   refine wpAny_bind (wpAny_updateSeq U rfl ?_)
   rw[nm]
   refine wpAny_pure ⟨plainId_quiet F.plain_max_loop _,ih 1 _ [v,v] _ (by omega) (by omega) (W.frame _ _ _ ac fun b G o e=>?_) (.inr ⟨v,0,rfl,rfl,hP⟩) (Heap.get?_update_self _ U rfl) fun v' aa J Z L=>?_⟩
   ·exact(Heap.get?_update_other _ _ (fun z:S=b=>ae (z▸G))).trans e
   ·exact hR v' aa J Z fun b o G D e=>L b o G D ((Heap.get?_update_other _ _ (Ne.symm D)).trans (O b o G e))
  ·show wpAny _ A.in1 (tryCatch (holding [v,v] (richCompare .Gt v Y>>=_)) _>>=_) _ _ _
   refine wpAny_bind (wpAny_tryCatch (wpAny_holding (wpAny_bind (ag (m+1) (argBest bt m) v Y _ _ _ hP ai ?_))))
   refine wpAny_bind (wpAny_holding (wpAny_truthy_bool (wpAny_bind (wpAny_letGo (wpAny_pure ?_)))))
   cases G:bt (m+1) (argBest bt m)with
   | true =>
    simp only[if_true]
    refine wpAny_bind (wpAny_updateSeq U rfl (wpAny_bind (wpAny_letGo ?_)))
    rw[nm]
    refine wpAny_pure ⟨plainId_quiet F.plain_max_loop _,ih (m+2) _ [v,v] _ (by omega) (by omega) (W.frame _ _ _ ac fun b G o e=>?_) (.inr ⟨v,m+1,rfl,rfl,by simp only[argBest,G,if_true];exact hP⟩) (Heap.get?_update_self _ U rfl) fun v' aa J Z L=>?_⟩
    ·exact(Heap.get?_update_other _ _ (fun z:S=b=>ae (z▸G))).trans e
    ·exact hR v' aa J Z fun b o G D e=>L b o G D ((Heap.get?_update_other _ _ (Ne.symm D)).trans (O b o G e))
   | false =>
    simp only[Bool.false_eq_true,if_false]
    refine wpAny_bind (wpAny_letGo ?_)
    rw[nm]
    refine wpAny_pure ⟨plainId_quiet F.plain_max_loop _,ih (m+2) _ [Y,Y] c (by omega) (by omega) ac (.inr ⟨Y,m+1,rfl,rfl,by simp only[argBest,G,Bool.false_eq_true,if_false];exact ai⟩) U fun v' aa J Z L=>?_⟩
    exact hR v' aa J Z fun b o G D e=>L b o G D (O b o G e)
end
theorem Hu(a d:Value):argsOk "max" ⟨[a],[("default",d)]⟩:=by unfold argsOk;kernel_rfl
section
variable {prog:Program} {w:World} {A:Around} {E:Value→Shared→Prop} {s:Shared} {l:Addr} {xs:Array (Int×Tok)}
theorem G7{Q:Value→Shared→Prop}{dv:Value}(Z:A.handled=none)(S:s.heap.IsList l (intItems xs))
  (h:∀v h' tk,((xs.size=0∧v=dv)∨(0<xs.size∧(intItems xs)[argBest (fun i j=>decide (numAt xs i>numAt xs j)) (xs.size-1)]?=some v))→(∀b o,s.heap.get? b=some o→h'.get? b=some o)→Q v { s with heap:=h',toks:=tk }) :
  wpAny (model prog w) A (call (.builtin "max") [.ref l] [("default",dv)]) Q E s:=by
 have nm:(toString "max"++toString ".loop" : String) = "max.loop":=by decide
 refine wpAny_call (codeAny_call_builtin F.plain_max F.entry_max ?_)
 have fin:wpAny (model prog w) A.in1 (Builtin.«max» ⟨[.ref l],[("default",dv)]⟩) (fun fin s'=>match fin with
   | .done f=>(match(Except.ok f:Result)with | .ok (.ret v)=>Q v s' | .ok _=>False | .error e=>E e s')
   | .again L=>L.quiet=true∧codeAny (model prog w) A L (fun r s'=>match r with | .ok (.ret v)=>Q v s' | .ok _=>False | .error e=>E e s') s') E s:=by
  show wpAny _ A.in1 (Builtin.Builtins.bindParams "max" ["key","default"] 0 ⟨[],[("default",dv)]⟩>>=_) _ _ s
  refine wpAny_bind (wpAny_of_eq (show Builtin.Builtins.bindParams "max" ["key","default"] 0 ⟨[],[("default",dv)]⟩=pure [none,some dv]from rfl) ?_)
  refine wpAny_bind (wpAny_pure (wpAny_bind (iter_intList S fun s2 e st G J=>?_)))
  subst e
  refine wpAny_bind (wpAny_newObj_type ?_)
  rw[nm]
  have W:=Walks.list (prog:=prog) (w:=w) (A:=A.in1) Z s.heap.objs.size l J (intItems xs)
  refine wpAny_pure ⟨plainId_quiet F.plain_max_loop _,G6 W (fun i j=>decide (numAt xs i>numAt xs j)) (CmpOf.ints_gt (numAt xs) fun _ _=>intItems_at) _ (fun O=>Nat.lt_irrefl _ (G _ O)) "default" dv _ 0 _ [] 0 rfl (Nat.zero_le _)
   (W.frame _ _ _ st fun b _ o e=>Heap.get?_push_of_some _ e) (.inl ⟨rfl,rfl⟩) (Heap.get?_push_size _ rfl) fun v h' tk U hk=>?_⟩
  refine h v h' tk (by simpa[intItems]using U) (old_kept fun b o Y e=>hk b o Y (i3 (Heap.lt_size e)) (Heap.get?_push_of_some _ e))
 simp only[checkBuiltinCall,F.kind_max]
 cases z:Manifest.signature? "max" with
 | none=>exact wpAny_pure fin
 | some sig =>
  have D:Bind.checkArgs "max" sig ⟨[.ref l],[("default",dv)]⟩=pure ():=by simpa only[argsOk,z]using Hu (.ref l) dv
  simp only[D]
  exact wpAny_pure fin
end
end XL
namespace XL
open PySem PySem.Spec PyProof.Rows L2
noncomputable def T4(K:PySem.W.Frag)(ta tk:TA):TE:=fun σ H Q=>ta σ H fun vs H1=>tk σ H1 fun zs H2=>∃(a:Addr)(ns:List Int)(d:Int),vs=[.ref a]∧zs=[.int d]∧bV K H2 a (ns.map V.int)∧∀m,((ns=[]∧m=d)∨(m∈ns∧∀y∈ns,y≤m))→Q (.int m) H2
theorem Og{X:Cx}{e dx:Expr}{ta tk:TA}{p kp pos:Pos}(calm:X.calm=true)(hg:Gl X "max")(G:X.mg "max"=none)(ha:PA X [e] ta)(hk:PK X [⟨some "default",dx,kp⟩] tk)(z:starEach [e] X.env=[(false,eval e X.env)]:=by rfl) :
  PE X (.Call (.Name "max" p) [e] [⟨some "default",dx,kp⟩] pos) (T4 X.K ta tk):=by
 intro pins s σ H Q I h
 refine wpAny_Call_Name_kw (qe I hg G (u:=.builtin "max") (by decide +kernel) ?_ (by decide) (by decide))
 refine PyProof.Rows.callWith_kw ?_ (by rw[z];rfl) (by rw[z];rfl)
 refine cG (ha pos pins s σ H _ I h) fun us s1 ⟨vs,H1,I1,r1,q1⟩=>?_
 refine cG (hk pos pins s1 σ H1 _ I1 q1) fun ws s2 hz=>?_
 obtain⟨zs,H2,S,r2,a,ns,d,e1,e2,Y,q2⟩:=hz
 subst e1 e2
 obtain rfl:=Vals.Ul r1
 obtain⟨wd,rfl,td,rfl⟩:∃wd,ws=[wd]∧∃t,wd=Value.int d t:=by
  obtain⟨u,e,r⟩:=Vals.one r2
  exact⟨u,e,r⟩
 show wpAny _ _ (call (.builtin "max") [.ref a] [("default",Value.int d td)]) _ _ _
 obtain⟨its,Z,hl,hz⟩:=S.list Y
 have hi:=Vals.ints Z
 obtain⟨xs,e⟩:=hi.allInts.items
 have F:numsOf (intItems xs).toList=ns:=by rw[←e];exact hi.numsOf
 rw[nums_intItems]at F
 have D:xs.size=ns.length:=by rw[←F,ap,Array.length_toList]
 have O:s2.heap.IsList a (intItems xs):=by rw[←e];exact hl.isList
 refine G7 (S.ok.hd calm) O fun v h' tk J L=>?_
 have fin:∀m t,((ns=[]∧m=d)∨(m∈ns∧∀y∈ns,y≤m))→EP X pins σ Q (.int m t) { s2 with heap:=h',toks:=tk }:=fun m t G=>⟨.int m,H2,S.kept (t':=tk) L,⟨t,rfl⟩,q2 m G⟩
 rcases J with⟨h0,rfl⟩ | ⟨h0,J⟩
 ·exact fin d td (.inl ⟨List.length_eq_zero_iff.mp (D.symm.trans h0),rfl⟩)
 ·obtain⟨t,rfl⟩:=intItems_at J
  obtain⟨h1,h2⟩:=argBest_gt (numAt xs) (xs.size-1)
  refine fin _ t (.inr ⟨?_,fun y U=>?_⟩)
  ·rw[numAt_eq,←F]
   exact PySem.getD_mem (by rw[ap,Array.length_toList];omega)
  ·rw[←F]at U
   obtain⟨j,hj,rfl⟩:=mem_getD U
   rw[ap,Array.length_toList]at hj
   rw[←numAt_eq]
   exact h2 j (by omega)
end XL
end
section
section
set_option maxHeartbeats 2000000
namespace L2
open PySem PySem.Spec PyProof.Rows
open PySem.W (WData Codec OpenSpec Well WellAll ReadsW ReadsAllW)
mutual
inductive Dw (K:PySem.W.Frag) (H:Hp):V→WData→Prop
 | non:Dw K H .non .none
 | bl (b:Bool):Dw K H (.bl b) (.bool b)
 | int (i:Int):Dw K H (.int i) (.int i)
 | str (x:Str):Dw K H (.str x) (.str x)
 | byt (b:Array UInt8):Dw K H (.byt b) (.bytes b.toList)
 | lst {a:Addr} {xs:List V} {ds:List WData}:bV K H a xs→jD K H xs ds→Dw K H (.ref a) (.list ds)
 | tup {a:Addr} {xs:List V} {ds:List WData}:cR K H a xs→jD K H xs ds→Dw K H (.ref a) (.tuple ds)
inductive jD (K:PySem.W.Frag) (H:Hp):List V→List WData→Prop
 | nil:jD K H [] []
 | cons {v:V} {vs:List V} {d:WData} {ds:List WData}:Dw K H v d→jD K H vs ds→jD K H (v::vs) (d::ds)
end
theorem Ep{K:PySem.W.Frag}{H:Hp}:∀ns:List Int,jD K H (ns.map V.int) (ns.map WData.int)
 | []=>.nil
 | n::r=>.cons (.int n) (Ep r)
theorem xK{K:PySem.W.Frag}{H:Hp}:∀(ns:List Int)(xs:List V),jD K H xs (ns.map WData.int)→xs=ns.map V.int
 | [],xs,h=>by
  cases h
  rfl
 | n::r,xs,h=>by
  cases h with
  | cons h1 h2 =>
   cases h1
   rw[xK r _ h2]<;>rfl
section
variable {P:Program} {w:World} {K:PySem.W.Frag} {H:Hp} {h:Heap} {R:PySem.W.WRecords} {cl:Str→Option Addr}
theorem Ra{a:Addr}{xs:List V}(hok:mY P w H h)(z:K.In h)(q:bV K H a xs):∃(its:List Value)(o:Obj)(n:Nat),Vals xs its∧h.get? a=some o∧o.cls=.type "list"∧o.data=.seq its.toArray n:=by
 rcases q with q | ⟨o,its,n,e,D,_,hd,_,j⟩
 ·obtain⟨_,its,n,j,e⟩:=(show cU P w H h a (.lst xs)from q.ok hok)
  exact⟨its,_,n,j,e,rfl,rfl⟩
 ·exact⟨its.toList,o,n,j,z _ _ e,D,by simp[hd]⟩
theorem Q_{a:Addr}{xs:List V}(hok:mY P w H h)(D:K.In h)(q:cR K H a xs):∃(its:List Value)(o:Obj)(n:Nat),Vals xs its∧h.get? a=some o∧o.cls=.type "tuple"∧o.data=.seq its.toArray n:=by
 rcases q with q | ⟨o,its,n,e,z,hd,_,j⟩
 ·obtain⟨_,its,j,o,e,z,n,hd⟩:=(show cU P w H h a (.tup xs)from q.ok hok)
  exact⟨its,o,n,j,e,z,hd⟩
 ·exact⟨its.toList,o,n,j,D _ _ e,z,by simp[hd]⟩
mutual
theorem Dw.reads(hok:mY P w H h)(j:K.In h):∀(d:WData)(v:V)(u:Value),Dw K H v d→RelV v u→∃as,ReadsW R cl h u d as
 | .none,_,_,x,r=>by
  cases x
  cases r
  exact⟨_,ReadsW.none⟩
 | .bool b,_,_,x,r=>by
  cases x
  cases r
  exact⟨_,ReadsW.bool b⟩
 | .int i,_,_,x,r=>by
  cases x
  obtain⟨t,rfl⟩:=r
  exact⟨_,ReadsW.int i t⟩
 | .str s,_,_,x,r=>by
  cases x
  obtain⟨t,rfl⟩:=r
  exact⟨_,ReadsW.str s t⟩
 | .bytes b,_,_,x,r=>by
  cases x
  obtain⟨t,rfl⟩:=r
  exact⟨_,ReadsW.bytes _ t⟩
 | .list ds,_,_,x,r=>by
  cases x with
  | lst z F =>
   cases r
   obtain⟨its,o,n,D,G,L,hd⟩:=Ra hok j z
   obtain⟨as,J⟩:=Dw.readsAll hok j ds _ its F D
   exact⟨_,ReadsW.list G L hd J⟩
 | .tuple ds,_,_,x,r=>by
  cases x with
  | tup z F =>
   cases r
   obtain⟨its,o,n,D,G,L,hd⟩:=Q_ hok j z
   obtain⟨as,J⟩:=Dw.readsAll hok j ds _ its F D
   exact⟨_,ReadsW.tuple G L hd J⟩
 | .float _,_,_,x,_=>by cases x
 | .dict _,_,_,x,_=>by cases x
 | .bytearray _,_,_,x,_=>by cases x
 | .set _,_,_,x,_=>by cases x
 | .frozenset _,_,_,x,_=>by cases x
 | .obj _ _,_,_,x,_=>by cases x
theorem Dw.readsAll(hok:mY P w H h)(j:K.In h):∀(ds:List WData)(vs:List V)(us:List Value),jD K H vs ds→Vals vs us→∃as,ReadsAllW R cl h us ds as
 | [],_,_,x,r=>by
  cases x
  cases r
  exact⟨_,ReadsAllW.nil⟩
 | d::ds,_,_,x,r=>by
  cases x with
  | cons h1 h2 =>
   cases r with
   | cons F G =>
    obtain⟨as,D⟩:=Dw.reads hok j d _ _ h1 F
    obtain⟨bs,z⟩:=Dw.readsAll hok j ds _ _ h2 G
    exact⟨_,ReadsAllW.cons D z⟩
end
end
mutual
noncomputable def DR:WData→Bool
 | .none=>true
 | .bool _=>true
 | .int _=>true
 | .str _=>true
 | .bytes _=>true
 | .list xs=>rD xs
 | .tuple xs=>rD xs
 | _=>false
noncomputable def rD:List WData→Bool
 | []=>true
 | x::r=>DR x&&rD r
end
theorem yS{α:Type}{f:α→WData}(h:∀a,DR (f a)=true):∀l:List α,rD (l.map f)=true
 | []=>rfl
 | x::r=>by
  show(DR (f x)&&rD (r.map f))=true
  rw[h x,yS h r]<;>rfl
theorem jY:∀(c:Codec)(a:c.denote),DR (c.enc a)=true
 | .unit,_=>rfl
 | .bool,_=>rfl
 | .int _ _,_=>rfl
 | .nat _ _,_=>rfl
 | .u8,_=>rfl
 | .bytes _ _,_=>rfl
 | .text _ _ _ _,_=>rfl
 | .list _ _ c,a=>yS (fun x=>jY c x) a
 | .pair c d,a=>by
  show(DR (c.enc a.1)&&(DR (d.enc a.2)&&true))=true
  rw[jY c a.1,jY d a.2]<;>rfl
 | .triple c d e,a=>by
  show(DR (c.enc a.1)&&(DR (d.enc a.2.1)&&(DR (e.enc a.2.2)&&true)))=true
  rw[jY c a.1,jY d a.2.1,jY e a.2.2]<;>rfl
 | .option c,none=>rfl
 | .option c,some x=>jY c x
theorem vK:∀(j:List Codec)(a:Codec.denoteAll j),rD (Codec.encAll j a)=true
 | [],_=>rfl
 | c::j,a=>by
  show(DR (c.enc a.1)&&rD (Codec.encAll j a.2))=true
  rw[jY c a.1,vK j a.2]<;>rfl
theorem nG:∀{xs:List WData}{d:WData},d∈xs→d.weight≤WData.weightAll xs
 | [],d,h=>absurd h (by simp)
 | x::r,d,h=>by
  show d.weight≤x.weight+1+WData.weightAll r
  rcases hU.mp h with e | m
  ·rw[e]
   omega
  ·have z:=nG m
   omega
noncomputable def toV:Value→V
 | .none=>.non
 | .bool b=>.bl b
 | .int i _=>.int i
 | .str x _=>.str x
 | .bytes b _=>.byt b
 | .ref a=>.ref a
 | _=>.non
noncomputable def Hy(A:List Addr):Value→Prop
 | .none=>True
 | .bool _=>True
 | .int _ _=>True
 | .str _ _=>True
 | .bytes _ _=>True
 | .ref a=>a∈A
 | _=>False
theorem Hy.mono{A B:List Addr}(h:∀a∈A,a∈B):∀{u:Value},Hy A u→Hy B u:=fun{u} x=>by
 cases u with
 | ref a=>exact h a x
 | none=>trivial
 | bool b=>trivial
 | int i t=>trivial
 | str s t=>trivial
 | bytes b t=>trivial
 | _=>exact False.elim x
theorem J_{A:List Addr}{u:Value}(x:Hy A u):RelV (toV u) u:=by
 cases u with
 | ref a=>rfl
 | none=>rfl
 | bool b=>rfl
 | int i t=>exact⟨t,rfl⟩
 | str s t=>exact⟨t,rfl⟩
 | bytes b t=>exact⟨t,rfl⟩
 | _=>exact False.elim x
theorem iC{A:List Addr}:∀{vs:List Value},(∀u∈vs,Hy A u)→Vals (vs.map toV) vs
 | [],_=>.nil
 | u::r,h=>.cons (J_ (h u (b' ..))) (iC fun x hx=>h x (am _ hx))
noncomputable def jG(h:Heap)(A:List Addr)(a:Addr):Prop:=∃vs:List Value,vs.length≤sizeLine∧(∀u∈vs,Hy A u) ∧
 (h.get? a=some { cls:=.type "list",data:=.seq vs.toArray }∨h.get? a=some { cls:=.type "tuple",data:=.seq vs.toArray })
theorem jG.mono{h:Heap}{A B:List Addr}{a:Addr}(k:∀a∈A,a∈B)(x:jG h A a):jG h B a:=by
 obtain⟨vs,h1,h2,j⟩:=x
 exact⟨vs,h1,fun u z=>(h2 u z).mono k,j⟩
theorem gO{P:Params}{h:Heap}:∀{vs:List Value}{ds:List WData},WellAll P h vs ds→vs.length=ds.length
 | _,_,.nil=>rfl
 | _,_,.cons _ b=>by
  show _+1=_+1
  rw[gO b]
theorem vz{P:Params}{h:Heap}{v:Value}{ds:List WData}(x:Well P h v (.list ds)):∃(a:Addr)(vs:List Value),v=.ref a∧h.get? a=some { cls:=.type "list",data:=.seq vs.toArray }∧WellAll P h vs ds:=by
 cases x with
 | list z j=>exact⟨_,_,rfl,z,j⟩
theorem tV{P:Params}{h:Heap}{v:Value}{ds:List WData}(x:Well P h v (.tuple ds)):∃(a:Addr)(vs:List Value),v=.ref a∧h.get? a=some { cls:=.type "tuple",data:=.seq vs.toArray }∧WellAll P h vs ds:=by
 cases x with
 | tuple z j=>exact⟨_,_,rfl,z,j⟩
theorem vA{P:Params}{h:Heap}{us:List Value}{d:WData}{ds:List WData}(x:WellAll P h us (d::ds)):∃(v:Value)(vs:List Value),us=v::vs∧Well P h v d∧WellAll P h vs ds:=by
 cases x with
 | cons a b=>exact⟨_,_,rfl,a,b⟩
theorem Eg{n:Nat}(h:n≤1048576):n≤sizeLine:=ip h (by decide)
section
variable {P:Params} {h:Heap}
mutual
theorem MF:∀(d:WData)(v:Value),Well P h v d→DR d=true→d.weight≤1048576→∃A:List Addr,Hy A v∧∀a∈A,jG h A a
 | .none,_,x,_,_=>by
  cases x
  exact⟨[],trivial,fun a m=>absurd m (by simp)⟩
 | .bool b,_,x,_,_=>by
  cases x
  exact⟨[],trivial,fun a m=>absurd m (by simp)⟩
 | .int i,_,x,_,_=>by
  cases x
  exact⟨[],trivial,fun a m=>absurd m (by simp)⟩
 | .str s,_,x,_,_=>by
  cases x
  exact⟨[],trivial,fun a m=>absurd m (by simp)⟩
 | .bytes b,_,x,_,_=>by
  cases x
  exact⟨[],trivial,fun a m=>absurd m (by simp)⟩
 | .list ds,_,x,p,z=>by
  obtain⟨a,vs,rfl,J,j⟩:=vz x
  have F:WData.weightAll ds≤1048576:=z
  obtain⟨A,h1,h2⟩:=pH ds _ j p fun d hd=>ip (nG hd) F
  have k:∀b∈A,b∈a::A:=fun b D=>am _ D
  refine⟨a::A,b' ..,fun b D=>?_⟩
  rcases hU.mp D with e | m
  ·rw[e]
   exact⟨vs,Eg (by rw[gO j];exact ip (PySem.W.length_le_weightAllW ds) F),fun u G=>(h1 u G).mono k,.inl J⟩
  ·exact(h2 b m).mono k
 | .tuple ds,_,x,p,z=>by
  obtain⟨a,vs,rfl,J,j⟩:=tV x
  have F:WData.weightAll ds≤1048576:=z
  obtain⟨A,h1,h2⟩:=pH ds _ j p fun d hd=>ip (nG hd) F
  have k:∀b∈A,b∈a::A:=fun b D=>am _ D
  refine⟨a::A,b' ..,fun b D=>?_⟩
  rcases hU.mp D with e | m
  ·rw[e]
   exact⟨vs,Eg (by rw[gO j];exact ip (PySem.W.length_le_weightAllW ds) F),fun u G=>(h1 u G).mono k,.inr J⟩
  ·exact(h2 b m).mono k
 | .float _,_,_,p,_=>Bool.noConfusion (show false=true from p)
 | .dict _,_,_,p,_=>Bool.noConfusion (show false=true from p)
 | .bytearray _,_,_,p,_=>Bool.noConfusion (show false=true from p)
 | .set _,_,_,p,_=>Bool.noConfusion (show false=true from p)
 | .frozenset _,_,_,p,_=>Bool.noConfusion (show false=true from p)
 | .obj _ _,_,_,p,_=>Bool.noConfusion (show false=true from p)
theorem pH:∀(ds:List WData)(vs:List Value),WellAll P h vs ds→rD ds=true→(∀d∈ds,d.weight≤1048576)→∃A:List Addr,(∀u∈vs,Hy A u)∧∀a∈A,jG h A a
 | [],_,x,_,_=>by
  cases x
  exact⟨[],fun u m=>absurd m (by simp),fun a m=>absurd m (by simp)⟩
 | d::ds,_,x,p,z=>by
  obtain⟨v,vs,rfl,x1,x2⟩:=vA x
  have q:DR d=true∧rD ds=true:=Bool.and_eq_true_iff.mp p
  obtain⟨A,a1,a2⟩:=MF d v x1 q.1 (z d (b' ..))
  obtain⟨B,L,J⟩:=pH ds vs x2 q.2 fun e O=>z e (am _ O)
  have D:∀b∈A,b∈A++B:=fun b j=>List.mem_append.mpr (.inl j)
  have F:∀b∈B,b∈A++B:=fun b j=>List.mem_append.mpr (.inr j)
  refine⟨A++B,fun u G=>?_,fun b j=>?_⟩
  ·rcases hU.mp G with e | m
   ·rw[e]
    exact a1.mono D
   ·exact(L u m).mono F
  ·rcases List.mem_append.mp j with m | m
   ·exact(a2 b m).mono D
   ·exact(J b m).mono F
end
end
noncomputable def Qa(o:Obj):Option HO:=match o.data with
 | .seq vs _=>if(o.cls==Value.type "list")=true then some (.frz o (.lst (vs.toList.map toV)))else some (.frz o (.tup (vs.toList.map toV)))
 | _=>none
noncomputable def jx(K:PySem.W.Frag)(h:Heap)(A:List Addr):Hp:=fun b=>if b∈A then(if(K.lookup b).isNone=true then(h.get? b).bind Qa else none)else none
noncomputable def Fl(H:Hp):Prop:=∀b,H b=none∨∃o u,H b=some (.frz o u)
theorem zy(vs:List Value):Qa { cls:=.type "list",data:=.seq vs.toArray }=some (.frz { cls:=.type "list",data:=.seq vs.toArray } (.lst (vs.map toV))):=by
 show(if(Value.type "list"==Value.type "list")=true then some (HO.frz { cls:=.type "list",data:=.seq vs.toArray } (.lst (vs.toArray.toList.map toV)))else some (HO.frz { cls:=.type "list",data:=.seq vs.toArray } (.tup (vs.toArray.toList.map toV))))=_
 rw[jI (beq_self_eq_true _)]
theorem zu(vs:List Value):Qa { cls:=.type "tuple",data:=.seq vs.toArray }=some (.frz { cls:=.type "tuple",data:=.seq vs.toArray } (.tup (vs.map toV))):=by
 show(if(Value.type "tuple"==Value.type "list")=true then some (HO.frz { cls:=.type "tuple",data:=.seq vs.toArray } (.lst (vs.toArray.toList.map toV)))else some (HO.frz { cls:=.type "tuple",data:=.seq vs.toArray } (.tup (vs.toArray.toList.map toV))))=_
 rw[i9 (by decide)]
section
variable {P:Program} {w:World} {K:PySem.W.Frag} {h:Heap} {A:List Addr}
theorem tL{b:Addr}{o:Obj}(z:b∈A)(j:K.lookup b=none)(e:h.get? b=some o):jx K h A b=Qa o:=by
 unfold jx
 rw[jI z,j,jI (show(none:Option Obj).isNone=true from rfl),e]<;>rfl
theorem O9{b:Addr}{u:HO}(q:jx K h A b=some u):b∈A∧K.lookup b=none:=by
 unfold jx at q
 by_cases j:b∈A
 ·rw[jI j]at q
  cases z:K.lookup b with
  | none=>exact⟨j,rfl⟩
  | some o =>
   rw[z,i9 (by simp)]at q
   cases q
 ·rw[i9 j]at q
  cases q
theorem tK(F:∀a∈A,jG h A a){b:Addr}{u:HO}(q:jx K h A b=some u):K.lookup b=none∧∃vs:List Value,vs.length≤sizeLine∧(∀u∈vs,Hy A u) ∧
    ((h.get? b=some { cls:=.type "list",data:=.seq vs.toArray }∧u=.frz { cls:=.type "list",data:=.seq vs.toArray } (.lst (vs.map toV))) ∨
     (h.get? b=some { cls:=.type "tuple",data:=.seq vs.toArray }∧u=.frz { cls:=.type "tuple",data:=.seq vs.toArray } (.tup (vs.map toV)))):=by
  obtain⟨z,j⟩:=O9 q
  obtain⟨vs,h1,h2,D⟩:=F b z
  refine⟨j,vs,h1,h2,?_⟩
  rcases D with e | e
  · rw[tL z j e,zy]at q
    exact .inl ⟨e,(Option.some.inj q).symm⟩
  · rw[tL z j e,zu]at q
    exact .inr ⟨e,(Option.some.inj q).symm⟩
theorem Hv(j:∀a∈A,jG h A a):Fl (jx K h A):=fun b=>by
 cases q:jx K h A b with
 | none=>exact .inl rfl
 | some u =>
  obtain⟨_,vs,_,_,⟨_,e⟩ | ⟨_,e⟩⟩:=tK j q
  ·exact .inr ⟨_,_,by rw[e]⟩
  ·exact .inr ⟨_,_,by rw[e]⟩
theorem Qu(j:∀a∈A,jG h A a):mY P w (jx K h A) h:=fun b u q=>by
 obtain⟨_,vs,h1,h2,⟨e,rfl⟩ | ⟨e,rfl⟩⟩:=tK j q
 ·exact⟨e,by rw[ap];exact h1,vs,_,iC h2,e⟩
 ·exact⟨e,by rw[ap];exact h1,vs,iC h2,_,e,rfl,_,rfl⟩
theorem rY{c j:Value}{vs us:List Value}(e:(some { cls:=c,data:=.seq vs.toArray }:Option Obj)=some { cls:=j,data:=.seq us.toArray }):c=j∧vs=us:=by
 have e1:=Option.some.inj e
 have e2:c=j:=congrArg Obj.cls e1
 have e3:Data.seq vs.toArray=Data.seq us.toArray:=congrArg Obj.data e1
 injection e3 with z
 refine⟨e2,?_⟩
 have D:=congrArg Array.toList z
 simpa using D
theorem Wj(F:K.In h)(J:∀a∈A,jG h A a){a:Addr}{vs:List Value}(z:a∈A)(e:h.get? a=some { cls:=.type "list",data:=.seq vs.toArray }):(∀u∈vs,Hy A u)∧bV K (jx K h A) a (vs.map toV):=by
 obtain⟨us,h1,h2,G⟩:=J a z
 have D:us=vs:=by
  rcases G with q | q
  ·rw[e]at q
   exact(rY q).2.symm
  ·rw[e]at q
   exact absurd (Value.type.inj (rY q).1) (by decide)
 subst D
 refine⟨h2,?_⟩
 cases j:K.lookup a with
 | none=>exact .inl (.inr ⟨_,by rw[tL z j e,zy]⟩)
 | some o =>
  have e2:=F a o j
  rw[e]at e2
  obtain rfl:=Option.some.inj e2
  exact .inr ⟨_,us.toArray,_,j,rfl,rfl,rfl,by rw[ia];exact h1,by simpa using iC h2⟩
theorem Wi(F:K.In h)(J:∀a∈A,jG h A a){a:Addr}{vs:List Value}(z:a∈A)(e:h.get? a=some { cls:=.type "tuple",data:=.seq vs.toArray }):(∀u∈vs,Hy A u)∧cR K (jx K h A) a (vs.map toV):=by
 obtain⟨us,h1,h2,G⟩:=J a z
 have D:us=vs:=by
  rcases G with q | q
  ·rw[e]at q
   exact absurd (Value.type.inj (rY q).1) (by decide)
  ·rw[e]at q
   exact(rY q).2.symm
 subst D
 refine⟨h2,?_⟩
 cases j:K.lookup a with
 | none=>exact .inl (.inr ⟨_,by rw[tL z j e,zu]⟩)
 | some o =>
  have e2:=F a o j
  rw[e]at e2
  obtain rfl:=Option.some.inj e2
  exact .inr ⟨_,us.toArray,_,j,rfl,rfl,by rw[ia];exact h1,by simpa using iC h2⟩
mutual
theorem Sy{O:Params}(D:K.In h)(F:∀a∈A,jG h A a):∀(d:WData)(v:Value),Well O h v d→DR d=true→Hy A v→Dw K (jx K h A) (toV v) d
 | .none,_,x,_,_=>by
  cases x
  exact .non
 | .bool b,_,x,_,_=>by
  cases x
  exact .bl b
 | .int i,_,x,_,_=>by
  cases x
  exact .int i
 | .str s,_,x,_,_=>by
  cases x
  exact .str s
 | .bytes b,_,x,_,_=>by
  cases x
  have z:=Dw.byt (K:=K) (H:=jx K h A) b.toArray
  exact z
 | .list ds,_,x,p,J=>by
  obtain⟨a,vs,rfl,L,j⟩:=vz x
  obtain⟨h2,G⟩:=Wj D F J L
  exact .lst G (xU D F ds _ j p h2)
 | .tuple ds,_,x,p,J=>by
  obtain⟨a,vs,rfl,L,j⟩:=tV x
  obtain⟨h2,G⟩:=Wi D F J L
  exact .tup G (xU D F ds _ j p h2)
 | .float _,_,_,p,_=>Bool.noConfusion (show false=true from p)
 | .dict _,_,_,p,_=>Bool.noConfusion (show false=true from p)
 | .bytearray _,_,_,p,_=>Bool.noConfusion (show false=true from p)
 | .set _,_,_,p,_=>Bool.noConfusion (show false=true from p)
 | .frozenset _,_,_,p,_=>Bool.noConfusion (show false=true from p)
 | .obj _ _,_,_,p,_=>Bool.noConfusion (show false=true from p)
theorem xU{F:Params}(j:K.In h)(z:∀a∈A,jG h A a):∀(ds:List WData)(vs:List Value),WellAll F h vs ds→rD ds=true→(∀u∈vs,Hy A u)→jD K (jx K h A) (vs.map toV) ds
 | [],_,x,_,_=>by
  cases x
  exact .nil
 | d::ds,_,x,p,D=>by
  obtain⟨v,vs,rfl,x1,x2⟩:=vA x
  have q:DR d=true∧rD ds=true:=Bool.and_eq_true_iff.mp p
  exact .cons (Sy j z d v x1 q.1 (D _ (b' ..))) (xU j z ds vs x2 q.2 fun u m=>D u (am _ m))
end
end
theorem Gd{P:Program}{w:World}{K:PySem.W.Frag}{mg mb:Str→Option Value}{CX:Fo}{k:Nat}{fa:Addr}{fd:FuncData}{ps:List Str}{sp:Sp}{s₁:Shared}{j:List Value}{ds:List WData}{R:PySem.W.WRecords}{cl:Str→Option Addr}{d0:WData}
  (KX:K.In s₁.heap) (S:s₁.heap.Ns mainGlobals mg) (hb:s₁.heap.Ns builtinsNs mb) (ag:∀x:Str,x ≠ "__name__"→mb x=bootBuiltins x) (U:s₁.heap.NoLimit) (hg:s₁.gens=#[])
  (L:WellAll w.params s₁.heap j ds) (aa:rD ds=true) (ae:∀d∈ds,d.weight≤1048576) (hr:bG k callerA)
  (F:∀base:Heap,K.In base→base.Ns mainGlobals mg→aF P w K mg base CX k fa fd ps sp) (O:∀(s:Shared)(us:List Value),us.length=ps.length→BindsTo s fd ⟨us,[]⟩ (ps.zip us)) (Y:ds.length=ps.length)
  (ai:∀(H:Hp)(xs:List V),Fl H→jD K H xs ds→sp xs H (fun v H'=>Dw K H' v d0) fun _ _ _=>False)
  (ah:∀H e s',CX [] H s₁ (fun _ _ _=>False) e s'→False) :
  codeAny (model P w) callerA (.call (.ref fa) ⟨j,[]⟩) (fun r s'=>∃u as,r=.ok (.ret u)∧ReadsW R cl s'.heap u d0 as∧OldK s₁.heap s'.heap∧s'.os=s₁.os∧AllBare s'.gens) s₁:=by
 obtain⟨A,ho,ar⟩:=pH ds j L aa ae
 have hO:Fl (jx K s₁.heap A):=Hv ar
 have hok:mY P w (jx K s₁.heap A) s₁.heap:=Qu ar
 have hS:=xU KX ar ds j L aa ho
 have hV:=iC ho
 have hK:∀b u,jx K s₁.heap A b=some u→K.lookup b=none:=fun b u q=>(tK ar q).1
 have Z:∀{b:Addr}{o:Obj}{es:Array DictEntry}{ep:Nat},s₁.heap.get? b=some o→o.data=.dict es ep→jx K s₁.heap A b=none:=fun{b o es ep} e d=>by
  cases q:jx K s₁.heap A b with
  | none=>rfl
  | some u =>
   obtain⟨_,vs,_,_,⟨e2,_⟩ | ⟨e2,_⟩⟩:=tK ar q
   ·rw[e2]at e
    cases e
    have d':Data.seq vs.toArray _=Data.dict es ep:=d
    cases d'
   ·rw[e2]at e
    cases e
    have d':Data.seq vs.toArray _=Data.dict es ep:=d
    cases d'
 generalize jx K s₁.heap A=H at hO hok hS hK Z
 have D:∀{b:Addr}{o:Obj},s₁.heap.get? b=some o→H b=none→(xO s₁.heap H).get? b=some o:=fun e n=>L_ e n
 have G:∀{b:Addr}{m:Str→Option Value},s₁.heap.Ns b m→(xO s₁.heap H).Ns b m:=fun{b m} ⟨o,es,ep,e,d,r⟩=>⟨o,es,ep,D e (Z e d),d,r⟩
 have nK:∀b o,K.lookup b=some o→H b=none:=fun b o e=>by
  cases q:H b with
  | none=>rfl
  | some u =>
   rw[hK b u q]at e
   cases e
 have ac:K.In (xO s₁.heap H):=fun b o e=>D (KX b o e) (nK b o e)
 have hM:Mod K mg (xO s₁.heap H):=⟨ac,G S,⟨mb,G hb,ag⟩,let⟨mc,h1,h2⟩:=U;⟨mc,G h1,h2⟩⟩
 have e0:Df P w K mg (xO s₁.heap H) callerA [] s₁ H:=⟨rfl,hM,fun b o e=>O8 e,Nat.le_of_eq (Hf _ _),trivial,fun b hb=>absurd (show b∈([]:List Addr)from hb) (by simp),hok,.of_eq hg⟩
 have hl:j.length=ps.length:=by rw[gO L];exact Y
 refine codeAny_mono ((F _ ac (G S)).run callerA [] s₁ H ⟨j,[]⟩ j (j.map toV) _ _ hr e0 (O s₁ j hl) hV (ai H _ hO hS)) fun r s' x=>?_
 cases r with
 | error e=>exact(ah H e s' x).elim
 | ok fl =>
  cases fl with
  | next=>exact False.elim x
  | brk=>exact False.elim x
  | cont=>exact False.elim x
  | ret u =>
   obtain⟨v,H',os,bare,un,J,r',q⟩:=x
   have kept:∀b o,s₁.heap.get? b=some o→s'.heap.get? b=some o:=fun b o e=>by
    cases q2:H b with
    | none=>exact un.keep b o e q2 (by intro z;exact absurd (show b∈([]:List Addr)from z) (by simp)) (by simp)
    | some u2 =>
     rcases hO b with z | ⟨ob,u3,z⟩
     ·rw[q2]at z
      cases z
     ·have z2:=un.frzs b ob _ z
      obtain⟨e1,_⟩:=hok b _ z
      obtain⟨e2,_⟩:=J b _ z2
      rw[e]at e1
      cases e1
      exact e2
   have af:K.In s'.heap:=fun b o e=>kept b o (KX b o e)
   obtain⟨as,al⟩:=Dw.reads (R:=R) (cl:=cl) J af d0 v u q r'
   exact⟨u,as,rfl,al,OldK.of_keep kept,os,bare⟩
theorem uF{ds:List WData}(h:WData.layableAll ds=true):∀d∈ds,d.weight≤1048576:=fun d hd =>
 (PySem.W.layableW_iff.mp (j5.mp h d hd)).2.2
theorem uP:∀(j:List Codec)(a:Codec.denoteAll j),(Codec.encAll j a).length=j.length
 | [],_=>rfl
 | c::j,a=>by
  show(Codec.encAll j a.2).length+1=j.length+1
  rw[uP j a.2]
theorem Fq{r:OpenSpec}{k:Nat}{q:Program}{D:List Str}{XP:(Str→Option Value)→Heap→Prop}{Z:World→Heap→Prop}{d:DefRec}{K:Params→PySem.W.Frag}{CX:World→Fo}{ps:List Str}{sp:World→Sp}
  (j:r.wellSaid=true) (ai:d.params.defaults=[]) (L:r.args.length=ps.length) (hr:bG k callerA)
  (hY:∀(w:World)(h:Heap),Z w h→(K w.params).In h)
  (F:∀(w:World)(mg:Str→Option Value)(fa:Addr)(h:Heap),Z w h→(K w.params).In h→h.Ns mainGlobals mg→mg d.name=some (.ref fa) →
   ∃fd:FuncData,(∀(s:Shared)(us:List Value),us.length=ps.length→BindsTo s fd ⟨us,[]⟩ (ps.zip us)) ∧
    ∀base:Heap,(K w.params).In base→base.Ns mainGlobals mg→aF r.prog w (K w.params) mg base (CX w) k fa fd ps (sp w))
  (ae:∀(w:World)(H:Hp)(xs:List V)(a:Codec.denoteAll r.args),Fl H→Codec.withinAll r.args a=true→Codec.app r.args r.asked a=true→jD (K w.params) H xs (Codec.encAll r.args a) →
   sp w xs H (fun v H'=>Dw (K w.params) H' v (r.ret.enc (Codec.app r.args r.f a))) fun _ _ _=>False)
  (aa:∀(w:World)(H:Hp)(s:Shared)(e:Value)(s':Shared),CX w [] H s (fun _ _ _=>False) e s'→False) :
  PySem.W.WalkOS q D XP Z r d [] (fun f vs=>PySem.call f vs):=by
 intro w s_0 s₁ mg mb G Y fa o pm cd doc dV kV ho hd al hD af hg args ag as S J ar U ah
 obtain⟨a,e1,e2⟩:=PySem.W.os_pre_some S
 obtain⟨e3,O⟩:=Codec.encAll_of_decAll r.args args a e1
 subst e3
 have KX:=hY w _ Y
 obtain⟨fd,hb,hF⟩:=F w mg fa _ Y KX G.T.g af
 refine PySem.W.enter_call (codeAny_mono (Gd (R:=[]) (cl:=classAt s_0.heap) (d0:=r.ret.enc (Codec.app r.args r.f a)) KX G.T.g G.T.b G.T.builtins G.T.nolimit hg U (vK _ _) (uF J) hr hF hb (by rw[uP];exact L)
  (fun H xs hO hS=>ae w H xs a hO O e2 hS) fun H e s'=>aa w H s₁ e s') fun r' s' hq=>?_)
 obtain⟨u,ac,rfl,h1,h2,h3,h4⟩:=hq
 exact⟨.inl ⟨u,_,ac,rfl,fun _=>rfl,h1,(OpenSpec.post_iff j O _ _).mpr rfl,fun z=>Bool.noConfusion (show false=true from z)⟩,h2,h3,h4⟩
end L2
end
end
section
set_option maxRecDepth 10000
namespace MX
open Vbdeaa (Exp Exps Un Bin Tok Text tokens token numberToken digit letter wordSign blank digitsValue text sg wd decimal shownQ proper small frac)
end MX
end
section
set_option maxRecDepth 10000
namespace MX
open Vbdeaa (Exp Exps Un Bin Tok Text tokens token text sg wd decimal shownQ proper unWord binSign binNeeds closed)
end MX
end
section
set_option maxRecDepth 10000
namespace MX
open Vbdeaa (Exp Exps Un Bin Tok Text Toks text sg wd unWord binSign binNeeds exp joins atom args peek isTok then_ give opens must joiner oneOf place)
noncomputable def Nb(L:Nat):Prop:=L=1∨(L=2∨(L=5∨L=6))
theorem my{k d L:Nat}(j:Nb L)(t:Toks):exp (k+1) d L t=then_ (exp k d (L+1)) (fun a=>joins k d L a) t:=by
 rcases j with rfl | rfl | rfl | rfl<;>(rw[Vbdeaa.exp.eq_2];rfl)
theorem o9 {k d : Nat} (t : Toks) : exp (k + 1) d 4 t = then_ (exp k d 5) (fun a => fun r => match joiner 4 (peek r) with
        | some o=>then_ (exp k d 5) (fun b=>give (.bin o a b)) (r.drop 1)
        | none=>.ok (a,r)) t:=by rw[Vbdeaa.exp.eq_2];rfl
theorem mz{k d:Nat}(t:Toks):exp (k+1) d 8 t=then_ (atom k d) (fun a=>fun r=>if isTok r (sg "^")=true then(then_ (opens d) fun e=>then_ (exp k e 7) fun b=>give (.bin .pow a b)) r else .ok (a,r)) t:=by rw[Vbdeaa.exp.eq_2];rfl
theorem gr{t:Toks}{x:Tok}(h:peek t≠x):isTok t x=false:=by unfold Vbdeaa.isTok;exact beq_eq_false_iff_ne.mpr h
theorem jN{t:Toks}{x:Tok}(h:peek t=x):isTok t x=true:=by unfold Vbdeaa.isTok;exact beq_iff_eq.mpr h
theorem o8{k d:Nat}{t:Toks}(h:peek t≠wd "if"):exp (k+1) d 0 t=exp k d 1 t:=by
 rw[Vbdeaa.exp.eq_2]
 show(if(0:Nat)=0∧isTok t (wd "if")=true then _ else _)=_
 rw[gr h,i9 (by simp)];rfl
theorem mj{k d:Nat}{t:Toks}(h:peek t≠wd "not"):exp (k+1) d 3 t=exp k d 4 t:=by
 rw[Vbdeaa.exp.eq_2]
 show(if(3:Nat)=0∧_ then _ else if(3:Nat)=3∧isTok t (wd "not")=true then _ else _)=_
 rw[i9 (by omega),gr h,i9 (by simp)];rfl
theorem mq{k d:Nat}{t:Toks}(h:peek t≠sg "-"):exp (k+1) d 7 t=exp k d 8 t:=by
 rw[Vbdeaa.exp.eq_2]
 show(if(7:Nat)=0∧_ then _ else if(7:Nat)=3∧_ then _ else if(7:Nat)=7∧isTok t (sg "-")=true then _ else _)=_
 rw[i9 (by omega),i9 (by omega),gr h,i9 (by simp)];rfl
end MX
end
section
set_option maxRecDepth 10000
namespace MX
open Vbdeaa (Exp Exps Un Bin Tok Text Toks text sg wd unWord binSign binNeeds exp joins atom args peek isTok then_ give opens must joiner oneOf place)
end MX
end
section
namespace MX
open Vbdeaa (Exp Exps Ins Code)
open Vbdeam (plain orParts andParts ifParts jumpOf isOne isZeroIns isTruthIns parse)
structure Ch where
 cond:Exp
 start:Nat
 middle:Nat
 end_:Nat
 first:Option Exp
 below:List Exp
end MX
end
section
namespace MX
open Vbdeaa (Exp Exps Ins Code)
open Vbdeam (plain orParts andParts ifParts jumpOf isOne isZeroIns isTruthIns parse)
end MX
end
section
namespace MX
open Vbdeaa (Exp Exps Ins Code)
open Vbdeam (plain orParts andParts ifParts jumpOf isOne isZeroIns isTruthIns parse)
end MX
end
section
namespace MX
open Vbdeaa (Exp Exps Ins Code)
open Vbdeam (plain orParts andParts ifParts jumpOf isOne isZeroIns isTruthIns parse)
end MX
end
section
namespace MX
open Vbdeaa (Exp Exps Ins Code)
open Vbdeam (plain orParts andParts ifParts jumpOf isOne isZeroIns isTruthIns parse)
end MX
end
section
namespace MX
open Vbdeaa (Exp Exps Ins Code)
open Vbdeam (plain orParts andParts ifParts jumpOf isOne isZeroIns isTruthIns parse size sizeAll joinBest)
end MX
end
section
set_option maxRecDepth 10000
namespace MX
open Vbdeaa (Exp Exps Un Bin Ins Code Text)
open Vbdeam (plain orParts andParts ifParts size sizeAll joinBest argName)
end MX
end
section
section
namespace SB
open PySem PySem.Spec PyProof.Rows L2 XL
variable {P:Program} {w:World} {K:PySem.W.Frag} {mg:Str→Option Value} {base:Heap}
noncomputable def top(i:Nat):Stmt:=PySem.Challenge.pw_stackback_s06_same.main.body.getD i (.Pass ⟨0,0,0,0⟩)
structure Fn (K:PySem.W.Frag) (mg:Str→Option Value) (x:Str) (st:Stmt) (f:Addr) (fd:FuncData) (ps:List Str):Prop where
 F:fc K x x st f fd
 m:mg x=some (.ref f)
 b:Binds K fd ps []
structure Fm (K:PySem.W.Frag) (C:Addr) (x qual:Str) (st:Stmt) (f:Addr) (fd:FuncData) (ps:List Str):Prop where
 F:fc K x qual st f fd
 b:Binds K fd ps []
 me:Meth K C x f
section
theorem d9{x qual:Str}{st:Stmt}{f:Addr}{fd:FuncData}{N ps:List Str}{k:Nat}{sp:Sp}(F:fc K x qual st f fd)(S:aK N ps (aD st))(len:∀vs H Q E,sp vs H Q E→vs.length=ps.length)
  (j:∀(cdv:Value)(A:Around)(outer:List Env)(s:Shared)(H:Hp)(vs:List V)(Q:VK)(E:XK),bG k (A.deeper (envOfC qual (aD st) s.heap.objs.size f cdv))→sp vs H Q E →
   ∃t,zX (eU (aW P w) P w K mg base N qual (aD st) f cdv A outer s H E) (eO st) t∧t { nx:=fun _ H'=>Q .non H',rt:=Q } (start N vs) H):aF P w K mg base (aW P w) (k+1) f fd ps sp:=by
 obtain⟨oc,od,kV,doc,pm,an,cdv,ct,osl,rfl,G,z⟩:=F.ex
 exact Va G z S len fun A outer s H vs Q E J D=>j cdv A outer s H vs Q E J D
end
inductive TV where
 | i (n:Int)
 | s (x:Str)
 | t (l:List TV)
mutual
noncomputable def LQ(K:PySem.W.Frag):TV→Value→Bool
 | .i n,v=>(match v with | .int j _=>decide (n=j) | _=>false)
 | .s x,v=>(match v with | .str y _=>decide (x=y) | _=>false)
 | .t l,v=>(match v with
  | .ref a=>(match K.lookup a with
   | some ⟨.type c,_,.seq its _,_⟩=>decide (c = "tuple")&&Ff K l its.toList&&decide (its.size≤1000)
   | _=>false)
  | _=>false)
noncomputable def Ff(K:PySem.W.Frag):List TV→List Value→Bool
 | [],vs=>vs.isEmpty
 | x::r,vs=>(match vs with | v::q=>LQ K x v&&Ff K r q | []=>false)
end
noncomputable def Wg(K:PySem.W.Frag)(x:Str)(c:TV):Bool:=match PySem.W.nsIn K mainGlobals x with
 | some (some v)=>LQ K c v
 | _=>false
inductive jE (K:PySem.W.Frag):TV→V→Prop
 | i (n:Int):jE K (.i n) (.int n)
 | s (x:Str):jE K (.s x) (.str x)
 | t {l:List TV} {a:Addr} {xs:List V} (h:∀H:Hp,cR K H a xs) (hx:Paired (jE K) l xs):jE K (.t l) (.ref a)
mutual
theorem Ms(K:PySem.W.Frag):∀(c:TV)(v:Value),LQ K c v=true→∃x,RelV x v∧jE K c x
 | .i n,v,h=>by
  cases v with
  | int j t =>
   have e:n=j:=js h
   subst e
   exact⟨.int n,⟨t,rfl⟩,.i n⟩
  | _=>cases h
 | .s x,v,h=>by
  cases v with
  | str y t =>
   have e:x=y:=js h
   subst e
   exact⟨.str x,⟨t,rfl⟩,.s x⟩
  | _=>cases h
 | .t l,v,h=>by
  cases v with
  | ref a =>
   unfold LQ at h
   simp only at h
   split at h
   ·rename_i c od its n sl q
    rw[h9,h9,jv,jv]at h
    obtain⟨⟨rfl,h1⟩,h2⟩:=h
    obtain⟨xs,r,hx⟩:=Ey K l its.toList h1
    exact⟨.ref a,rfl,.t (fun H=>.inr ⟨_,its,n,q,rfl,rfl,ip h2 (by decide),r⟩) hx⟩
   ·cases h
  | _=>cases h
theorem Ey(K:PySem.W.Frag):∀(l:List TV)(vs:List Value),Ff K l vs=true→∃xs,Vals xs vs∧Paired (jE K) l xs
 | [],vs,h=>by
  cases vs with
  | nil=>exact⟨[],.nil,.nil⟩
  | cons v q=>cases h
 | c::r,vs,h=>by
  cases vs with
  | nil=>cases h
  | cons v q =>
   have h':LQ K c v=true∧Ff K r q=true:=by
    rw[←h9]
    exact h
   obtain⟨x,D,hx⟩:=Ms K c v h'.1
   obtain⟨xs,z,j⟩:=Ey K r q h'.2
   exact⟨x::xs,.cons D z,.cons hx j⟩
end
noncomputable def GC(K:PySem.W.Frag)(mg:Str→Option Value)(x:Str)(c:TV):Prop:=∃u v,mg x=some u∧RelV v u∧jE K c v
theorem U8{K:PySem.W.Frag}{h:Heap}{mg:Str→Option Value}{x:Str}{c:TV}(X:K.In h)(G:h.Ns mainGlobals mg)(e:Wg K x c=true):GC K mg x c:=by
 unfold Wg at e
 split at e
 ·rename_i v q
  obtain⟨y,r,j⟩:=Ms K c v e
  exact⟨v,y,PySem.W.mg_of X G q,r,j⟩
 ·cases e
theorem jE.int{K:PySem.W.Frag}{n:Int}{v:V}(h:jE K (.i n) v):v=.int n:=by cases h;rfl
theorem jE.str{K:PySem.W.Frag}{x:Str}{v:V}(h:jE K (.s x) v):v=.str x:=by cases h;rfl
theorem jE.tup{K:PySem.W.Frag}{l:List TV}{v:V}(h:jE K (.t l) v):∃a xs,v=.ref a∧(∀H:Hp,cR K H a xs)∧Paired (jE K) l xs:=by
 cases h with
 | t h1 h2=>exact⟨_,_,rfl,h1,h2⟩
theorem iT{K:PySem.W.Frag}:∀{l:List Int}{xs:List V},Paired (jE K) (l.map TV.i) xs→xs=l.map V.int
 | [],_,.nil=>rfl
 | n::r,_,.cons h t=>by rw[jE.int h,iT t];rfl
theorem mF{K:PySem.W.Frag}:∀{l:List Str}{xs:List V},Paired (jE K) (l.map TV.s) xs→xs=l.map V.str
 | [],_,.nil=>rfl
 | n::r,_,.cons h t=>by rw[jE.str h,mF t];rfl
noncomputable def tG(K:PySem.W.Frag)(c:TV):TE:=fun _ H Q=>∀v,jE K c v→Q v H
theorem Gu{X:Cx}{x:Str}{c:TV}{pos:Pos}(z:Gl X x)(j:GC X.K X.mg x c)(hd:(x==("__debug__" : Str))=false:=by decide):PE X (.Name x pos) (tG X.K c):=by
 obtain⟨u,v,e,r,D⟩:=j
 exact fun pins s σ H Q I h=>lU I z e ⟨v,H,I,r,h v D⟩ hd
theorem bw{X:Cx}{x:Str}{n:Int}{pos:Pos}(z:Gl X x)(j:GC X.K X.mg x (.i n))(hd:(x==("__debug__" : Str))=false:=by decide):PE X (.Name x pos) (tC (.int n)):=by
 obtain⟨u,v,e,r,D⟩:=j
 cases D.int
 exact b_ z e r hd
theorem sG{i j:Int}:Az (.int i) (.int j)=true:=rfl
theorem rZ{i j:Str}:Az (.str i) (.str j)=true:=rfl
theorem sI{i j:Bool}:Az (.bl i) (.bl j)=true:=rfl
theorem su{i:Int}:Az .non (.int i)=true:=rfl
theorem sE{i:Int}:Az (.int i) .non=true:=rfl
section
variable {CX:Fo} {P:Program} {w:World} {K:PySem.W.Frag} {mg:Str→Option Value} {base:Heap} {N:List Str} {qual:Str} {scope:Scope} {f:Addr} {cd:Value} {A:Around} {outer:List Env} {s:Shared} {H:Hp} {E:XK}
theorem Vq:(eU CX P w K mg base N qual scope f cd A outer s H E).K=K:=rfl
theorem Vp:(eU CX P w K mg base N qual scope f cd A outer s H E).prog=P:=rfl
theorem Vo:(eU CX P w K mg base N qual scope f cd A outer s H E).w=w:=rfl
theorem Qm:(eU CX P w K mg base N qual scope f cd A outer s H E).mg=mg:=rfl
end
noncomputable def tvs(l:List Int):TV:=.t (l.map TV.i)
noncomputable def Ft(l:List Str):TV:=.t (l.map TV.s)
noncomputable def IK(l:List Int)(tb:TE):TE:=fun σ H Q=>tb σ H fun y H1=>∃i r,y=.int i∧qX l i=some r∧Q (.int r) H1
noncomputable def Dm(l:List Str)(tb:TE):TE:=fun σ H Q=>tb σ H fun y H1=>∃i r,y=.int i∧qX l i=some r∧Q (.str r) H1
noncomputable def yG(l:List (List Int))(tb tc:TE):TE:=fun σ H Q=>tb σ H fun y H1=>∃i m,y=.int i∧qX l i=some m∧tc σ H1 fun z H2=>∃j r,z=.int j∧qX m j=some r∧Q (.int r) H2
theorem yg{α β:Type}(g:α→β)(l:List α)(i:Int):qX (l.map g) i=(qX l i).map g:=by
 unfold qX
 rw[ap]
 cases M_ l.length i with
 | none=>rfl
 | some k=>simp
theorem Bm{α β:Type}{G:α→β→Prop}{l:List α}{m:List β}(h:Paired G l m){i:Int}{a:α}(e:qX l i=some a):∃b,qX m i=some b∧G a b:=by
 unfold qX at e ⊢
 rw[←Paired.length h]
 cases q:M_ l.length i with
 | none=>rw[q]at e;cases e
 | some k =>
  rw[q]at e
  exact d8 h e
noncomputable def WK(t:TE):TE:=fun σ H Q=>∃j:VK,t σ H j∧∀v H1,j v H1→Q v H1
theorem Kz{X:Cx}{e:Expr}{t:TE}(h:PE X e t):PE X e (WK t):=fun pins s σ H Q I ⟨j,h1,h2⟩=>cG (h pins s σ H j I h1) fun _ _ ⟨v,H',z,r,q⟩=>⟨v,H',z,r,h2 v H' q⟩
theorem KH{X:Cx}{x:Str}{l:List Int}{b:Expr}{tb:TE}{p pos:Pos}(F:Gl X x)(D:GC X.K X.mg x (tvs l))(J:PE X b tb)(z:tU b)(hd:(x==("__debug__" : Str))=false:=by decide) :
  PE X (.Subscript (.Name x p) b pos) (IK l tb):=by
 obtain⟨u,v,e,r,L⟩:=D
 obtain⟨a,xs,rfl,j,G⟩:=L.tup
 have e2:=iT G
 subst e2
 intro pins s σ H Q I h
 exact bZ cX (b_ F e r hd) (Kz J) z pins s σ H Q I ⟨_,h,fun y H1 ⟨i,r,e1,e2,q⟩=>⟨a,_,i,.int r,rfl,e1,j H1,by rw[yg,e2];rfl,q⟩⟩
theorem D_{X:Cx}{x:Str}{l:List (List Int)}{b c:Expr}{tb tc:TE}{p pos pos':Pos}(Y:Gl X x)(U:GC X.K X.mg x (.t (l.map tvs)))(hb:PE X b tb)(S:tU b)(hc:PE X c tc)(J:tU c)(hd:(x==("__debug__" : Str))=false:=by decide) :
  PE X (.Subscript (.Subscript (.Name x p) b pos) c pos') (yG l tb tc):=by
 obtain⟨u,v,e,r,G⟩:=U
 obtain⟨a,xs,rfl,F,hp⟩:=G.tup
 intro pins s σ H Q I h
 refine bZ cX (bZ cX (b_ Y e r hd) (Kz hb) S) (Kz hc) J pins s σ H Q I ⟨_,h,fun y H1 ⟨i,m,e1,e2,q⟩=>?_⟩
 obtain⟨z,hz,L⟩:=Bm hp (i:=i) (a:=tvs m) (by rw[yg,e2];rfl)
 obtain⟨a2,ys,rfl,D,O⟩:=L.tup
 have e3:=iT O
 subst e3
 exact⟨a,_,i,.ref a2,rfl,e1,F H1,hz,_,q,fun y2 H2 ⟨j,r,e4,e5,Z⟩=>⟨a2,_,j,.int r,rfl,e4,D H2,by rw[yg,e5];rfl,Z⟩⟩
noncomputable def S8:List Int:=[7,3,9,9,9,9,9,9]
noncomputable def S5:List Int:=[5,5,6,6,6,6,8,4,4,4,4,4,4]
noncomputable def oh:List (List Int):=[[0,0,0],[1,2],[2,3],[3],[5,5],[5,6],[6,7],[7],[9,7]]
noncomputable def pL:List (List Int):=[[1,1,1],[0,0],[0,0],[1],[0,0],[0,0],[0,0],[1],[0,1]]
structure CN (K:PySem.W.Frag) (mg:Str→Option Value):Prop where
 ONE:GC K mg "ONE" (.i 2)
 TWO:GC K mg "TWO" (.i 3)
 AND:GC K mg "AND" (.i 4)
 OR:GC K mg "OR" (.i 5)
 IF:GC K mg "IF" (.i 6)
 STR:GC K mg "STRONGEST" (.i 9)
 OK_:GC K mg "ONE_KINDS" (tvs S8)
 TK_:GC K mg "TWO_KINDS" (tvs S5)
 PL:GC K mg "PLACES" (.t (oh.map tvs))
 AR:GC K mg "AROUND" (.t (pL.map tvs))
inductive lE:Int→V→Int→Prop
 | one {i r:Int}:qX S8 i=some r→lE 2 (.int i) r
 | two {i r:Int}:qX S5 i=some r→lE 3 (.int i) r
 | if_ {v:V}:lE 6 v 0
 | or_ {v:V}:lE 5 v 1
 | and_ {v:V}:lE 4 v 2
 | else_ {f:Int} {v:V}:f≠2→f≠3→f≠4→f≠5→f≠6→lE f v 9
noncomputable def t7:Sp:=fun vs H Q _=>∃f v r,vs=[.int f,v]∧lE f v r∧Q (.int r) H
noncomputable def Qw(l:List (List Int))(c:Int)(k p r:Int):Prop:=(k=9∧r=c)∨(k≠9∧∃m,qX l k=some m∧qX m p=some r)
noncomputable def yK(l:List (List Int))(c:Int):Sp:=fun vs H Q _=>∃k p r,vs=[.int k,.int p]∧Qw l c k p r∧Q (.int r) H
noncomputable abbrev qC:Stmt:=top 21
noncomputable abbrev pU:Stmt:=top 22
noncomputable abbrev oU:Stmt:=top 23
section
theorem Ro:aK ["form","detail"] ["form","detail"] (aD qC):=⟨rfl,rfl,rfl,by decide +kernel,rfl,by decide +kernel,by decide +kernel⟩
theorem sU{f:Addr}{fd:FuncData}(F:Fn K mg "kind_of" qC f fd ["form","detail"])(T:CN K mg):aF P w K mg base (aW P w) 1 f fd ["form","detail"] t7:=by
 refine d9 F.F Ro (fun vs H Q E h=>?_) (fun cdv A outer s H vs Q E D h=>?_)
 ·obtain⟨_,_,_,rfl,_⟩:=h
  rfl
 ·obtain⟨z,v,r,rfl,j,k⟩:=h
  refine⟨_,aq (aX (aG cz (pv 0) (bw rfl T.ONE) (aL _)) (ao (aV (KH rfl T.OK_ (pv 1) (fun _ _=>rfl)))) aP)
   (aq (aX (aG cz (pv 0) (bw rfl T.TWO) (aL _)) (ao (aV (KH rfl T.TK_ (pv 1) (fun _ _=>rfl)))) aP)
   (aq (aX (aG cz (pv 0) (bw rfl T.IF) (aL _)) (ao (aV aB)) aP)
   (aq (aX (aG cz (pv 0) (bw rfl T.OR) (aL _)) (ao (aV aB)) aP)
   (aq (aX (aG cz (pv 0) (bw rfl T.AND) (aL _)) (ao (aV aB)) aP)
   (ao (aV (bw rfl T.STR))))))),?_⟩
  simp only[L2.start,Ip,FZ,vD,Iv,pP,tC,FQ,yD,yF,yH,Uq,Um,Bd,rI,sG,rZ,sI,su,sE,V.int.injEq,V.str.injEq,V.bl.injEq,V.ref.injEq,true_and,and_true,Option.some.injEq,exists_eq_left',exists_eq_left,exists_eq_right,exists_and_left,i4,List.map_nil,cr,iq,i2,List.nil_append,kc,kb,jv,Bool.not_eq_true',decide_eq_false_iff_not,List.replicate_zero,List.replicate_succ,Nat.reduceSub,Nat.sub_self,Nat.reduceAdd,Nat.zero_add,Vq,Vp,Vo,Qm,qz,aZ,cY,F_,qP,List.set_cons_zero,List.set_cons_succ,IV,T3,Iw,T7,yE,yI,Iu,IK,yG,Dm,Qy,i6,vG,Ad,Bc,Ke,Iz,ij]
  cases j with
  | one e=>exact⟨_,rfl,_,e,k⟩
  | two e=>exact⟨_,rfl,_,e,k⟩
  | if_=>exact k
  | or_=>exact k
  | and_=>exact k
  | else_ a b c d e =>
   rw[i9 a,i9 b,i9 e,i9 d,i9 c]
   exact k
theorem N5:aK ["kind","position"] ["kind","position"] (aD pU):=⟨rfl,rfl,rfl,by decide +kernel,rfl,by decide +kernel,by decide +kernel⟩
theorem yZ{f:Addr}{fd:FuncData}(F:Fn K mg "place_of" pU f fd ["kind","position"])(T:CN K mg):aF P w K mg base (aW P w) 1 f fd ["kind","position"] (yK oh 0):=by
 refine d9 F.F N5 (fun vs H Q E h=>?_) (fun cdv A outer s H vs Q E z h=>?_)
 ·obtain⟨_,_,_,rfl,_⟩:=h
  rfl
 ·obtain⟨D,p,r,rfl,j,k⟩:=h
  refine⟨_,aq (aX (aG cz (pv 0) (bw rfl T.STR) (aL _)) (ao (aV aB)) aP)
   (ao (aV (D_ rfl T.PL (pv 0) (fun _ _=>rfl) (pv 1) (fun _ _=>rfl)))),?_⟩
  simp only[L2.start,Ip,FZ,vD,Iv,pP,tC,FQ,yD,yF,yH,Uq,Um,Bd,rI,sG,rZ,sI,su,sE,V.int.injEq,V.str.injEq,V.bl.injEq,V.ref.injEq,true_and,and_true,Option.some.injEq,exists_eq_left',exists_eq_left,exists_eq_right,exists_and_left,i4,List.map_nil,cr,iq,i2,List.nil_append,kc,kb,jv,Bool.not_eq_true',decide_eq_false_iff_not,List.replicate_zero,List.replicate_succ,Nat.reduceSub,Nat.sub_self,Nat.reduceAdd,Nat.zero_add,Vq,Vp,Vo,Qm,qz,aZ,cY,F_,qP,List.set_cons_zero,List.set_cons_succ,IV,T3,Iw,T7,yE,yI,Iu,IK,yG,Dm,Qy,i6,vG,Ad,Bc,Ke,Iz,ij]
  rcases j with⟨rfl,rfl⟩ | ⟨a,m,e1,e2⟩
  ·exact k
  ·rw[i9 a]
   exact⟨m,e1,r,e2,k⟩
theorem JN:aK ["kind","position"] ["kind","position"] (aD oU):=⟨rfl,rfl,rfl,by decide +kernel,rfl,by decide +kernel,by decide +kernel⟩
theorem GX{f:Addr}{fd:FuncData}(F:Fn K mg "around_of" oU f fd ["kind","position"])(T:CN K mg):aF P w K mg base (aW P w) 1 f fd ["kind","position"] (yK pL 1):=by
 refine d9 F.F JN (fun vs H Q E h=>?_) (fun cdv A outer s H vs Q E z h=>?_)
 ·obtain⟨_,_,_,rfl,_⟩:=h
  rfl
 ·obtain⟨D,p,r,rfl,j,k⟩:=h
  refine⟨_,aq (aX (aG cz (pv 0) (bw rfl T.STR) (aL _)) (ao (aV aB)) aP)
   (ao (aV (D_ rfl T.AR (pv 0) (fun _ _=>rfl) (pv 1) (fun _ _=>rfl)))),?_⟩
  simp only[L2.start,Ip,FZ,vD,Iv,pP,tC,FQ,yD,yF,yH,Uq,Um,Bd,rI,sG,rZ,sI,su,sE,V.int.injEq,V.str.injEq,V.bl.injEq,V.ref.injEq,true_and,and_true,Option.some.injEq,exists_eq_left',exists_eq_left,exists_eq_right,exists_and_left,i4,List.map_nil,cr,iq,i2,List.nil_append,kc,kb,jv,Bool.not_eq_true',decide_eq_false_iff_not,List.replicate_zero,List.replicate_succ,Nat.reduceSub,Nat.sub_self,Nat.reduceAdd,Nat.zero_add,Vq,Vp,Vo,Qm,qz,aZ,cY,F_,qP,List.set_cons_zero,List.set_cons_succ,IV,T3,Iw,T7,yE,yI,Iu,IK,yG,Dm,Qy,i6,vG,Ad,Bc,Ke,Iz,ij]
  rcases j with⟨rfl,rfl⟩ | ⟨a,m,e1,e2⟩
  ·exact k
  ·rw[i9 a]
   exact⟨m,e1,r,e2,k⟩
end
theorem rC{CX:Fo}{P:Program}{w:World}{K:PySem.W.Frag}{mg:Str→Option Value}{base:Heap}{N:List Str}{qual:Str}{scope:Scope}{f:Addr}{cd:Value}{A:Around}{outer:List Env}{s:Shared}{H:Hp}{E:XK} :
  PassesOwn (model (eU CX P w K mg base N qual scope f cd A outer s H E).prog (eU CX P w K mg base N qual scope f cd A outer s H E).w) (eU CX P w K mg base N qual scope f cd A outer s H E).A (eU CX P w K mg base N qual scope f cd A outer s H E).env (eU CX P w K mg base N qual scope f cd A outer s H E).xe:=PassesOwn.leaving
noncomputable def QB:Sp:=fun vs H Q _=>∃a b:Nat,vs=[.int a,.int b]∧Q (.int (Nat.gcd a b)) H
noncomputable abbrev J1:Stmt:=top 50
section
theorem Du:aK ["a","b","rest"] ["a","b"] (aD J1):=⟨rfl,rfl,rfl,by decide +kernel,rfl,by decide +kernel,by decide +kernel⟩
theorem R1{f:Addr}{fd:FuncData}(F:Fn K mg "common_divisor" J1 f fd ["a","b"]):aF P w K mg base (aW P w) 1 f fd ["a","b"] QB:=by
 refine d9 F.F Du (fun vs H Q E h=>?_) (fun cdv A outer s H vs Q E S h=>?_)
 ·obtain⟨_,_,rfl,_⟩:=h
  rfl
 ·obtain⟨a,b,rfl,k⟩:=h
  refine⟨_,aq (gA rC (aG vL (pv 1) aB (aL _))
    (aq (bu (i:=2) Du.nd rfl (Or.inl rfl) (dM RJ (pv 0) (pv 1)))
    (aq (bu (i:=0) Du.nd rfl (Or.inl rfl) (pv 1))
    (ao (bu (i:=1) Du.nd rfl (Or.inl rfl) (pv 2))))))
   (ao (aV (pv 0))),?_⟩
  refine⟨fun m σ H'=>∃(x y:Nat)(v:Option V),σ=[some (.int x),some (.int y),v]∧m=y∧Nat.gcd x y=Nat.gcd a b∧H'=H,⟨b,a,b,none,rfl,rfl,rfl,rfl⟩,?_⟩
  rintro y σ H' ⟨x,_,v,rfl,rfl,G,rfl⟩
  simp only[L2.start,Ip,FZ,vD,Iv,pP,tC,FQ,yD,yF,yH,Uq,Um,Bd,rI,sG,rZ,sI,su,sE,V.int.injEq,V.str.injEq,V.bl.injEq,V.ref.injEq,true_and,and_true,Option.some.injEq,exists_eq_left',exists_eq_left,exists_eq_right,exists_and_left,i4,List.map_nil,cr,iq,i2,List.nil_append,kc,kb,jv,Bool.not_eq_true',decide_eq_false_iff_not,List.replicate_zero,List.replicate_succ,Nat.reduceSub,Nat.sub_self,Nat.reduceAdd,Nat.zero_add,Vq,Vp,Vo,Qm,qz,aZ,cY,F_,qP,List.set_cons_zero,List.set_cons_succ,IV,T3,Iw,T7,yE,yI,Iu,IK,yG,Dm,Qy,i6,vG,Ad,Bc,Ke,Iz,ij]
  by_cases L:y=0
  ·subst L
   simp at G ⊢
   rw[G]
   exact k
  ·have J:¬((y:Int)=0):=by omega
   rw[jI (by simpa using J)]
   refine⟨fun σ' z=>∃(D j:Nat)(v:Option V),σ'=[some (.int D),some (.int j),v]∧j<y∧Nat.gcd D j=Nat.gcd a b∧z=H',fun σ' z ⟨D,j,v,e1,e2,e3,O⟩=>⟨j,e2,D,j,v,e1,rfl,e3,O⟩,?_⟩
   refine⟨by omega,y,x % y,_,rfl,Nat.mod_lt _ (by omega),?_,rfl⟩
   rw[←G,Nat.gcd_comm x y,Nat.gcd_rec y x,Nat.gcd_comm]
end
structure KDict (K:PySem.W.Frag) (w:World) (d:Addr) (kvs:List (Key×V)):Prop where
 ns:(d==sysModules)=false
 ex:∀P:Program,∃(o:Obj)(es:Array DictEntry)(ep:Nat)(vs:List (Key×Value)),K.lookup d=some o∧o.ExactDict∧o.data=.dict es ep∧es.size=kvs.length∧KV kvs vs∧KeysOf (cJ P w) es∧Pairs (cJ P w) es.toList vs∧(vs.map (·.1)).Nodup
noncomputable def ALONE:List (Str×Int):=[("clock",0),("living",1),("me",192),("priority",193),("elapsed",194),("age",195),("family",196)]
noncomputable def ROWS:List (Str×Str×Int×Int):=[("p","",64,16),("v","",128,64),("f",".free",256,64),("f",".holder",320,64),("s",".used",384,64),("s",".left",448,64),("s",".open",512,64),("q",".content",576,64),("c",".length",640,64),("k","",704,64),("f",".open",832,64),("f",".displaced",896,64)]
noncomputable def J9(r:Str×Str×Int×Int):TV:=.t [.s r.1,.s r.2.1,.i r.2.2.1,.i r.2.2.2]
noncomputable def mK:List (Key×V):=ALONE.map fun p=>(Sum.inr p.1,V.int p.2)
noncomputable def vf(i:Int):Str:=Str.ofString (toString i)
structure CM (K:PySem.W.Frag) (w:World) (mg:Str→Option Value):Prop where
 RA:∃d,mg "READ_ALONE"=some (.ref d)∧KDict K w d mK
 RR:GC K mg "READ_ROWS" (.t (ROWS.map J9))
 str:mg "str"=none
theorem aA.upd{H:Hp}{T:Addr}{o:HO}(h:H T=none):aA H (L2.upd H T o):=fun b u e=>by
 rw[az (aH e h)]
 exact e
theorem kJ{α:Type}{p:α→Bool}:∀{l:List α}{i:Nat}{x:α},l[i]?=some x→(l.take i).find? p=none→p x=false→(l.take (i+1)).find? p=none
 | [],i,x,h,_,_=>by simp at h
 | a::l,0,x,h,_,hx=>by
  cases h
  simp[hx]
 | a::l,i+1,x,h,j,hx=>by
  rw[List.take_succ_cons,List.find?_cons]at j ⊢
  cases q:p a with
  | true=>rw[q]at j;cases j
  | false =>
   rw[q]at j
   simp only[q]
   exact kJ (l:=l) h j hx
theorem kI{α:Type}{p:α→Bool}:∀{l:List α}{i:Nat}{x:α},l[i]?=some x→(l.take i).find? p=none→p x=true→l.find? p=some x
 | [],i,x,h,_,_=>by simp at h
 | a::l,0,x,h,_,hx=>by
  cases h
  simp[hx]
 | a::l,i+1,x,h,j,hx=>by
  rw[List.take_succ_cons,List.find?_cons]at j
  rw[List.find?_cons]
  cases q:p a with
  | true=>rw[q]at j;cases j
  | false =>
   rw[q]at j
   exact kI (l:=l) h j hx
section
end
end SB
end
section
namespace SB
open PySem PySem.Spec PyProof.Rows L2 XL
open Vbdeaa (Text Exp Exps Un Bin)
variable {P:Program} {w:World} {K:PySem.W.Frag} {mg:Str→Option Value} {base:Heap}
noncomputable def tH:Exps→List Exp
 | .nil=>[]
 | .cons e l=>e::tH l
noncomputable def kids:Exp→List Exp
 | .num _=>[]
 | .name _=>[]
 | .un _ a=>[a]
 | .bin _ a b=>[a,b]
 | .and a b=>[a,b]
 | .or a b=>[a,b]
 | .cond c a b=>[c,a,b]
 | .best _ l=>tH l
 | .use _ l=>tH l
noncomputable def gW:Exp→Int
 | .num _=>0
 | .name _=>1
 | .un _ _=>2
 | .bin _ _ _=>3
 | .and _ _=>4
 | .or _ _=>5
 | .cond _ _ _=>6
 | .best _ _=>7
 | .use _ _=>8
noncomputable def wz:Un→Nat
 | .neg=>0 | .not=>1 | .floor=>2 | .ceil=>3 | .abs=>4 | .sign=>5 | .num=>6 | .den=>7
noncomputable def qW:Bin→Nat
 | .add=>0 | .sub=>1 | .mul=>2 | .div=>3 | .quo=>4 | .rem=>5 | .pow=>6 | .eq=>7 | .ne=>8 | .lt=>9 | .le=>10 | .gt=>11 | .ge=>12
noncomputable def bD(t:Text):Str:=⟨(t.map Int.toNat).toArray⟩
noncomputable def pK(H:Hp):Exp→V→Prop
 | .num q,D=>∃t,D=.ref t∧H t=some (.tup [.int q.1,.int (q.2:Nat)])
 | .name n,D=>D=.str (bD n)
 | .un o _,D=>D=.int (wz o)
 | .bin o _ _,D=>D=.int (qW o)
 | .best g _,D=>D=.int (if g=true then 1 else 0)
 | .use n _,D=>D=.str (bD n)
 | _,D=>D=.int 0
noncomputable def Lg(j:Int)(D:V)(l:Addr)(h:Int):List (Str×V):=[("form",.int j),("detail",D),("parts",.ref l),("height",.int h)]
inductive cF (C:Addr) (H:Hp):Exp→Addr→Prop
 | mk {e:Exp} {a dx l:Addr} {D:V} {as:List Addr}:H a=some (.ins C dx (Lg (gW e) D l e.height))→pK H e D→H l=some (.lst (as.map V.ref))→Paired (cF C H) (kids e) as→cF C H e a
theorem nQ:∀(l:Exps)(e:Exp),e∈tH l→e.height≤l.height
 | .nil,e,h=>by cases h
 | .cons a l,e,h=>by
  show _≤max a.height l.height
  rcases hU.mp h with h | h
  ·subst h;omega
  ·have:=nQ l e h;omega
theorem qN{e k:Exp}(h:k∈kids e):k.height<e.height:=by
 cases e with
 | num q=>cases h
 | name n=>cases h
 | un o a=>simp only[kids,hU,iL,or_false]at h;subst h;show _<_+1;omega
 | bin o a b=>simp only[kids,hU,iL,or_false]at h;show _<max _ _+1;rcases h with h | h<;>subst h<;>omega
 | and a b=>simp only[kids,hU,iL,or_false]at h;show _<max _ _+1;rcases h with h | h<;>subst h<;>omega
 | or a b=>simp only[kids,hU,iL,or_false]at h;show _<max _ _+1;rcases h with h | h<;>subst h<;>omega
 | cond c a b=>simp only[kids,hU,iL,or_false]at h;show _<max _ (max _ _)+1;rcases h with h | h | h<;>subst h<;>omega
 | best g l=>have:=nQ l k h;show _<_+1;omega
 | use n l=>have:=nQ l k h;show _<_+1;omega
noncomputable def rE(l:List Nat):Nat:=l.foldr max 0
theorem Eh:∀{l:List Nat}{x:Nat},x∈l→x≤rE l
 | a::l,x,h=>by
  show x≤max a (rE l)
  rcases hU.mp h with h | h
  ·omega
  ·have:=Eh h;omega
theorem zc:∀{l:List Nat},l≠[]→rE l∈l
 | [],h=>absurd rfl h
 | [a],_=>by show max a 0∈[a];rw[Nat.max_zero];exact b'
 | a::b::l,_=>by
  have j:=zc (l:=b::l) (by simp)
  show max a (rE (b::l))∈a::b::l
  by_cases h:rE (b::l)≤a
  ·rw[Nat.max_eq_left h];exact b'
  ·rw[Nat.max_eq_right (by omega)];exact am _ j
theorem Pj{l:List Nat}{m:Int}(h:(l.map (fun(n:Nat)=>(n:Int))=[]∧m=0)∨(m∈l.map (fun(n:Nat)=>(n:Int))∧∀y∈l.map (fun(n:Nat)=>(n:Int)),y≤m)):m=rE l:=by
 rcases h with⟨h1,h2⟩ | ⟨h1,h2⟩
 ·have:l=[]:=by simpa using h1
  subst this
  exact h2
 ·obtain⟨x,hx,e⟩:=List.mem_map.mp h1
  have a1:=Eh hx
  have a2:=h2 _ (List.mem_map.mpr ⟨rE l,zc (by intro z;subst z;cases hx),rfl⟩)
  omega
theorem ik:∀(l:Exps),l.height=rE ((tH l).map Exp.height)
 | .nil=>rfl
 | .cons a l=>by
  show max a.height l.height=max a.height (rE ((tH l).map Exp.height))
  rw[ik l]
theorem vV(e:Exp):e.height=1+rE ((kids e).map Exp.height):=by
 cases e with
 | num q=>rfl
 | name n=>rfl
 | un o a=>show a.height+1=1+max a.height 0;omega
 | bin o a b=>show max a.height b.height+1=1+max a.height (max b.height 0);omega
 | and a b=>show max a.height b.height+1=1+max a.height (max b.height 0);omega
 | or a b=>show max a.height b.height+1=1+max a.height (max b.height 0);omega
 | cond c a b=>show max c.height (max a.height b.height)+1=1+max c.height (max a.height (max b.height 0));omega
 | best g l=>show l.height+1=1+rE ((tH l).map Exp.height);rw[ik];omega
 | use n l=>show l.height+1=1+rE ((tH l).map Exp.height);rw[ik];omega
theorem nR{H H':Hp}{e:Exp}{D:V}(s:∀b xs,H b=some (.tup xs)→H' b=some (.tup xs))(h:pK H e D):pK H' e D:=by
 cases e with
 | num q=>obtain⟨t,e1,e2⟩:=h;exact⟨t,e1,s _ _ e2⟩
 | _=>exact h
theorem cP{α β:Type}{F G:α→β→Prop}:∀{l:List α}{m:List β},Paired F l m→(∀a b,a∈l→F a b→G a b)→Paired G l m
 | _,_,.nil,_=>.nil
 | _,_,.cons r t,f=>.cons (f _ _ b' r) (cP t fun a b h=>f a b (am _ h))
theorem cF.same{C:Addr}{H H':Hp}(s:aA H H'):∀{e:Exp}{a:Addr},cF C H e a→cF C H' e a:=by
 have j:∀(n:Nat)(e:Exp)(a:Addr),e.height≤n→cF C H e a→cF C H' e a:=by
  intro n
  induction n with
  | zero =>
   intro e a z h
   have:0<e.height:=by cases e<;>simp[Exp.height]
   omega
  | succ n J =>
   intro e a z h
   cases h with
   | mk h1 h2 D F=>exact .mk (s _ _ h1) (nR (fun b xs q=>s _ _ q) h2) (s _ _ D) (cP F fun k b L G=>J k b (by have:=qN L;omega) G)
 intro e a h
 exact j e.height e a (f' _) h
structure wk (K:PySem.W.Frag) (C:Addr):Prop where
 cl:Dg K C
 nF:aO K C "form"
 nD:aO K C "detail"
 nP:aO K C "parts"
 nH:aO K C "height"
noncomputable def bC(x:Addr)(H H':Hp):Prop:=∀b o,H b=some o→b≠x→H' b=some o
noncomputable def Al(C:Addr):Sp:=fun vs H Q _=>∃(x dx l:Addr)(e:Exp)(D:V)(as:List Addr),vs=[.ref x,.int (gW e),D,.ref l]∧H x=some (.ins C dx [])∧pK H e D∧H l=some (.lst (as.map V.ref))∧Paired (cF C H) (kids e) as ∧
 as.length<2000∧∀H',bC x H H'→H' x=some (.ins C dx (Lg (gW e) D l e.height))→Q .non H'
noncomputable abbrev Dy:Stmt:=inClass (top 20) 0
theorem oZ{C:Addr}{H:Hp}{e:Exp}{a:Addr}(h:cF C H e a):∃dx D l as,H a=some (.ins C dx (Lg (gW e) D l e.height))∧pK H e D∧H l=some (.lst (as.map V.ref))∧Paired (cF C H) (kids e) as:=by
 cases h with
 | mk h1 h2 z j=>exact⟨_,_,_,_,h1,h2,z,j⟩
section
theorem A_:aK ["self","form","detail","parts","part"] ["self","form","detail","parts"] (aD Dy):=⟨rfl,rfl,rfl,by decide +kernel,rfl,by decide +kernel,by decide +kernel⟩
theorem Ox{f C:Addr}{fd:FuncData}(F:fc K "__init__" "Node.__init__" Dy f fd)(T:wk K C)(S:mg "max"=none):aF P w K mg base (aW P w) 1 f fd ["self","form","detail","parts"] (Al C):=by
 refine d9 F A_ (fun vs H Q E h=>?_) (fun cdv A outer s H vs Q E hr h=>?_)
 ·obtain⟨_,_,_,_,_,_,rfl,_⟩:=h
  rfl
 ·obtain⟨x,dx,l,e,D,as,rfl,hx,hD,hl,hp,Y,k⟩:=h
  refine⟨_,aq (b8 (pv 0) (pv 1) rfl) (aq (b8 (pv 0) (pv 2) rfl) (aq (b8 (pv 0) (pv 3) rfl)
   (ao (b8 (pv 0) (dM pZ aB (Og rfl rfl S (aj (yU (own:=[("part",4)]) (te:=Ad K (pP 4) "height") rfl A_.nd (ji (pv 3)) (iW (by kernel_rfl))
    (fun _ _ _ _ _=>by exact cW (i:=4) A_.nd rfl (Or.inl rfl)) (fun _ _ _ _ _=>by exact lJ) (fun _ _ _ _ _=>by exact aJ (pv 4) rfl)) au) (Od aB Rv))) rfl)))),?_⟩
  have ah:l≠x:=qK hl hx (by intro z;cases z)
  have ar:f9 "form" (.int (gW e)) []=[(("form" : Str),V.int (gW e))]:=rfl
  refine⟨_,rfl,_,rfl,x,C,dx,[],rfl,hx,T.cl,T.nF,(by decide),?_⟩
  refine⟨_,rfl,_,rfl,x,C,dx,_,rfl,ak,T.cl,T.nD,(by show 1<1000;decide),?_⟩
  refine⟨_,rfl,_,rfl,x,C,dx,_,rfl,ak,T.cl,T.nP,(by show 2<1000;decide),?_⟩
  generalize Z:L2.upd (L2.upd (L2.upd H x (.ins C dx (f9 "form" (.int (gW e)) []))) x (.ins C dx (f9 "detail" D (f9 "form" (.int (gW e)) [])))) x (.ins C dx (f9 "parts" (.ref l) (f9 "detail" D (f9 "form" (.int (gW e)) []))))=H3
  have sx:bC x H H3:=fun b o q j=>by rw[←Z,az j,az j,az j];exact q
  have O:H3 x=some (.ins C dx [("form",.int (gW e)),("detail",D),("parts",.ref l)]):=by rw[←Z];exact ak
  have J:=sx l _ hl ah
  refine⟨_,rfl,l,rfl,⟨_,bV.of J⟩,fun L hL=>lV (K:=K) (a:=l) (xs:=as.map V.ref) (fun i H'=>bC L H3 H'∧H' L=some (.lst (((((kids e).map Exp.height).take i).map (fun(n:Nat)=>(n:Int))).map V.int))) ⟨fun b o q j=>by rw[az j];exact q,ak⟩
   (fun i H' _ ⟨s1,_⟩=>bV.of (s1 l _ J (aH J hL))) ?_ ?_⟩
  ·rintro i y H' hi ⟨s1,G⟩
   rw[iA]at hi
   obtain⟨a,ha,rfl⟩:∃a,as[i]?=some a∧y=V.ref a:=by
    cases q:as[i]? with
    | none=>rw[q]at hi;cases hi
    | some a=>rw[q]at hi;exact⟨a,rfl,(Option.some.inj hi).symm⟩
   have il:i<(kids e).length:=by rw[Paired.length hp];exact(hZ.mp ha).1
   obtain⟨kd,ac⟩:∃kd,(kids e)[i]?=some kd:=⟨_,ic il⟩
   obtain⟨a',aa,ai⟩:=d8 hp ac
   rw[ha]at aa
   cases aa
   obtain⟨al,D',l',av,h1,_⟩:=oZ ai
   have U:a≠x:=qK h1 hx (by intro z;injection z with _ _ z;cases z)
   have ae:=s1 a _ (sx a _ h1 U) (aH (sx a _ h1 U) hL)
   refine⟨rfl,_,rfl,a,C,al,_,_,rfl,ae,T.cl,T.nH,rfl,_,G,?_,fun b o q j=>by rw[az j];exact s1 b o q j,?_⟩
   ·rw[ap,ap,ii]
    exact iN (Nat.min_le_right _ _) (by rw[ap,Paired.length hp];exact ib Y (by decide))
   ·rw[ak]
    have e1:((kids e).map Exp.height)[i]?=some kd.height:=by rw[iA,ac];rfl
    rw[List.take_succ,e1]
    simp
  ·rintro H' ⟨s1,G⟩
   rw[ap,←Paired.length hp,show(kids e).length=((kids e).map Exp.height).length by rw[ap],List.take_length]at G
   have ag:x≠L:=aH O hL
   have af:=s1 x _ O ag
   refine⟨L,_,0,rfl,rfl,bV.of G,fun m hm=>?_⟩
   have em:=Pj (l:=(kids e).map Exp.height) hm
   have eh:1+m=(e.height:Int):=by rw[vV,em];omega
   refine⟨_,_,rfl,rfl,_,rfl,x,C,dx,_,rfl,af,T.cl,T.nH,(by show 3<1000;decide),?_⟩
   show Q .non (L2.upd H' x (.ins C dx (f9 "height" (.int (1+m)) _)))
   rw[eh]
   refine k _ (fun b o q j=>?_) ak
   rw[az j]
   have q3:=sx b o q j
   exact s1 b o q3 (aH q3 hL)
end
theorem aA.Wb{H:Hp}{x dx C:Addr}(nx:H x=none)(nd:H dx=none):aA H (L2.upd (L2.upd H dx (.own x)) x (.ins C dx [])):=fun b o e=>by
 rw[az (aH e nx),az (aH e nd)]
 exact e
theorem fH{C:Addr}{H H':Hp}(s:aA H H'){es:List Exp}{as:List Addr}(h:Paired (cF C H) es as):Paired (cF C H') es as:=cP h fun _ _ _ q=>q.same s
noncomputable def Hz(H:Hp)(Q:VK)(xs:List V):Prop:=∀l H',H l=none→aA H H'→H' l=some (.lst xs)→Q (.ref l) H'
section
end
section
end
section
end
noncomputable def vI(t:Text):List V:=t.map V.int
theorem m8(s:String):Vbdeaa.text s=(TL.tl (Str.ofString s)).map fun(c:Nat)=>(c:Int):=by
 unfold Vbdeaa.text
 rw[TL.yC,List.map_map]
 rfl
noncomputable def vq:List Str:=["-","not","floor","ceil","abs","sign","num","den"]
noncomputable def q_:List Str:=["min","max"]
noncomputable def dY:List (List Int):=[[43],[45],[42],[47],[47,47],[37],[94],[61],[60,62],[60],[60,61],[62],[62,61]]
structure CP (K:PySem.W.Frag) (mg:Str→Option Value):Prop where
 NUMBER:GC K mg "NUMBER" (.i 0)
 NAME:GC K mg "NAME" (.i 1)
 PICK:GC K mg "PICK" (.i 7)
 OW:GC K mg "ONE_WORDS" (Ft vq)
 PW:GC K mg "PICK_WORDS" (Ft q_)
 TS:GC K mg "TWO_SIGNS" (.t (dY.map tvs))
 str:mg "str"=none
 list:mg "list"=none
 range:mg "range"=none
 len:mg "len"=none
section
end
section
end
section
theorem RG{X:Cx}:iB (aW X.prog X.w) X E0:=fun pins σ H s v s' I h=>by
 obtain⟨_,_,_,_,_,_,_,_,_,_,z⟩:=h
 exact False.elim z
end
theorem cu{α β:Type}{F:α→β→Prop}:∀{l:List α}{m:List β}{a:α}{b:β},Paired F l m→F a b→Paired F (l++[a]) (m++[b])
 | _,_,_,_,.nil,h=>.cons h .nil
 | _,_,_,_,.cons r t,h=>.cons r (cu t h)
section
end
noncomputable abbrev vh:Stmt:=inClass (top 25) 0
noncomputable abbrev yN(i:Nat):Stmt:=inClass (top i) 0
section
theorem T9:aK ["self","number"] ["self","number"] (aD vh):=⟨rfl,rfl,rfl,by decide +kernel,rfl,by decide +kernel,by decide +kernel⟩
theorem p_{f:Addr}{fd:FuncData}(F:fc K "__init__" "Refusal.__init__" vh f fd)(hex:mg "Exception"=none):aF P w K mg base (aW P w) 1 f fd ["self","number"] (WM K):=by
 refine d9 F T9 (fun vs H Q E h=>?_) (fun cdv A outer s H vs Q E z h=>?_)
 ·obtain⟨_,_,_,rfl,_⟩:=h
  rfl
 ·obtain⟨x,C,n,rfl,hx,j,k⟩:=h
  refine⟨_,aq (aM (Ks rfl hex (aj (pv 0) au))) (ao (Oc (pv 0) (pv 1) rfl)),?_⟩
  exact⟨_,rfl,x,C,none,rfl,hx,j.over,_,rfl,_,rfl,x,C,rfl,hx,j.over,j.sa,j.tk,j.hd,k⟩
theorem Ri:aK ["self"] ["self"] (aD (yN 26)):=⟨rfl,rfl,rfl,by decide +kernel,rfl,by decide +kernel,by decide +kernel⟩
theorem RL{f z R:Addr}{fd j:FuncData}(F:fc K "__init__" "WrongParameterCount.__init__" (yN 26) f fd)(L:fc K "__init__" "Refusal.__init__" vh z j)(G:Binds K j ["self","number"] [])(D:mg "Refusal"=some (.ref R))(CR:g_ K R "__init__" z)(hex:mg "Exception"=none):aF P w K mg base (aW P w) 2 f fd ["self"] (NB K (-1)):=by
 have GR:aF P w K mg base (aW P w) 1 z j _ _:=p_ L hex
 refine d9 F Ri (fun vs H Q E h=>?_) (fun cdv A outer s H vs Q E J h=>?_)
 ·obtain⟨_,_,rfl,_⟩:=h
  rfl
 ·obtain⟨x,C,rfl,hx,O,k⟩:=h
  refine⟨_,ao (aM (lK (b_ rfl D rfl) CR GR J G .nil passes (aj (pv 0) (aj (eN cV aB) au)))),?_⟩
  exact⟨_,rfl,_,rfl,x,C,-1,rfl,hx,O,k⟩
theorem NQ:aK ["self"] ["self"] (aD (yN 27)):=⟨rfl,rfl,rfl,by decide +kernel,rfl,by decide +kernel,by decide +kernel⟩
theorem Oz{f z R:Addr}{fd j:FuncData}(F:fc K "__init__" "CodeTooLong.__init__" (yN 27) f fd)(L:fc K "__init__" "Refusal.__init__" vh z j)(G:Binds K j ["self","number"] [])(D:mg "Refusal"=some (.ref R))(CR:g_ K R "__init__" z)(hex:mg "Exception"=none):aF P w K mg base (aW P w) 2 f fd ["self"] (NB K (-2)):=by
 have GR:aF P w K mg base (aW P w) 1 z j _ _:=p_ L hex
 refine d9 F NQ (fun vs H Q E h=>?_) (fun cdv A outer s H vs Q E J h=>?_)
 ·obtain⟨_,_,rfl,_⟩:=h
  rfl
 ·obtain⟨x,C,rfl,hx,O,k⟩:=h
  refine⟨_,ao (aM (lK (b_ rfl D rfl) CR GR J G .nil passes (aj (pv 0) (aj (eN cV aB) au)))),?_⟩
  exact⟨_,rfl,_,rfl,x,C,-2,rfl,hx,O,k⟩
end
section
end
end SB
end
section
namespace SB
open PySem PySem.Spec PyProof.Rows L2 XL
open Vbdeaa (Text Exp Exps Un Bin Ins Code)
variable {P:Program} {w:World} {K:PySem.W.Frag} {mg:Str→Option Value} {base:Heap}
theorem jh{k:Nat}(h:960≤k):Vbdeam.readName k=none:=by
 unfold Vbdeam.readName
 have:15≤k / 64:=by omega
 generalize k / 64=j at this
 simp only
 split<;>first | omega | rfl
end SB
end
section
namespace SB
open PySem PySem.Spec PyProof.Rows L2 XL
open Vbdeaa (Text Exp Exps Un Bin Ins)
variable {P:Program} {w:World} {K:PySem.W.Frag} {mg:Str→Option Value} {base:Heap}
structure XC (P:Program) (w:World) (K:PySem.W.Frag) (mg:Str→Option Value) (base:Heap) (x:Str) (C fI:Addr) (fd:FuncData) (n:Int):Prop where
 made:Wl K C fI
 cls:pJ K C
 m:mg x=some (.ref C)
 b:Binds K fd ["self"] []
 ok:aF P w K mg base (aW P w) 2 fI fd ["self"] (NB K n)
noncomputable def bz(C:Addr)(n:Int)(H:Hp)(E:XK):Prop:=∀e d H',aA H H'→H' e=some (Mj e C d)→H' d=some (.xd [("number",.int n)])→E (.ref C) (some d) H'
theorem bz.mono{C:Addr}{n:Int}{H H1:Hp}{E:XK}(s:aA H H1)(h:bz C n H E):bz C n H1 E:=fun e d H' s' h1 h2=>h e d H' (s.trans s') h1 h2
theorem bz.go{C:Addr}{n:Int}{H:Hp}{E:XK}{D:Ends}{σ:L2.St}(h:bz C n H E):Ir C n E D σ H:=fun e d H' s' h1 h2=>h e d H' s' h1 h2
noncomputable def jU(c:Vbdeaa.Code):List (List Int):=c.map Ins.told
noncomputable def cZ(H:Hp)(c:Vbdeaa.Code)(ts:List Addr):Prop:=Paired (fun row t=>H t=some (.tup (vI row))) (jU c) ts
theorem cZ.same{H H':Hp}{c:Vbdeaa.Code}{ts:List Addr}(s:aA H H')(h:cZ H c ts):cZ H' c ts:=cP h fun _ _ _ q=>s _ _ q
theorem Ew{xs:List V}{a k:Nat}:nU xs (some (a:Int)) (some ((a+k:Nat):Int))=(xs.drop a).take k:=by
 unfold nU
 rw[HT.oN,HT.oN]
 by_cases h:a≤xs.length
 ·rw[Nat.min_eq_left h]
  by_cases h2:a+k≤xs.length
  ·rw[Nat.min_eq_left h2]
   congr 1
   omega
  ·rw[Nat.min_eq_right (by omega),List.take_of_length_le (by rw[ke];omega),List.take_of_length_le (by rw[ke];omega)]
 ·rw[List.drop_eq_nil_of_le (show xs.length≤min a xs.length by omega),List.drop_eq_nil_of_le (show xs.length≤a by omega)]
  simp
theorem Dj(l:List Int)(k:Nat):(vI l).drop k=vI (l.drop k):=List.map_drop.symm
theorem Di(l:List Int)(k:Nat):(vI l).take k=vI (l.take k):=List.map_take.symm
theorem dj(l:List Int):(vI l).length=l.length:=ap ..
theorem Ig(l:List Int)(k:Nat):(vI l)[k]?=(l[k]?).map V.int:=iA ..
section
end
end SB
end
section
namespace SB
open PySem PySem.Spec PyProof.Rows L2 XL
open Vbdeaa (Text Exp Exps Un Bin Ins)
open MX (Ch)
variable {P:Program} {w:World} {K:PySem.W.Frag} {mg:Str→Option Value} {base:Heap}
noncomputable def off(M:List Addr)(H:Hp):Hp:=fun b=>if b∈M then none else H b
theorem aU(M:List Addr)(H:Hp):aA (off M H) H:=fun b o e=>by
 unfold off at e
 split at e
 ·cases e
 ·exact e
theorem gk{M:List Addr}{H:Hp}{b:Addr}{o:HO}(h:H b=some o)(j:b∉M):off M H b=some o:=by
 unfold off
 rw[i9 j]
 exact h
theorem oY{M:List Addr}{H:Hp}{b:Addr}{o:HO}(h:off M H b=some o):b∉M:=by
 unfold off at h
 split at h
 ·cases h
 ·assumption
theorem sV{M:List Addr}{H:Hp}{b:Addr}{o:HO}(h:b∈M):off M (L2.upd H b o)=off M H:=by
 funext x
 unfold off
 by_cases hx:x∈M
 ·rw[jI hx,jI hx]
 ·rw[i9 hx,i9 hx,az (fun z=>hx (by rw[z];exact h))]
structure rO (M:List Addr) (H H':Hp):Prop where
 ins:∀b∈M,H' b=H b
 out:aA (off M H) (off M H')
theorem rO.of_same{M:List Addr}{H H':Hp}(D:∀b∈M,∃o,H b=some o)(s:aA H H'):rO M H H':=by
 refine⟨fun b z=>?_,fun b o e=>?_⟩
 ·obtain⟨o,j⟩:=D b z
  rw[j]
  exact s _ _ j
 ·exact gk (s _ _ (aU _ _ _ _ e)) (oY e)
section
end
section
end
section
end
section
end
section
end
section
end
section
end
section
end
section
end
section
end
section
end
section
end
section
end
end SB
end
section
namespace SB
open PySem PySem.Spec PyProof.Rows L2 XL
open Vbdeaa (Text Exp Exps Un Bin Ins)
variable {P:Program} {w:World} {K:PySem.W.Frag} {mg:Str→Option Value} {base:Heap}
structure CS (K:PySem.W.Frag) (mg:Str→Option Value):Prop where
 MP:GC K mg "MOST_PARAMETERS" (.i 8)
 LC:GC K mg "LONGEST_CODE" (.i 500)
 HI:GC K mg "HIGHEST" (.i 32)
 DE:GC K mg "DEEPEST" (.i 32)
 len:mg "len"=none
noncomputable def Jf(j:Addr):Sp:=fun vs H Q E=>∃n:Int,vs=[.int n]∧((0≤n∧n≤8)→Q .non H)∧(¬(0≤n∧n≤8)→bz j (-1) H E)
noncomputable def Jj(K:PySem.W.Frag)(Cl:Addr):Sp:=fun vs H Q E=>∃(l:Addr)(xs:List V),vs=[.ref l]∧bV K H l xs∧(xs.length≤500→Q .non H)∧(¬xs.length≤500→bz Cl (-2) H E)
noncomputable abbrev JR:Stmt:=top 80
noncomputable abbrev JX:Stmt:=top 81
section
theorem T_:aK ["n"] ["n"] (aD JR):=⟨rfl,rfl,rfl,by decide +kernel,rfl,by decide +kernel,by decide +kernel⟩
theorem RP{f D fI:Addr}{fd dI:FuncData}(F:Fn K mg "check_parameters" JR f fd ["n"])(X:XC P w K mg base "WrongParameterCount" D fI dI (-1))(S:CS K mg):aF P w K mg base (aW P w) 4 f fd ["n"] (Jf D):=by
 refine d9 F.F T_ (fun vs H Q E h=>?_) (fun cdv A outer s H vs Q E G h=>?_)
 ·obtain⟨_,rfl,_⟩:=h
  rfl
 ·obtain⟨n,rfl,k,j⟩:=h
  refine⟨_,ao (aX (jX (Kg nj nj aB (pv 0) (bw rfl S.MP))) (ao (bO X.made X.cls X.ok G rfl X.m X.b rfl bF)) aP),?_⟩
  refine⟨_,rfl,0,n,rfl,rfl,_,rfl,fM (fun h1=>?_) fun h1=>?_⟩
  ·have h1:0≤n:=js h1
   refine⟨n,8,rfl,rfl,_,rfl,?_⟩
   by_cases h2:n≤8
   ·rw[i8 h2]
    exact aQ (k ⟨h1,h2⟩)
   ·rw[j4 h2]
    exact bh (j fun z=>h2 z.2).go
  ·refine⟨_,rfl,bh ?_⟩
   exact(j fun z=>h1 (i8 z.1)).go
theorem Ud:aK ["numbers"] ["numbers"] (aD JX):=⟨rfl,rfl,rfl,by decide +kernel,rfl,by decide +kernel,by decide +kernel⟩
theorem RZ{f Cl fI:Addr}{fd dI:FuncData}(F:Fn K mg "check_length" JX f fd ["numbers"])(X:XC P w K mg base "CodeTooLong" Cl fI dI (-2))(S:CS K mg):aF P w K mg base (aW P w) 4 f fd ["numbers"] (Jj K Cl):=by
 refine d9 F.F Ud (fun vs H Q E h=>?_) (fun cdv A outer s H vs Q E G h=>?_)
 ·obtain⟨_,_,rfl,_⟩:=h
  rfl
 ·obtain⟨l,xs,rfl,D,k,j⟩:=h
  refine⟨_,ao (aX (aG qF (b7 bJ (by rfl) S.len (by decide +kernel) (aj (pv 0) au)) (bw rfl S.LC) (aL _)) (ao (bO X.made X.cls X.ok G rfl X.m X.b rfl bF)) aP),?_⟩
  refine⟨_,rfl,l,xs,rfl,.inl D,_,_,rfl,rfl,_,rfl,fM (fun h1=>?_) fun h1=>?_⟩
  ·have h1:(500:Int)<xs.length:=js h1
   exact(j (by omega)).go
  ·have h1:¬(500:Int)<xs.length:=fun z=>h1 (i8 z)
   exact k (by omega)
end
theorem same_none{H H':Hp}{l:Addr}(s:aA H H')(h:H' l=none):H l=none:=by
 cases q:H l with
 | none=>rfl
 | some o=>rw[s _ _ q]at h;cases h
section
theorem caught{Rc C:Addr}{n:Int}{H:Hp}{D:Ends}{xs:List V}(G:pJ K C)(hx:PySem.W.exmOne K (.ref C) (.ref Rc)=some true)(z:Hz H D.rt xs)(F:xs=[.int n]):bz C n H (ww K Rc D):=by
 subst F
 intro e d H' s h1 h2
 exact⟨C,d,n,rfl,rfl,G,hx,h2,fun l j=>z l _ (same_none s j) (s.trans (aA.upd j)) ak⟩
end
noncomputable abbrev fdOf(x qual:Str)(st:Stmt)(kV doc pm:Value)(an:Option Addr)(cdv ct:Value):FuncData:=PySem.W.fnOf x qual (mD st) (eO st) (aD st) .none kV doc pm an cdv ct
noncomputable def aN(x qual:Str)(st:Stmt)(ps:List Str):Prop:=∀(kV doc pm:Value)(an:Option Addr)(cdv ct:Value)(us:List Value),us.length=ps.length→bindArgs (PySem.W.fnOf x qual (mD st) (eO st) (aD st) .none kV doc pm an cdv ct) ⟨us,[]⟩=pure (ps.zip us)
section
variable {K:PySem.W.Frag} {h:Heap} {mg:Str→Option Value} {x qual:Str} {st:Stmt} {ps:List Str} {f C:Addr} {oc kV doc pm cdv ct:Value} {od an:Option Addr} {osl:Array (Option Value)}
theorem tu(j:aN x x st ps)(X:K.In h)(G:h.Ns mainGlobals mg)(a:PySem.W.nsIn K mainGlobals x=some (some (.ref f)))(l:K.lookup f=some ⟨oc,od,.func (fdOf x x st kV doc pm an cdv ct),osl⟩)(c:PySem.W.codeIn K cdv x=true)(k:PySem.W.keepIn K (.ref f)=true):∃f fd,Fn K mg x st f fd ps :=
 have F:=qi l c k
 ⟨f,_,F,PySem.W.mg_of X G a,F.binds j⟩
theorem qj(j:aN x qual st ps)(a:PySem.W.findIn K (.ref C) x=some (some (.ref f)))(i:PySem.W.isFn K (.ref f)=true)(l:K.lookup f=some ⟨oc,od,.func (fdOf x qual st kV doc pm an cdv ct),osl⟩)(c:PySem.W.codeIn K cdv qual=true)(k:PySem.W.keepIn K (.ref f)=true):∃f fd,Fm K C x qual st f fd ps :=
 have F:=qi l c k
 ⟨f,_,F,F.binds j,a,i,k⟩
structure M6 (K:PySem.W.Frag) (mg:Str→Option Value) (x qual:Str) (st:Stmt) (ps:List Str) (C f:Addr) (fd:FuncData):Prop where
 cl:Dg K C
 m:mg x=some (.ref C)
 mk_:Mk K C f
 F:fc K "__init__" qual st f fd
 b:Binds K fd ps []
theorem Vr(z:aN "__init__" qual st ps)(X:K.In h)(G:h.Ns mainGlobals mg)(j:PySem.W.nsIn K mainGlobals x=some (some (.ref C)))(pg:PySem.W.plainGet K C Str.empty=true)(hd:PySem.W.hasDictIn K C=true)(po:PySem.W.plainOver K C=true)(sa:PySem.W.findIn K (.ref C) "__setattr__"=some (some (.builtin "object.__setattr__")))
  (mk:PySem.W.makesIn K C=true) (D:PySem.W.keepIn K (.ref C)=true) (a:PySem.W.findIn K (.ref C) "__init__"=some (some (.ref f))) (i:PySem.W.isFn K (.ref f)=true) (l:K.lookup f=some ⟨oc,od,.func (fdOf "__init__" qual st kV doc pm an cdv ct),osl⟩) (c:PySem.W.codeIn K cdv qual=true) (k:PySem.W.keepIn K (.ref f)=true) :
  ∃f fd,M6 K mg x qual st ps C f fd :=
 have F:=qi l c k
 ⟨f,_,⟨pg,hd,po,sa⟩,PySem.W.mg_of X G j,⟨mk,a,i,D⟩,F,F.binds z⟩
theorem Tf{nm q:Str}{N:Addr}{bs bm:List Value}{hdct:Bool}{sn:List Str}{sub:List Value}{ab:Bool}{col:Option Bool}{dd:Option Addr}{k0 k1 k2 k3 k5:Option Value}(j:K.lookup C=some (excClassObj nm q C N bs bm hdct sn sub ab col dd k0 k1 k2 k3 k5 "Exception.__new__"))(e1:bm.contains (.type "Exception")=true)(e2:bm.contains (.type "AttributeError")=false)(e3:bm.contains (.type "NameError")=false)(z:bm.contains (.type "BaseException")=true) :
  ∃nm q N bs bm hdct sn sub ab col dd k0 k1 k2 k3 k5,K.lookup C=some (excClassObj nm q C N bs bm hdct sn sub ab col dd k0 k1 k2 k3 k5 "Exception.__new__")∧bm.contains (.type "Exception")=true∧bm.contains (.type "AttributeError")=false∧bm.contains (.type "NameError")=false∧bm.contains (.type "BaseException")=true :=
 ⟨_,_,_,_,_,_,_,_,_,_,_,_,_,_,_,_,j,e1,e2,e3,z⟩
structure C_ (K:PySem.W.Frag) (mg:Str→Option Value) (x qual:Str) (st:Stmt) (Rc C f:Addr) (fd:FuncData):Prop where
 made:Wl K C f
 cls:pJ K C
 m:mg x=some (.ref C)
 F:fc K "__init__" qual st f fd
 b:Binds K fd ["self"] []
 ex:PySem.W.exmOne K (.ref C) (.ref Rc)=some true
theorem Ti{Rc:Addr}(z:aN "__init__" qual st ["self"])(X:K.In h)(G:h.Ns mainGlobals mg)(D:PySem.W.nsIn K mainGlobals x=some (some (.ref C)))
  (cls:∃nm q N bs bm hdct sn sub ab col dd k0 k1 k2 k3 k5,K.lookup C=some (excClassObj nm q C N bs bm hdct sn sub ab col dd k0 k1 k2 k3 k5 "Exception.__new__")∧bm.contains (.type "Exception")=true∧bm.contains (.type "AttributeError")=false∧bm.contains (.type "NameError")=false∧bm.contains (.type "BaseException")=true)
  (j:PySem.W.keepIn K (.ref C)=true) (a:PySem.W.findIn K (.ref C) "__init__"=some (some (.ref f))) (i:PySem.W.isFn K (.ref f)=true) (l:K.lookup f=some ⟨oc,od,.func (fdOf "__init__" qual st kV doc pm an cdv ct),osl⟩) (c:PySem.W.codeIn K cdv qual=true) (k:PySem.W.keepIn K (.ref f)=true)
  (over:gY K C=true) (sa:PySem.W.findIn K (.ref C) "__setattr__"=some (some (.builtin "object.__setattr__"))) (tk:PySem.W.takerIn K C "number"=some none) (hd:PySem.W.hasDictIn K C=true) (ga:PySem.W.findIn K (.ref C) "__getattribute__"=some (some (.builtin "BaseException.__getattribute__"))) (gh:PySem.W.findIn K (.ref C) "__getattr__"=some none) (nn:PySem.W.findIn K (.ref C) "number"=some none)
  (ex:PySem.W.exmOne K (.ref C) (.ref Rc)=some true):∃C f fd,C_ K mg x qual st Rc C f fd :=
 have F:=qi l c k
 ⟨C,f,_,⟨cls,a,i,j⟩,⟨over,sa,tk,hd,ga,gh,nn⟩,PySem.W.mg_of X G D,F,F.binds z,ex⟩
end
noncomputable def isAbsent(K:PySem.W.Frag)(x:Str):Bool:=match PySem.W.nsIn K mainGlobals x with
 | some none=>true
 | _=>false
noncomputable def Eo(H:Str→Int):List (Str×Int)→List DictEntry→Prop
 | [],[]=>True
 | p::r,e::s=>(∃t t',e.key=.str p.1 t∧e.val=.int p.2 t')∧e.hash=H p.1∧Eo H r s
 | _,_=>False
theorem En{H:Str→Int}:∀{l:List (Str×Int)}{es:List DictEntry},Eo H l es→es.length=l.length
 | [],[],_=>rfl
 | p::r,e::s,h=>by simp only[cr];rw[En h.2.2]
 | [],e::s,h=>h.elim
 | p::r,[],h=>h.elim
theorem zF{P:Program}{w:World}:∀{l:List (Str×Int)}{es:List DictEntry},Eo (hashStr w) l es→∃vs:List (Key×Value),KV (l.map fun p=>(Sum.inr p.1,V.int p.2)) vs∧Pairs (cJ P w) es vs∧vs.map (·.1)=l.map (fun p=>(Sum.inr p.1:Key))∧∀e∈es,∃k,(cJ P w).is k e.key=true∧e.hash=(cJ P w).hash k
 | [],[],_=>⟨[],.nil,.nil,rfl,fun e h=>by cases h⟩
 | p::r,e::s,h=>by
  obtain⟨vs,h1,h2,F,G⟩:=zF (P:=P) h.2.2
  obtain⟨t,t',z,D⟩:=h.1
  refine⟨(Sum.inr p.1,e.val)::vs,.cons ⟨rfl,by rw[D];exact⟨t',rfl⟩⟩ h1,.cons (by show(cJ P w).is (Sum.inr p.1) e.key=true;rw[z];exact j_ P w _ t) rfl h2,by rw[i4,i4,F],fun J j=>?_⟩
  rcases hU.mp j with rfl | j
  ·exact⟨Sum.inr p.1,by rw[z];exact j_ P w _ t,h.2.1⟩
  ·exact G J j
 | [],e::s,h=>h.elim
 | p::r,[],h=>h.elim
theorem zU:(ALONE.map fun p=>(Sum.inr p.1:Key)).Nodup:=by decide +kernel
theorem kdx{K:PySem.W.Frag}{w:World}{h:Heap}{mg:Str→Option Value}{d:Addr}{es:List DictEntry}{ep:Nat}(X:K.In h)(G:h.Ns mainGlobals mg)(a:PySem.W.nsIn K mainGlobals "READ_ALONE"=some (some (.ref d)))(l:K.lookup d=some ⟨.type "dict",none,.dict es.toArray ep,#[]⟩)(D:(d==sysModules)=false)(z:Eo (hashStr w) ALONE es) :
  ∃d,mg "READ_ALONE"=some (.ref d)∧KDict K w d mK:=by
 refine⟨d,PySem.W.mg_of X G a,D,fun P=>?_⟩
 obtain⟨vs,h1,h2,F,J⟩:=zF (P:=P) z
 refine⟨_,es.toArray,ep,vs,l,⟨rfl,rfl,rfl⟩,rfl,?_,h1,fun e j=>J e (by simpa using j),by simpa using h2,by rw[F];exact zU⟩
 rw[ia,En z]
 unfold mK
 rw[ap]
end SB
end
end
section
namespace SB
open PySem PySem.Spec PyProof.Rows L2 XL
open Vbdeaa (Text Exp Exps Un Bin Ins)
variable {P:Program} {w:World} {K:PySem.W.Frag} {mg:Str→Option Value} {base:Heap}
theorem KDict.of{X:Cx}{pins:List (Addr×Obj)}{σ:L2.St}{H:Hp}{s:Shared}{d:Addr}{kvs:List (Key×V)}(D:KDict X.K X.w d kvs)(I:Inv X pins σ H s):∃vs,KV kvs vs∧s.heap.DictOf (cJ X.prog X.w) d vs:=by
 obtain⟨o,es,ep,vs,h1,h2,z,L,j,F,J,G⟩:=D.ex X.prog
 exact⟨vs,j,o,es,ep,I.o6 _ _ h1,h2,z,F,J,G⟩
noncomputable def VD(kvs:List (Key×V))(ty:TE):TE:=fun σ H Q=>ty σ H fun y H1=>∃k,y=kV k∧Q (.bl (pN kvs k).isSome) H1
noncomputable def VB(kvs:List (Key×V))(ty:TE):TE:=fun σ H Q=>ty σ H fun y H1=>∃k v,y=kV k∧pN kvs k=some v∧Q v H1
theorem KJ{X:Cx}{x:Str}{i:Expr}{p:Pos}{d:Addr}{kvs:List (Key×V)}{ty:TE}(L:Gl X x)(J:X.mg x=some (.ref d))(D:KDict X.K X.w d kvs)(hi:PE X i ty)(j:(x==("__debug__" : Str))=false:=by decide):PC X .In i (.Name x p) (VD kvs ty):=by
 intro pins s σ H Q I h
 refine cG (hi pins s σ H _ I h) fun U s1 ⟨y,H1,O,F,k,S,q⟩=>cG (b_ (v:=.ref d) L J rfl j pins s1 σ H1 (fun v H2=>v=.ref d∧H2=H1) O ⟨rfl,rfl⟩) fun u s2 ⟨v,H2,z,G,e1,e2⟩=>?_
 subst S e1 e2
 obtain rfl:u=Value.ref d:=G
 obtain⟨vs,rel,dd⟩:=D.of z
 refine wpAny_in_of (QM F) D.ns dd.mapOf ?_
 rw[←(rel.val k).Ha]
 exact⟨.bl _,H2,z.tok _,rfl,q⟩
theorem KC{X:Cx}{x:Str}{i:Expr}{p pos:Pos}{d:Addr}{kvs:List (Key×V)}{ty:TE}(S:Gl X x)(O:X.mg x=some (.ref d))(KD:KDict X.K X.w d kvs)(hi:PE X i ty)(G:Vi i)(j:(x==("__debug__" : Str))=false:=by decide):PE X (.Subscript (.Name x p) i pos) (VB kvs ty):=by
 intro pins s σ H Q I h
 refine Nu PySem.F.slot_dict_getitem.lookup G (cG (b_ (v:=.ref d) S O rfl j pins s σ H (fun v H2=>v=.ref d∧H2=H) I ⟨rfl,rfl⟩) fun u s1 ⟨v,H1,Y,L,e1,e2⟩=>?_)
 subst e1 e2
 obtain rfl:u=Value.ref d:=L
 refine cG (hi pins s1 σ H1 _ Y h) fun iv s2 hz=>?_
 obtain⟨y,H2,D,J,k,v,Z,U,q⟩:=hz
 subst Z
 obtain⟨vs,rel,dd⟩:=KD.of D
 obtain⟨w',hw,z⟩:=n8.some_of (v:=v) (o:=valueAt vs k) (by rw[←U];exact rel.val k)
 exact⟨dd.typeIs,wpAny_getItem_of (QM J) dd.mapOf hw ⟨v,H2,D.tok _,z,q⟩⟩
noncomputable def jL(a h t:Str):Str:=Hm a (some (h.length:Nat)) (some ((a.length:Nat)-(t.length:Nat)))
noncomputable def HD(a h t:Str):Bool:=Txt.startswith a h&&Txt.endswith a t
noncomputable def eY(a h t:Str)(c:Int):Int:=if HD a h t=true then(if Txt.isdigit (jL a h t)=true then(match PySem.intText? (jL a h t)with
 | none=>-1
 | some m=>if vf m=jL a h t then(if c≤m then -1 else m)else -1)else -1)else -1
noncomputable def Nh(a h t:Str):Bool:=decide (a.length≤100)&&(decide (h.length≤100)&&(decide (t.length≤100)&&(!(HD a h t&&Txt.isdigit (jL a h t))||(match PySem.intText? (jL a h t)with
 | none=>false
 | some m=>decide (m.natAbs<2 ^ 1900)))))
noncomputable def jO:Sp:=fun vs H Q _=>∃(a h t:Str)(c:Int),vs=[.str a,.str h,.str t,.int c]∧Nh a h t=true∧Q (.int (eY a h t c)) H
noncomputable abbrev jf:Stmt:=top 38
section
theorem ue:aK ["name","head","tail","count","digits","number"] ["name","head","tail","count"] (aD jf):=⟨rfl,rfl,rfl,by decide +kernel,rfl,by decide +kernel,by decide +kernel⟩
theorem Gx{f:Addr}{fd:FuncData}(F:Fn K mg "number_within" jf f fd ["name","head","tail","count"])(j:mg "len"=none)(hint:mg "int"=none)(G:mg "str"=none):aF P w K mg base (aW P w) 1 f fd ["name","head","tail","count"] jO:=by
 refine d9 F.F ue (fun vs H Q E h=>?_) (fun cdv A outer s H vs Q E hr h=>?_)
 ·obtain⟨_,_,_,_,rfl,_⟩:=h
  rfl
 ·obtain⟨a,h,t,c,rfl,L,k⟩:=h
  unfold Nh at L
  simp only[h9,jv]at L
  obtain⟨g1,g2,g3,D⟩:=L
  refine⟨_,aq (aX (PW.pt (m_ (jX (eG (gB PySem.F.plainAttrs_str PySem.F.slot_str_startswith PySem.F.type_str_startswith vm (pv 0) (aj (pv 1) au)))) (jV (jX (eG (gB PySem.F.plainAttrs_str PySem.F.slot_str_endswith PySem.F.type_str_endswith zb (pv 0) (aj (pv 2) au))))))) (ao (aV (eN cV aB))) aP)
   (aq (bu (i:=4) ue.nd rfl (Or.inl rfl) (jZ Rh (pv 0) (gR (b7 gm (by rfl) j (by decide +kernel) (aj (pv 1) au))) (gR (dM uA (b7 gm (by rfl) j (by decide +kernel) (aj (pv 0) au)) (b7 gm (by rfl) j (by decide +kernel) (aj (pv 2) au))))))
   (aq (aX (jX (eG (Bl PySem.F.plainAttrs_str PySem.F.slot_str_isdigit PySem.F.type_str_isdigit Bu (pv 4)))) (ao (aV (eN cV aB))) aP)
   (aq (bu (i:=5) ue.nd rfl (Or.inl rfl) (iI x_ (by rfl) hint (by decide +kernel) (aj (pv 4) au)))
   (aq (aX (PW.pt (m_ (aG vL (iI pB (by rfl) G (by decide +kernel) (aj (pv 5) au)) (pv 4) (aL _)) (jV (aG qG (pv 5) (pv 3) (aL _))))) (ao (aV (eN cV aB))) aP)
   (ao (aV (pv 5))))))),?_⟩
  have out:eY a h t c=-1→Q (.int (-1)) H:=fun e=>by rw[←e];exact k
  have hsz:(1000:Nat)≤sizeLine:=by decide
  refine⟨_,rfl,rfl,_,rfl,a,h,rfl,rfl,Txt.startswith a h,rfl,?_⟩
  cases e1:Txt.startswith a h with
  | false=>exact bh (bh ⟨1,rfl,out (by unfold eY HD;rw[e1];rfl)⟩)
  | true =>
   refine aQ ⟨_,rfl,rfl,_,rfl,a,t,rfl,rfl,Txt.endswith a t,rfl,?_⟩
   cases e2:Txt.endswith a t with
   | false=>exact bh ⟨1,rfl,out (by unfold eY HD;rw[e1,e2];rfl)⟩
   | true =>
    have U:HD a h t=true:=by unfold HD;rw[e1,e2];rfl
    refine aQ ⟨_,rfl,_,rfl,h,rfl,by omega,_,rfl,_,rfl,a,rfl,by omega,_,rfl,t,rfl,by omega,_,_,rfl,rfl,_,rfl,a,rfl,by omega,?_⟩
    refine⟨_,rfl,rfl,_,rfl,rfl,trivial,Txt.isdigit (jL a h t),rfl,?_⟩
    cases e3:Txt.isdigit (jL a h t)with
    | false=>exact bh ⟨1,rfl,out (by unfold eY;rw[U,e3];rfl)⟩
    | true =>
     rw[U,e3]at D
     obtain⟨m,Y,J⟩:∃m,PySem.intText? (jL a h t)=some m∧m.natAbs<2 ^ 1900:=by
      cases Z:PySem.intText? (jL a h t)with
      | none=>rw[Z]at D;cases D
      | some m=>rw[Z]at D;exact⟨m,rfl,js D⟩
     have O:(jL a h t).length≤100:=ip (kW _ _ _) g1
     have ev:eY a h t c=if vf m=jL a h t then(if c≤m then -1 else m)else -1:=by
      unfold eY
      rw[jI U,jI e3,Y]
     have S:m.natAbs.log2<1920:=by
      by_cases z:m.natAbs=0
      ·rw[z];decide
      ·exact Nat.lt_trans ((Nat.log2_lt z).mpr J) (by decide)
     refine aQ ⟨_,rfl,_,m,rfl,Y,ip O (by decide),?_⟩
     refine⟨_,rfl,m,rfl,S,_,rfl,rfl,_,rfl,?_⟩
     refine fM (fun h1=>?_) fun h1=>?_
     ·refine bh ⟨1,rfl,out ?_⟩
      rw[ev,i9]
      intro z
      have h1:(!decide (V.str (vf m)=V.str (jL a h t)))=true:=h1
      rw[z,i8 rfl]at h1
      cases h1
     ·have hz:vf m=jL a h t:=by
       apply Classical.byContradiction
       intro z
       have h1:¬(!decide (V.str (vf m)=V.str (jL a h t)))=true:=h1
       exact h1 (by rw[j4 (fun y=>z (V.str.inj y))];rfl)
      refine⟨_,rfl,_,rfl,_,_,rfl,rfl,_,rfl,fM (fun h2=>?_) fun h2=>?_⟩
      ·have h2:c≤m:=js h2
       exact⟨1,rfl,out (by rw[ev,jI hz,jI h2])⟩
      ·have h2:¬c≤m:=fun z=>h2 (i8 z)
       refine⟨_,rfl,?_⟩
       rw[ev,jI hz,i9 h2]at k
       exact k
end
noncomputable def DK(a:Str)(r:Str×Str×Int×Int):Bool:=decide (0≤eY a r.1 r.2.1 r.2.2.2)
noncomputable def j7(a:Str):Int:=match ALONE.find? (fun p=>decide (p.1=a))with
 | some p=>p.2
 | none=>match ROWS.find? (DK a)with
  | some r=>r.2.2.1+eY a r.1 r.2.1 r.2.2.2
  | none=>-1
noncomputable def R8(a:Str):Bool:=ROWS.all fun r=>Nh a r.1 r.2.1
theorem vB(a:Str):pN mK (Sum.inr a)=(ALONE.find? (fun p=>decide (p.1=a))).map fun p=>V.int p.2:=by
 unfold pN mK
 rw[List.find?_map,Option.map_map]
 have:((fun j:Key×V=>decide (j.1=Sum.inr a)) ∘ fun p:Str×Int=>((Sum.inr p.1:Key),V.int p.2))=fun p=>decide (p.1=a):=by
  funext p
  show decide ((Sum.inr p.1:Key)=Sum.inr a)=decide (p.1=a)
  exact Lw _ _
 rw[this]
 rfl
noncomputable def Jh:Sp:=fun vs H Q _=>∃a:Str,vs=[.str a]∧R8 a=true∧Q (.int (j7 a)) H
noncomputable abbrev JW:Stmt:=top 39
section
theorem vJ:aK ["name","head","tail","first","count","number"] ["name"] (aD JW):=⟨rfl,rfl,rfl,by decide +kernel,rfl,by decide +kernel,by decide +kernel⟩
theorem RV{f fW:Addr}{fd dW:FuncData}(F:Fn K mg "number_of_read" JW f fd ["name"])(T:CM K w mg)(FW:Fn K mg "number_within" jf fW dW ["name","head","tail","count"])(GW:aF P w K mg base (aW P w) 1 fW dW ["name","head","tail","count"] jO):aF P w K mg base (aW P w) 2 f fd ["name"] Jh:=by
 obtain⟨d,hd,KD⟩:=T.RA
 obtain⟨ur,vr,Z,rr,ae⟩:=T.RR
 obtain⟨ra,L,rfl,S,j⟩:=ae.tup
 refine d9 F.F vJ (fun vs H Q E h=>?_) (fun cdv A outer s H vs Q E hr h=>?_)
 ·obtain⟨_,rfl,_⟩:=h
  rfl
 ·obtain⟨a,rfl,hg,k⟩:=h
  refine⟨_,aq (aX (Bg (KJ rfl hd KD (pv 0))) (ao (aV (KC rfl hd KD (pv 0) (fun _ _=>rfl)))) aP)
   (aq (uq rC rfl (Ko (b_ rfl Z rr)) (Kr rfl (iH (cW (i:=1) vJ.nd rfl (Or.inl rfl)) (iH (cW (i:=2) vJ.nd rfl (Or.inl rfl)) (iH (cW (i:=3) vJ.nd rfl (Or.inl rfl)) (iH (cW (i:=4) vJ.nd rfl (Or.inl rfl)) DW)))))
    (aq (bu (i:=5) vJ.nd rfl (Or.inl rfl) (a_ GW hr rfl FW.m FW.F.kp FW.b .nil passes (aj (pv 0) (aj (pv 1) (aj (pv 2) (aj (pv 4) au))))))
     (ao (aX (aG qG (pv 5) aB (aL _)) (ao (aV (dM pZ (pv 3) (pv 5)))) aP))))
   (ao (aV (eN cV aB)))),?_⟩
  refine⟨_,rfl,Sum.inr a,rfl,_,rfl,?_⟩
  rw[vB]
  cases G:ALONE.find? (fun p=>decide (p.1=a))with
  | some p =>
   have ev:j7 a=p.2:=by unfold j7;rw[G]
   refine bh ⟨_,rfl,Sum.inr a,.int p.2,rfl,by rw[vB,G];rfl,?_⟩
   rw[ev]at k
   exact k
  | none =>
   refine aQ ⟨ra,rfl,⟨_,S H⟩,El (K:=K) (a:=ra) (xs:=L) (fun i σ H'=>∃w1 Y w3 w4 U:Option V,σ=[some (.str a),w1,Y,w3,w4,U]∧H'=H∧(ROWS.take i).find? (DK a)=none) ⟨none,none,none,none,none,rfl,rfl,rfl⟩ (fun i σ H' _ _=>S H') ?_ ?_⟩
   ·rintro i x σ H' hi ⟨w1,Y,w3,w4,U,rfl,rfl,O⟩
    have D:L.length=ROWS.length:=by
     have:=Paired.length j
     rw[ap]at this
     exact this.symm
    have il:i<L.length:=(hZ.mp hi).1
    obtain⟨r,J⟩:∃r,ROWS[i]?=some r:=⟨_,ic (by rw[D]at il;exact il)⟩
    obtain⟨y,hy,hc⟩:=d8 j (i:=i) (a:=J9 r) (by rw[iA,J];rfl)
    rw[hi]at hy
    cases hy
    obtain⟨a2,ys,rfl,aa,af⟩:=jE.tup hc
    have ey:ys=[V.str r.1,V.str r.2.1,V.int r.2.2.1,V.int r.2.2.2]:=by
     cases af with
     | cons a b=>cases b with
      | cons c d=>cases d with
       | cons e f=>cases f with
        | cons g h' =>
         cases h'
         rw[jE.str a,jE.str c,jE.int e,jE.int g]
    subst ey
    have ac:Nh a r.1 r.2.1=true:=j5.mp hg r (j6 J)
    refine⟨a2,_,rfl,aa _,rfl,_,_,rfl,_,_,rfl,_,_,rfl,_,_,rfl,rfl,?_⟩
    refine⟨_,rfl,_,rfl,_,rfl,_,rfl,a,r.1,r.2.1,r.2.2.2,rfl,ac,?_⟩
    refine⟨_,rfl,_,_,rfl,rfl,_,rfl,fM (fun h1=>?_) fun h1=>?_⟩
    ·have h1:0≤eY a r.1 r.2.1 r.2.2.2:=js h1
     have ev:j7 a=r.2.2.1+eY a r.1 r.2.1 r.2.2.2:=by
      unfold j7
      rw[G,kI J O (i8 h1)]
     rw[ev]at k
     exact⟨_,rfl,_,rfl,_,_,rfl,rfl,k⟩
    ·exact⟨_,_,_,_,_,rfl,rfl,kJ J O (j4 fun z=>h1 (i8 z))⟩
   ·rintro σ H1 ⟨w1,Y,w3,w4,U,rfl,rfl,O⟩
    have D:L.length=ROWS.length:=by
     have:=Paired.length j
     rw[ap]at this
     exact this.symm
    rw[D,List.take_length]at O
    have ev:j7 a=-1:=by unfold j7;rw[G,O]
    rw[ev]at k
    exact⟨1,rfl,k⟩
end
end SB
end
section
namespace SB
open PySem PySem.Spec PyProof.Rows L2 XL
variable {P:Program} {w:World} {K:PySem.W.Frag} {mg:Str→Option Value} {base:Heap}
structure CR (K:PySem.W.Frag) (mg:Str→Option Value):Prop where
 FO:GC K mg "FORMULAS" (.i 64)
 TA:GC K mg "TABLES" (.i 64)
 MA:GC K mg "MOST_ARGUMENTS" (.i 8)
end SB
end
section
namespace SB
open PySem PySem.Spec PyProof.Rows L2 XL
open Vbdeaa (Text Exp Exps Un Bin Ins)
variable {P:Program} {w:World} {K:PySem.W.Frag} {mg:Str→Option Value} {base:Heap}
noncomputable abbrev wU:Stmt:=inClass (top 31) 0
noncomputable def S9(H:Hp)(Q:VK)(row:List Int):Prop:=∀t H',H t=none→aA H H'→H' t=some (.tup (vI row))→Q (.ref t) H'
noncomputable def jB(n:Int)(a:Str):Option (List Int) :=
 if 0≤eY a "a" "" n then some [1,eY a "a" "" n]else if 0≤eY a "g" "" 64 then some [8,eY a "g" "" 64,0]else if 0≤j7 a then some [2,j7 a]else none
noncomputable def dZ(n:Int)(a:Str):Option (List Int) :=
 if 0≤eY a "g" "" 64∧n≤8 then some [8,eY a "g" "" 64,n]else if 0≤eY a "t" "" 64∧n=1 then some [7,eY a "t" "" 64]else none
noncomputable def gj(a:Str):Bool:=Nh a "a" "" && (Nh a "g" "" && (Nh a "t" "" && R8 a))
noncomputable def Ax(Cx:Addr):Sp:=fun vs H Q E=>∃(a:Str)(n:Int),vs=[.str a,.int n]∧gj a=true∧(∀row,jB n a=some row→S9 H Q row)∧(jB n a=none→bz Cx (-8) H E)
noncomputable def uc(Cx:Addr):Sp:=fun vs H Q E=>∃(a:Str)(n:Int),vs=[.str a,.int n]∧gj a=true∧(∀row,dZ n a=some row→S9 H Q row)∧(dZ n a=none→bz Cx (-8) H E)
noncomputable abbrev yQ:Stmt:=top 40
noncomputable abbrev oR:Stmt:=top 41
section
theorem Js:aK ["self"] ["self"] (aD wU):=⟨rfl,rfl,rfl,by decide +kernel,rfl,by decide +kernel,by decide +kernel⟩
theorem K4{f z R:Addr}{fd j:FuncData}(F:fc K "__init__" "WrongName.__init__" wU f fd)(L:fc K "__init__" "Refusal.__init__" vh z j)(G:Binds K j ["self","number"] [])(D:mg "Refusal"=some (.ref R))(CR:g_ K R "__init__" z)(hex:mg "Exception"=none):aF P w K mg base (aW P w) 2 f fd ["self"] (NB K (-8)):=by
 have GR:aF P w K mg base (aW P w) 1 z j _ _:=p_ L hex
 refine d9 F Js (fun vs H Q E h=>?_) (fun cdv A outer s H vs Q E J h=>?_)
 ·obtain⟨_,_,rfl,_⟩:=h
  rfl
 ·obtain⟨x,C,rfl,hx,O,k⟩:=h
  refine⟨_,ao (aM (lK (b_ rfl D rfl) CR GR J G .nil passes (aj (pv 0) (aj (eN cV aB) au)))),?_⟩
  exact⟨_,rfl,_,rfl,x,C,-8,rfl,hx,O,k⟩
theorem lQ{H:Hp}{Q:VK}{row:List Int}(h:S9 H Q row):∀t,H t=none→Q (.ref t) (L2.upd H t (.tup (vI row))):=fun t j=>h t _ j (aA.upd j) ak
theorem wQ:aK ["name","n","parameter","formula","read"] ["name","n"] (aD yQ):=⟨rfl,rfl,rfl,by decide +kernel,rfl,by decide +kernel,by decide +kernel⟩
theorem O7{f fW Y Cx fI:Addr}{fd Z U dI:FuncData}(F:Fn K mg "bare_name_instruction" yQ f fd ["name","n"])(D:Fn K mg "number_within" jf fW Z ["name","head","tail","count"])(GW:aF P w K mg base (aW P w) 1 fW Z ["name","head","tail","count"] jO)
  (J:Fn K mg "number_of_read" JW Y U ["name"]) (GN:aF P w K mg base (aW P w) 2 Y U ["name"] Jh) (X:XC P w K mg base "WrongName" Cx fI dI (-8)) (R:CR K mg):aF P w K mg base (aW P w) 4 f fd ["name","n"] (Ax Cx):=by
 refine d9 F.F wQ (fun vs H Q E h=>?_) (fun cdv A outer s H vs Q E O h=>?_)
 ·obtain⟨_,_,rfl,_⟩:=h
  rfl
 ·obtain⟨a,n,rfl,L,k,kr⟩:=h
  unfold gj at L
  simp only[h9]at L
  obtain⟨g1,g2,g3,g4⟩:=L
  have G:bG 1 _:=O.mono (by omega)
  have S:bG 2 _:=O.mono (by omega)
  refine⟨_,aq (bu (i:=2) wQ.nd rfl (Or.inl rfl) (a_ GW G rfl D.m D.F.kp D.b .nil passes (aj (pv 0) (aj bA (aj bA (aj (pv 1) au))))))
   (aq (aX (aG qG (pv 2) aB (aL _)) (ao (aV (bI (aj aB (aj (pv 2) au))))) aP)
   (aq (bu (i:=3) wQ.nd rfl (Or.inl rfl) (a_ GW G rfl D.m D.F.kp D.b .nil passes (aj (pv 0) (aj bA (aj bA (aj (bw rfl R.FO) au))))))
   (aq (aX (aG qG (pv 3) aB (aL _)) (ao (aV (bI (aj aB (aj (pv 3) (aj aB au)))))) aP)
   (aq (bu (i:=4) wQ.nd rfl (Or.inl rfl) (a_ GN S rfl J.m J.F.kp J.b .nil passes (aj (pv 0) au)))
   (aq (aX (aG qG (pv 4) aB (aL _)) (ao (aV (bI (aj aB (aj (pv 4) au))))) aP)
   (ao (bO X.made X.cls X.ok O rfl X.m X.b rfl bF))))))),?_⟩
  refine⟨_,rfl,_,rfl,a,"a","",n,rfl,g1,?_⟩
  refine⟨_,rfl,_,_,rfl,rfl,_,rfl,fM (fun h1=>?_) fun h1=>?_⟩
  ·have h1:0≤eY a "a" "" n:=js h1
   exact⟨_,rfl,(by show 2≤sizeLine;decide),lQ (k [1,eY a "a" "" n] (by unfold jB;rw[jI h1]))⟩
  have h1:¬0≤eY a "a" "" n:=fun z=>h1 (i8 z)
  refine⟨_,rfl,a,"g","",64,rfl,g2,?_⟩
  refine⟨_,rfl,_,_,rfl,rfl,_,rfl,fM (fun h2=>?_) fun h2=>?_⟩
  ·have h2:0≤eY a "g" "" 64:=js h2
   exact⟨_,rfl,(by show 3≤sizeLine;decide),lQ (k [8,eY a "g" "" 64,0] (by unfold jB;rw[i9 h1,jI h2]))⟩
  have h2:¬0≤eY a "g" "" 64:=fun z=>h2 (i8 z)
  refine⟨_,rfl,a,rfl,g4,?_⟩
  refine⟨_,rfl,_,_,rfl,rfl,_,rfl,fM (fun j=>?_) fun j=>?_⟩
  ·have j:0≤j7 a:=js j
   exact⟨_,rfl,(by show 2≤sizeLine;decide),lQ (k [2,j7 a] (by unfold jB;rw[i9 h1,i9 h2,jI j]))⟩
  have j:¬0≤j7 a:=fun z=>j (i8 z)
  have bad:bz Cx (-8) H E:=kr (by unfold jB;rw[i9 h1,i9 h2,i9 j])
  exact fun e d H' s' x1 x2=>bad e d H' s' x1 x2
theorem uh:aK ["name","count","formula","table"] ["name","count"] (aD oR):=⟨rfl,rfl,rfl,by decide +kernel,rfl,by decide +kernel,by decide +kernel⟩
theorem GQ{f U Cx fI:Addr}{fd O dI:FuncData}(F:Fn K mg "called_name_instruction" oR f fd ["name","count"])(D:Fn K mg "number_within" jf U O ["name","head","tail","count"])(Y:aF P w K mg base (aW P w) 1 U O ["name","head","tail","count"] jO)
  (X:XC P w K mg base "WrongName" Cx fI dI (-8)) (R:CR K mg):aF P w K mg base (aW P w) 4 f fd ["name","count"] (uc Cx):=by
 refine d9 F.F uh (fun vs H Q E h=>?_) (fun cdv A outer s H vs Q E S h=>?_)
 ·obtain⟨_,_,rfl,_⟩:=h
  rfl
 ·obtain⟨a,n,rfl,J,k,L⟩:=h
  unfold gj at J
  simp only[h9]at J
  obtain⟨g1,g2,g3,Z⟩:=J
  have G:bG 1 _:=S.mono (by omega)
  refine⟨_,aq (bu (i:=2) uh.nd rfl (Or.inl rfl) (a_ Y G rfl D.m D.F.kp D.b .nil passes (aj (pv 0) (aj bA (aj bA (aj (bw rfl R.FO) au))))))
   (aq (aX (PW.pt (jW (aG qG (pv 2) aB (aL _)) (gQ (aG nj (pv 1) (bw rfl R.MA) (aL _))))) (ao (aV (bI (aj aB (aj (pv 2) (aj (pv 1) au)))))) aP)
   (aq (bu (i:=3) uh.nd rfl (Or.inl rfl) (a_ Y G rfl D.m D.F.kp D.b .nil passes (aj (pv 0) (aj bA (aj bA (aj (bw rfl R.TA) au))))))
   (aq (aX (PW.pt (jW (aG qG (pv 3) aB (aL _)) (gQ (aG cz (pv 1) aB (aL _))))) (ao (aV (bI (aj aB (aj (pv 3) au))))) aP)
   (ao (bO X.made X.cls X.ok S rfl X.m X.b rfl bF))))),?_⟩
  refine⟨_,rfl,a,"g","",64,rfl,g2,?_⟩
  by_cases h1:0≤eY a "g" "" 64∧n≤8
  ·refine⟨_,rfl,_,_,rfl,rfl,_,rfl,fM (fun j=>?_) fun j=>absurd (i8 h1.1) j⟩
   refine⟨_,rfl,_,_,rfl,rfl,_,rfl,fM (fun z=>?_) fun z=>absurd (i8 h1.2) z⟩
   exact⟨_,rfl,_,rfl,(by show 3≤sizeLine;decide),lQ (k [8,eY a "g" "" 64,n] (by unfold dZ;rw[jI h1]))⟩
  ·refine⟨_,rfl,_,_,rfl,rfl,_,rfl,fM (fun j=>?_) fun j=>aQ ?_⟩
   ·refine⟨_,rfl,_,_,rfl,rfl,_,rfl,fM (fun z=>absurd ⟨js j,js z⟩ h1) fun z=>?_⟩
    refine⟨_,rfl,a,"t","",64,rfl,g3,?_⟩
    by_cases h2:0≤eY a "t" "" 64∧n=1
    ·refine⟨_,rfl,_,_,rfl,rfl,_,rfl,fM (fun j=>?_) fun j=>absurd (i8 h2.1) j⟩
     refine⟨_,rfl,rfl,_,rfl,fM (fun z=>?_) fun z=>absurd (i8 (by rw[h2.2])) z⟩
     exact⟨_,rfl,(by show 2≤sizeLine;decide),lQ (k [7,eY a "t" "" 64] (by unfold dZ;rw[i9 h1,jI h2]))⟩
    ·have bad:bz Cx (-8) H E:=L (by unfold dZ;rw[i9 h1,i9 h2])
     refine⟨_,rfl,_,_,rfl,rfl,_,rfl,fM (fun j=>?_) fun j=>aQ (fun e d H' s' x1 x2=>bad e d H' s' x1 x2)⟩
     exact⟨_,rfl,rfl,_,rfl,fM (fun z=>absurd ⟨js j,V.int.inj (js z)⟩ h2) fun z=>fun e d H' s' x1 x2=>bad e d H' s' x1 x2⟩
   ·refine⟨_,rfl,a,"t","",64,rfl,g3,?_⟩
    by_cases h2:0≤eY a "t" "" 64∧n=1
    ·refine⟨_,rfl,_,_,rfl,rfl,_,rfl,fM (fun j=>?_) fun j=>absurd (i8 h2.1) j⟩
     refine⟨_,rfl,rfl,_,rfl,fM (fun z=>?_) fun z=>absurd (i8 (by rw[h2.2])) z⟩
     exact⟨_,rfl,(by show 2≤sizeLine;decide),lQ (k [7,eY a "t" "" 64] (by unfold dZ;rw[i9 h1,jI h2]))⟩
    ·have bad:bz Cx (-8) H E:=L (by unfold dZ;rw[i9 h1,i9 h2])
     refine⟨_,rfl,_,_,rfl,rfl,_,rfl,fM (fun j=>?_) fun j=>aQ (fun e d H' s' x1 x2=>bad e d H' s' x1 x2)⟩
     exact⟨_,rfl,rfl,_,rfl,fM (fun z=>absurd ⟨js j,V.int.inj (js z)⟩ h2) fun z=>fun e d H' s' x1 x2=>bad e d H' s' x1 x2⟩
end
end SB
end
section
set_option maxRecDepth 10000
namespace MX
open Vbdeaa (Exp Exps Un Bin Ins Code Text)
open Vbdeam (plain orParts andParts ifParts size sizeAll joinBest argName)
inductive QT (n:Nat):Text→Prop
 | arg {i:Nat}:i<n→QT n (argName i)
 | read {k:Nat} {t:Text}:Vbdeam.readName k=some t→QT n t
 | form {f:Nat}:f<64→QT n (Vbdeam.nameOf 11 f)
inductive S_:Text→Nat→Prop
 | form {f m:Nat}:f<64→m≤8→S_ (Vbdeam.nameOf 11 f) m
 | table {t:Nat}:t<64→S_ (Vbdeam.nameOf 10 t) 1
mutual
noncomputable def Kn(n:Nat):Exp→Prop
 | .num _=>True
 | .name t=>QT n t
 | .un _ a=>Kn n a
 | .bin _ a b=>Kn n a∧Kn n b
 | .and a b=>Kn n a∧Kn n b
 | .or a b=>Kn n a∧Kn n b
 | .cond c a b=>Kn n c∧Kn n a∧Kn n b
 | .best _ l=>Qx n l
 | .use t l=>S_ t l.length∧Qx n l
noncomputable def Qx(n:Nat):Exps→Prop
 | .nil=>True
 | .cons e l=>Kn n e∧Qx n l
end
end MX
end
section
namespace SB
open PySem PySem.Spec PyProof.Rows L2 XL
open Vbdeaa (Text Exp Exps Un Bin Ins)
variable {P:Program} {w:World} {K:PySem.W.Frag} {mg:Str→Option Value} {base:Heap}
noncomputable def G5(a:Str):Bool:=!(HD a "a" "" && Txt.isdigit (jL a "a" ""))
theorem xG{a:Str}(h:G5 a=true)(c:Int):¬0≤eY a "a" "" c:=by
 unfold G5 at h
 unfold eY
 cases h1:HD a "a" "" with
 | false=>rw[i9 (by simp)];decide
 | true =>
  rw[h1]at h
  rw[jI rfl]
  cases h2:Txt.isdigit (jL a "a" "")with
  | false=>rw[i9 (by simp)];decide
  | true=>rw[h2]at h;cases h
theorem Mz:((List.range 9).all fun n=>(List.range n).all fun i=>gj (bD (Vbdeam.argName i))&&decide (eY (bD (Vbdeam.argName i)) "a" "" (n:Nat)=((i:Nat):Int)))=true:=by decide +kernel
noncomputable def yR(k:Nat):Bool:=(Vbdeam.readName k).all fun t=>gj (bD t)&&(G5 (bD t)&&(decide (¬0≤eY (bD t) "g" "" 64)&&decide (j7 (bD t)=((k:Nat):Int))))
theorem Gk:((List.range 960).all yR)=true:=by decide +kernel
theorem Hi:((List.range 64).all fun f=>gj (bD (Vbdeam.nameOf 11 f))&&(G5 (bD (Vbdeam.nameOf 11 f))&&decide (eY (bD (Vbdeam.nameOf 11 f)) "g" "" 64=((f:Nat):Int))))=true:=by decide +kernel
theorem Ac:((List.range 64).all fun f=>gj (bD (Vbdeam.nameOf 10 f))&&(decide (¬0≤eY (bD (Vbdeam.nameOf 10 f)) "g" "" 64)&&decide (eY (bD (Vbdeam.nameOf 10 f)) "t" "" 64=((f:Nat):Int))))=true:=by decide +kernel
theorem pG{n i:Nat}(j:n≤8)(hi:i<n):gj (bD (Vbdeam.argName i))=true∧eY (bD (Vbdeam.argName i)) "a" "" (n:Nat)=(i:Int):=by
 have:=j5.mp (j5.mp Mz n (j'.mpr (by omega))) i (j'.mpr hi)
 rw[h9]at this
 exact⟨this.1,js this.2⟩
theorem pX{k:Nat}{t:Text}(h:Vbdeam.readName k=some t):gj (bD t)=true∧G5 (bD t)=true∧(¬0≤eY (bD t) "g" "" 64)∧j7 (bD t)=(k:Int):=by
 by_cases j:k<960
 ·have:=j5.mp Gk k (j'.mpr j)
  unfold yR at this
  rw[h]at this
  simp only[Option.all_some,h9,jv]at this
  exact this
 ·rw[jh (by omega)]at h
  cases h
theorem lZ{f:Nat}(h:f<64):gj (bD (Vbdeam.nameOf 11 f))=true∧G5 (bD (Vbdeam.nameOf 11 f))=true∧eY (bD (Vbdeam.nameOf 11 f)) "g" "" 64=(f:Int):=by
 have:=j5.mp Hi f (j'.mpr h)
 simp only[h9,jv]at this
 exact this
theorem nM{f:Nat}(h:f<64):gj (bD (Vbdeam.nameOf 10 f))=true∧(¬0≤eY (bD (Vbdeam.nameOf 10 f)) "g" "" 64)∧eY (bD (Vbdeam.nameOf 10 f)) "t" "" 64=(f:Int):=by
 have:=j5.mp Ac f (j'.mpr h)
 simp only[h9,jv]at this
 exact this
theorem tE{α:Type}{p:α→Bool}{l:List α}{x:α}(hx:x∈l)(j:p x=true):∃y,l.find? p=some y∧y∈l∧p y=true:=by
 cases h:l.find? p with
 | none=>exact absurd j (List.find?_eq_none.mp h x hx)
 | some y=>exact⟨y,rfl,List.mem_of_find?_eq_some h,List.find?_some h⟩
theorem tD{α:Type}{p:α→Bool}{l:List α}(h:∀x∈l,p x=true→False):l.find? p=none:=List.find?_eq_none.mpr fun x hx j=>h x hx j
theorem Ef{t:Text}{f:Nat}(D:f<64)(h:Vbdeam.nameOf 11 f=t):∃j,Vbdeam.numberIn "g" t=some j∧j<64∧Vbdeam.nameOf 11 j=t:=by
 obtain⟨y,h1,h2,z⟩:=tE (p:=fun i=>Vbdeam.made "g" i==t) (l:=List.range 64) (x:=f) (j'.mpr D) (beq_iff_eq.mpr h)
 exact⟨y,h1,j'.mp h2,beq_iff_eq.mp z⟩
theorem QL{t:Text}{f:Nat}(D:f<64)(h:Vbdeam.nameOf 10 f=t):∃j,Vbdeam.numberIn "t" t=some j∧j<64∧Vbdeam.nameOf 10 j=t:=by
 obtain⟨y,h1,h2,z⟩:=tE (p:=fun i=>Vbdeam.made "t" i==t) (l:=List.range 64) (x:=f) (j'.mpr D) (beq_iff_eq.mpr h)
 exact⟨y,h1,j'.mp h2,beq_iff_eq.mp z⟩
theorem wj{n:Nat}{t:Text}(L:n≤8)(h:MX.QT n t):gj (bD t)=true∧∃i,Vbdeam.codeOf n (.name t)=[i]∧jB (n:Nat) (bD t)=some i.told:=by
 cases h with
 | @arg i hi =>
  refine⟨(pG L hi).1,?_⟩
  obtain⟨j,h1,h2,S⟩:=tE (p:=fun j=>Vbdeam.argName j==Vbdeam.argName i) (l:=List.range n) (x:=i) (j'.mpr hi) (beq_iff_eq.mpr rfl)
  have D:=(pG L (j'.mp h2)).2
  rw[beq_iff_eq.mp S]at D
  refine⟨.arg j,?_,?_⟩
  ·show(match(List.range n).find? (fun j=>Vbdeam.argName j==Vbdeam.argName i)with | some i=>_ | none=>_)=_
   rw[h1]
  ·unfold jB
   rw[D,jI (by omega)]
   rfl
 | @read k _ F =>
  obtain⟨g1,g2,g3,g4⟩:=pX F
  refine⟨g1,?_⟩
  have h0:(List.range n).find? (fun j=>Vbdeam.argName j==t)=none:=tD fun j D G=>by
   have:=(pG L (j'.mp D)).2
   rw[beq_iff_eq.mp G]at this
   exact xG g2 n (by rw[this];omega)
  have O:k<960:=by
   apply Classical.byContradiction
   intro z
   rw[jh (by omega)]at F
   cases F
  obtain⟨k',h1,h2,S⟩:=tE (p:=fun k=>Vbdeam.readName k==some t) (l:=Vbdeam.READNUMBERS) (x:=k) (by unfold Vbdeam.READNUMBERS;exact List.mem_filter.mpr ⟨j'.mpr O,by rw[F];rfl⟩) (beq_iff_eq.mpr F)
  have U:=(pX (beq_iff_eq.mp S)).2.2.2
  refine⟨.var k',?_,?_⟩
  ·show(match(List.range n).find? (fun j=>Vbdeam.argName j==t)with | some i=>_ | none=>match Vbdeam.READNUMBERS.find? (fun k=>Vbdeam.readName k==some t)with | some k=>_ | none=>_)=_
   rw[h0,h1]
  ·unfold jB
   rw[i9 (xG g2 n),i9 g3,U,jI (by omega)]
   rfl
 | @form f Y =>
  obtain⟨g1,g2,g3⟩:=lZ Y
  refine⟨g1,?_⟩
  have h0:(List.range n).find? (fun j=>Vbdeam.argName j==Vbdeam.nameOf 11 f)=none:=tD fun j D G=>by
   have:=(pG L (j'.mp D)).2
   rw[beq_iff_eq.mp G]at this
   exact xG g2 n (by rw[this];omega)
  have h1:Vbdeam.READNUMBERS.find? (fun k=>Vbdeam.readName k==some (Vbdeam.nameOf 11 f))=none:=tD fun k F G=>by
   have:=(pX (beq_iff_eq.mp G)).2.2.1
   rw[g3]at this
   omega
  obtain⟨Z,e1,e2,e3⟩:=Ef Y rfl
  have J:=(lZ e2).2.2
  rw[e3]at J
  refine⟨.call Z 0,?_,?_⟩
  ·show(match(List.range n).find? (fun j=>Vbdeam.argName j==Vbdeam.nameOf 11 f)with | some i=>[Ins.arg i] | none=>match Vbdeam.READNUMBERS.find? (fun k=>Vbdeam.readName k==some (Vbdeam.nameOf 11 f))with | some k=>[Ins.var k] | none=>[Ins.call ((Vbdeam.numberIn "g" (Vbdeam.nameOf 11 f)).getD 0) 0])=_
   rw[h0,h1,e1]
   rfl
  ·unfold jB
   rw[i9 (xG g2 n),J,jI (by omega)]
   rfl
theorem qT{n:Nat}{t:Text}{l:Exps}(h:MX.S_ t l.length):gj (bD t)=true∧∃i,Vbdeam.codeOf n (.use t l)=Vbdeam.codesOf n l++[i]∧dZ (l.length:Nat) (bD t)=some i.told:=by
 generalize L:l.length=m at h
 cases h with
 | @form f _ G S =>
  obtain⟨g1,g2,g3⟩:=lZ G
  refine⟨g1,?_⟩
  have h0:Vbdeam.numberIn "t" (Vbdeam.nameOf 11 f)=none:=tD fun j U O=>by
   have:=(nM (j'.mp U)).2.1
   rw[show Vbdeam.nameOf 10 j=Vbdeam.nameOf 11 f from beq_iff_eq.mp O,g3]at this
   omega
  obtain⟨F,e1,e2,e3⟩:=Ef G rfl
  have D:=(lZ e2).2.2
  rw[e3]at D
  refine⟨.call F l.length,?_,?_⟩
  ·show Vbdeam.codesOf n l++(match Vbdeam.numberIn "t" (Vbdeam.nameOf 11 f)with | some t=>[Ins.table t] | none=>[Ins.call ((Vbdeam.numberIn "g" (Vbdeam.nameOf 11 f)).getD 0) l.length])=_
   rw[h0,e1]
   rfl
  ·unfold dZ
   rw[D,jI ⟨by omega,by omega⟩,L]
   rfl
 | @table k J =>
  obtain⟨g1,g2,g3⟩:=nM J
  refine⟨g1,?_⟩
  obtain⟨F,e1,e2,e3⟩:=QL J rfl
  have D:=(nM e2).2.2
  rw[e3]at D
  refine⟨.table F,?_,?_⟩
  ·show Vbdeam.codesOf n l++(match Vbdeam.numberIn "t" (Vbdeam.nameOf 10 k)with | some t=>[Ins.table t] | none=>[Ins.call ((Vbdeam.numberIn "g" (Vbdeam.nameOf 10 k)).getD 0) l.length])=_
   rw[e1]
  ·unfold dZ
   rw[i9 (fun z=>g2 z.1),D,jI ⟨by omega,rfl⟩]
   rfl
end SB
end
section
namespace SB
open PySem PySem.Spec PyProof.Rows L2 XL
open Vbdeaa (Text Exp Exps Un Bin Ins)
open TL (tl)
open PySem.NumText (AllDigits digitsVal)
variable {P:Program} {w:World} {K:PySem.W.Frag} {mg:Str→Option Value} {base:Heap}
noncomputable def HB(t:Text):Prop:=t.length≤24∧∀c∈t,(48≤c∧c≤57)∨(65≤c∧c≤90)∨c=95∨(97≤c∧c≤122)∨c=46
theorem Cy:((List.range 128).all fun c=>Unicode.isDigit c==decide (48≤c∧c≤57))=true:=by decide +kernel
theorem Ht{c:Nat}(h:c<128)(hd:Unicode.isDigit c=true):48≤c∧c≤57:=by
 have:=j5.mp Cy c (j'.mpr h)
 rw[beq_iff_eq,hd]at this
 exact js this.symm
theorem iZ(t:Text):tl (bD t)=t.map Int.toNat:=by unfold bD;exact TL.Tw _
theorem Qs{t:Text}(h:HB t):∀c∈tl (bD t),c<128:=by
 intro c j
 rw[iZ]at j
 obtain⟨d,hd,rfl⟩:=List.mem_map.mp j
 have:=h.2 d hd
 omega
theorem h_(a:Str):(tl a).length=a.length:=Array.length_toList
theorem Qn(z:Str)(i j:Nat)(hi:i≤z.length)(D:j≤z.length):tl (Hm z (some (i:Int)) (some (j:Int)))=((tl z).drop i).take (j-i):=by
 unfold Hm
 rw[HT.oN,HT.oN,Nat.min_eq_left hi,Nat.min_eq_left D]
theorem H_{a h t:Str}(h1:h.length≤a.length)(h2:t.length≤a.length):tl (jL a h t)=((tl a).drop h.length).take (a.length-t.length-h.length):=by
 unfold jL
 rw[show(((a.length:Nat):Int)-(t.length:Nat))=((a.length-t.length:Nat):Int) by omega,Qn a _ _ h1 (by omega)]
theorem yt{a h t:Str}(z:HD a h t=true)(hd:Txt.isdigit (jL a h t)=true):tl a=tl h++tl (jL a h t)++tl t:=by
 unfold HD Txt.startswith Txt.endswith at z
 simp only[h9,jv,Nat.zero_add,PySem.StrLaws.subAt_eq,beq_iff_eq]at z
 obtain⟨⟨F,J⟩,G,L⟩:=z
 rw[H_ F G]
 have j:=h_ a
 unfold Txt.isdigit at hd
 rw[h9,jv,←h_,H_ F G,ii,ke]at hd
 have O:h.length<a.length-t.length:=by omega
 have e1:tl h=(tl a).take h.length:=by
  show h.cps.toList=a.cps.toList.take _
  rw[←J];rfl
 have e2:tl t=(tl a).drop (a.length-t.length):=by
  show t.cps.toList=a.cps.toList.drop _
  rw[←L]
  have D:a.cps.toList.length=a.length:=j
  exact List.take_of_length_le (l:=a.cps.toList.drop (a.length-t.length)) (i:=t.length) (by rw[ke];omega)
 rw[e1,e2]
 have e3:((tl a).drop h.length).take (a.length-t.length-h.length)++(tl a).drop (a.length-t.length)=(tl a).drop h.length:=by
  rw[show(tl a).drop (a.length-t.length)=((tl a).drop h.length).drop (a.length-t.length-h.length) by rw[List.drop_drop];congr 1;omega]
  exact List.take_append_drop _ _
 rw[ij,e3,List.take_append_drop]
theorem Tr{a h t:Str}{c:Int}(j:0≤eY a h t c):tl a=tl h++tl (vf (eY a h t c))++tl t∧eY a h t c<c:=by
 unfold eY at j ⊢
 cases h1:HD a h t with
 | false=>rw[h1]at j;exact absurd (show(0:Int)≤-1 from j) (by decide)
 | true =>
  rw[h1]at j
  rw[jI rfl]at j ⊢
  cases h2:Txt.isdigit (jL a h t)with
  | false=>rw[h2]at j;exact absurd (show(0:Int)≤-1 from j) (by decide)
  | true =>
   rw[h2]at j
   rw[jI rfl]at j ⊢
   cases F:PySem.intText? (jL a h t)with
   | none=>rw[F]at j;exact absurd (show(0:Int)≤-1 from j) (by decide)
   | some m =>
    rw[F]at j
    simp only at j ⊢
    by_cases z:vf m=jL a h t
    ·rw[jI z]at j ⊢
     by_cases D:c≤m
     ·rw[jI D]at j;exact absurd j (by decide)
     ·rw[i9 D]at j ⊢
      rw[z]
      exact⟨yt h1 h2,by omega⟩
    ·rw[i9 z]at j;exact absurd j (by decide)
theorem ph:∀(j:List Nat)(m:Nat),(∀c∈j,48≤c∧c≤57)→j.foldl (fun acc c=>acc*10+(c-48)) m<(m+1)*10 ^ j.length
 | [],m,_=>by simp
 | c::r,m,h=>by
  have h1:=h c b'
  have:=ph r (m*10+(c-48)) fun d hd=>h d (am _ hd)
  rw[List.foldl_cons,cr,Nat.pow_succ]
  refine ib this ?_
  rw[Nat.mul_comm (10 ^ r.length) 10,←Nat.mul_assoc]
  exact Nat.mul_le_mul_right _ (by omega)
theorem rQ{t:Text}{h u:Str}(F:HB t)(O:h.length≤100)(J:u.length≤100):Nh (bD t) h u=true:=by
 have S:(bD t).length=t.length:=by rw[←h_,iZ,ap]
 have:=F.1
 unfold Nh
 rw[i8 (show(bD t).length≤100 by omega),i8 O,i8 J,Bool.true_and,Bool.true_and,Bool.true_and]
 cases h1:HD (bD t) h u with
 | false=>rfl
 | true =>
  cases h2:Txt.isdigit (jL (bD t) h u)with
  | false=>rfl
  | true =>
   have L:=yt h1 h2
   have low:∀c∈tl (jL (bD t) h u),c<128:=fun c j=>Qs F c (by rw[L];simp[j])
   unfold Txt.isdigit at h2
   rw[h9,jv]at h2
   have G:AllDigits (jL (bD t) h u).cps.toList:=fun c j=>Ht (low c j) (by
    have:=Array.all_eq_true'.mp h2.2 c (by simpa using j)
    exact this)
   have ne:(jL (bD t) h u).cps.toList≠[]:=fun z=>by
    have:=h_ (jL (bD t) h u)
    have e:tl (jL (bD t) h u)=[]:=z
    rw[e]at this
    simp at this
    omega
   have D:(jL (bD t) h u).length≤24:=ip (kW _ _ _) (by omega)
   rw[intText_digits G ne (by omega)]
   simp only[Bool.and_true,Bool.not_true,Bool.false_or,jv]
   have:=ph (jL (bD t) h u).cps.toList 0 G
   have e:digitsVal (jL (bD t) h u).cps.toList=(jL (bD t) h u).cps.toList.foldl (fun acc c=>acc*10+(c-48)) 0:=rfl
   rw[Int.natAbs_natCast,e]
   refine ib this ?_
   have e2:(jL (bD t) h u).cps.toList.length=(jL (bD t) h u).length:=h_ _
   rw[e2,Nat.zero_add,Nat.one_mul]
   refine ip (Nat.pow_le_pow_right (by decide) D) ?_
   exact ip (show 10 ^ 24≤2 ^ 80 by decide) (Nat.pow_le_pow_right (by decide) (by decide))
theorem vM{t:Text}(j:HB t):gj (bD t)=true:=by
 unfold gj R8
 rw[rQ j (by decide) (by decide),rQ j (by decide) (by decide),rQ j (by decide) (by decide),Bool.true_and,Bool.true_and,Bool.true_and,j5]
 intro r D
 have z:ROWS.all (fun r=>decide (r.1.length≤100)&&decide (r.2.1.length≤100))=true:=by decide +kernel
 have:=j5.mp z r D
 rw[h9,jv,jv]at this
 exact rQ j this.1 this.2
noncomputable def Do(a:Str):Text:=(tl a).map fun(c:Nat)=>(c:Int)
theorem I_{t:Text}(h:∀c∈t,0≤c):Do (bD t)=t:=by
 unfold Do
 rw[iZ,List.map_map]
 induction t with
 | nil=>rfl
 | cons c r j =>
  rw[i4,j fun d hd=>h d (am _ hd)]
  congr 1
  exact Int.toNat_of_nonneg (h c b')
end SB
end
section
namespace SB
open PySem PySem.Spec PyProof.Rows L2 XL
open Vbdeaa (Text Exp Exps Un Bin Ins)
open TL (tl)
variable {P:Program} {w:World} {K:PySem.W.Frag} {mg:Str→Option Value} {base:Heap}
theorem Nz(i:Nat):Do (vf (i:Int))=Vbdeaa.decimal i:=by
 unfold Do vf Vbdeaa.decimal
 rw[m8]
 rfl
theorem Mw{t:Text}(h:HB t):∀c∈t,0≤c:=fun c j=>by have:=h.2 c j;omega
theorem yJ{t:Text}{h u:Str}{c:Int}(D:HB t)(z:0≤eY (bD t) h u c):∃m:Nat,eY (bD t) h u c=(m:Nat)∧(m:Int)<c∧t=Do h++Vbdeaa.decimal m++Do u:=by
 obtain⟨m,j⟩:=Int.eq_ofNat_of_zero_le z
 obtain⟨h1,h2⟩:=Tr z
 rw[j]at h1 h2
 refine⟨m,j,h2,?_⟩
 have:=I_ (Mw D)
 rw[←this,←Nz]
 unfold Do
 rw[h1,ka,ka]
theorem Gj:(ROWS.all fun r=>(List.range r.2.2.2.toNat).all fun m=>Vbdeam.readName (r.2.2.1.toNat+m)==some (Do r.1++Vbdeaa.decimal m++Do r.2.1))=true:=by decide +kernel
theorem CZ:(ALONE.all fun p=>Vbdeam.readName p.2.toNat==some (Do p.1))=true:=by decide +kernel
theorem Ld{t:Text}(z:HB t)(h:0≤j7 (bD t)):∃k,Vbdeam.readName k=some t:=by
 unfold j7 at h
 cases h1:ALONE.find? (fun p=>decide (p.1=bD t))with
 | some p =>
  have j:=List.mem_of_find?_eq_some h1
  have D:p.1=bD t:=js (List.find?_some (p:=fun p:Str×Int=>decide (p.1=bD t)) h1)
  have:=j5.mp CZ p j
  rw[beq_iff_eq,D,I_ (Mw z)]at this
  exact⟨_,this⟩
 | none =>
  rw[h1]at h
  cases h2:ROWS.find? (DK (bD t))with
  | none=>rw[h2]at h;exact absurd (show(0:Int)≤-1 from h) (by decide)
  | some r =>
   have j:=List.mem_of_find?_eq_some h2
   have F:0≤eY (bD t) r.1 r.2.1 r.2.2.2:=js (List.find?_some (p:=DK (bD t)) h2)
   obtain⟨m,_,e2,e3⟩:=yJ z F
   have:=j5.mp (j5.mp Gj r j) m (j'.mpr (by omega))
   rw[beq_iff_eq,←e3]at this
   exact⟨_,this⟩
theorem sY(s:String)(i:Nat):Vbdeam.made s i=Do (Str.ofString s)++Vbdeaa.decimal i++Do "":=by
 unfold Vbdeam.made Do
 rw[m8]
 show _=_++[]
 rw[i6]
theorem Cv{n:Nat}{t:Text}(j:HB t){row:List Int}(h:jB (n:Nat) (bD t)=some row):MX.QT n t:=by
 unfold jB at h
 by_cases h1:0≤eY (bD t) "a" "" (n:Nat)
 ·obtain⟨m,_,e2,e3⟩:=yJ j h1
  have:t=Vbdeam.argName m:=by rw[e3];exact(sY "a" m).symm
  rw[this]
  exact .arg (by omega)
 ·rw[i9 h1]at h
  by_cases h2:0≤eY (bD t) "g" "" 64
  ·obtain⟨m,_,e2,e3⟩:=yJ j h2
   have:t=Vbdeam.nameOf 11 m:=by rw[e3];exact(sY "g" m).symm
   rw[this]
   exact .form (by omega)
  ·rw[i9 h2]at h
   by_cases z:0≤j7 (bD t)
   ·obtain⟨k,D⟩:=Ld j z
    exact .read D
   ·rw[i9 z]at h
    cases h
theorem xY{m:Nat}{t:Text}(j:HB t){row:List Int}(h:dZ (m:Nat) (bD t)=some row):MX.S_ t m:=by
 unfold dZ at h
 by_cases h1:0≤eY (bD t) "g" "" 64∧(m:Int)≤8
 ·obtain⟨i,_,e2,e3⟩:=yJ j h1.1
  have:t=Vbdeam.nameOf 11 i:=by rw[e3];exact(sY "g" i).symm
  rw[this]
  exact .form (by omega) (by omega)
 ·rw[i9 h1]at h
  by_cases h2:0≤eY (bD t) "t" "" 64∧(m:Int)=1
  ·obtain⟨i,_,e2,e3⟩:=yJ j h2.1
   have:t=Vbdeam.nameOf 10 i:=by rw[e3];exact(sY "t" i).symm
   have z:m=1:=by omega
   rw[this,z]
   exact .table (by omega)
  ·rw[i9 h2]at h
   cases h
theorem Pu{n:Nat}{t:Text}:MX.QT n t↔Vbdeam.known n (.name t)=true:=by
 unfold Vbdeam.known
 rw[Bool.or_eq_true,Bool.or_eq_true,List.any_eq_true,List.any_eq_true]
 constructor
 ·rintro(⟨hi⟩ | ⟨j⟩ | ⟨D⟩)
  ·exact .inl ⟨_,j'.mpr ‹_›,beq_iff_eq.mpr rfl⟩
  ·rename_i k
   refine .inr (.inl ⟨k,List.mem_filter.mpr ⟨j'.mpr ?_,by rw[j];rfl⟩,beq_iff_eq.mpr j⟩)
   apply Classical.byContradiction
   intro z
   rw[jh (by omega)]at j
   cases j
  ·rename_i f
   obtain⟨F,e1,_⟩:=Ef ‹f<64› rfl
   exact .inr (.inr (by rw[e1];rfl))
 ·rintro(⟨i,hi,h⟩ | ⟨k,j,h⟩ | h)
  ·rw[←beq_iff_eq.mp h]
   exact .arg (j'.mp hi)
  ·exact .read (beq_iff_eq.mp h)
  ·obtain⟨f,D⟩:=Option.isSome_iff_exists.mp h
   have h1:=j'.mp (List.mem_of_find?_eq_some D)
   have h2:Vbdeam.made "g" f=t:=beq_iff_eq.mp (List.find?_some (p:=fun i=>Vbdeam.made "g" i==t) D)
   rw[←h2]
   exact .form h1
theorem Pr{t:Text}{m:Nat}:MX.S_ t m↔(((Vbdeam.numberIn "t" t).isSome&&m==1)||((Vbdeam.numberIn "g" t).isSome&&decide (m≤8)))=true:=by
 rw[Bool.or_eq_true,h9,h9,beq_iff_eq,jv]
 constructor
 ·intro h
  cases h with
  | @form f _ j z =>
   obtain⟨D,e1,_⟩:=Ef j rfl
   exact .inr ⟨by rw[e1];rfl,z⟩
  | @table k F =>
   obtain⟨D,e1,_⟩:=QL F rfl
   exact .inl ⟨by rw[e1];rfl,rfl⟩
 ·rintro(⟨h,z⟩ | ⟨h,z⟩)
  ·obtain⟨f,j⟩:=Option.isSome_iff_exists.mp h
   have h1:=j'.mp (List.mem_of_find?_eq_some j)
   have h2:Vbdeam.made "t" f=t:=beq_iff_eq.mp (List.find?_some (p:=fun i=>Vbdeam.made "t" i==t) j)
   rw[←h2,z]
   exact .table h1
  ·obtain⟨f,j⟩:=Option.isSome_iff_exists.mp h
   have h1:=j'.mp (List.mem_of_find?_eq_some j)
   have h2:Vbdeam.made "g" f=t:=beq_iff_eq.mp (List.find?_some (p:=fun i=>Vbdeam.made "g" i==t) j)
   rw[←h2]
   exact .form h1 z
mutual
theorem eX(n:Nat):∀e:Exp,MX.Kn n e↔Vbdeam.known n e=true
 | .num q=>by unfold Vbdeam.known MX.Kn;simp
 | .name t=>Pu
 | .un o a=>eX n a
 | .bin o a b=>by unfold Vbdeam.known MX.Kn;rw[h9,eX n a,eX n b]
 | .and a b=>by unfold Vbdeam.known MX.Kn;rw[h9,eX n a,eX n b]
 | .or a b=>by unfold Vbdeam.known MX.Kn;rw[h9,eX n a,eX n b]
 | .cond c a b=>by unfold Vbdeam.known MX.Kn;rw[h9,h9,eX n c,eX n a,eX n b]
 | .best g l=>xJ n l
 | .use t l=>by unfold Vbdeam.known MX.Kn;rw[h9,←Pr,xJ n l]
theorem xJ(n:Nat):∀l:Exps,MX.Qx n l↔Vbdeam.knownAll n l=true
 | .nil=>by unfold Vbdeam.knownAll MX.Qx;simp
 | .cons e l=>by unfold Vbdeam.knownAll MX.Qx;rw[h9,eX n e,xJ n l]
end
noncomputable def TopK(n:Nat):Exp→Prop
 | .name t=>MX.QT n t
 | .use t l=>MX.S_ t l.length
 | _=>True
noncomputable def Qv:Exp→Prop
 | .name t=>HB t
 | .use t _=>HB t
 | _=>True
theorem Ci(n:Nat):∀l:Exps,MX.Qx n l↔∀e∈tH l,MX.Kn n e
 | .nil=>by simp[MX.Qx,tH]
 | .cons e l=>by
  show MX.Kn n e∧MX.Qx n l↔∀x∈e::tH l,MX.Kn n x
  rw[Ci n l,List.forall_mem_cons]
theorem xH(n:Nat)(e:Exp):MX.Kn n e↔TopK n e∧∀x∈kids e,MX.Kn n x:=by
 cases e with
 | num q=>simp[MX.Kn,TopK,kids]
 | name t=>simp[MX.Kn,TopK,kids]
 | un o a=>simp[MX.Kn,TopK,kids]
 | bin o a b=>simp[MX.Kn,TopK,kids]
 | and a b=>simp[MX.Kn,TopK,kids]
 | or a b=>simp[MX.Kn,TopK,kids]
 | cond c a b=>simp[MX.Kn,TopK,kids]
 | best g l=>simp[MX.Kn,TopK,kids,Ci]
 | use t l=>simp[MX.Kn,TopK,kids,Ci]
inductive gK:Exp→Prop
 | mk {e:Exp}:Qv e→(∀x∈kids e,gK x)→gK e
theorem gK.top{e:Exp}(h:gK e):Qv e:=by cases h;assumption
theorem gK.kid{e x:Exp}(h:gK e)(hx:x∈kids e):gK x:=by
 cases h with
 | mk _ h2=>exact h2 x hx
end SB
end
section
namespace SB
open PySem PySem.Spec PyProof.Rows L2 XL
open Vbdeaa (Text Exp Exps Un Bin Ins)
variable {P:Program} {w:World} {K:PySem.W.Frag} {mg:Str→Option Value} {base:Heap}
noncomputable def zm(n:Nat):Exp→Vbdeaa.Code
 | .num q=>[.push q]
 | .name t=>Vbdeam.codeOf n (.name t)
 | .un o _=>[.un o]
 | .bin o _ _=>[.bin o]
 | .best g l=>List.replicate ((tH l).length-1) (.best g)
 | .use t l=>(Vbdeam.codeOf n (.use t l)).drop (Vbdeam.codesOf n l).length
 | _=>[]
noncomputable def Ru:Exp→Prop
 | .and _ _=>False
 | .or _ _=>False
 | .cond _ _ _=>False
 | _=>True
noncomputable def MT(H:Hp)(Q:VK)(c:Vbdeaa.Code):Prop:=∀l ts H',H l=none→aA H H'→H' l=some (.lst (ts.map V.ref))→cZ H' c ts→l∉ts→Q (.ref l) H'
noncomputable def Am(C Cx:Addr):Sp:=fun vs H Q E=>∃(a:Addr)(e:Exp)(n:Nat),vs=[.ref a,.int n]∧n≤8∧cF C H e a∧Qv e∧Ru e∧(kids e).length≤100000∧(TopK n e→MT H Q (zm n e))∧(¬TopK n e→bz Cx (-8) H E)
noncomputable abbrev yO:Stmt:=top 45
theorem xQ(l:Exps):(tH l).length=l.length:=by
 match l with
 | .nil=>rfl
 | .cons e r=>show(tH r).length+1=r.length+1;rw[xQ r]
theorem j9{H:Hp}{Q:VK}{i:Ins}{row:List Int}(h:MT H Q [i])(hi:i.told=row){H1:Hp}{t:Addr}(F:H t=none)(s1:aA H H1)(h1:H1 t=some (.tup (vI row))):∀l,H1 l=none→Q (.ref l) (L2.upd H1 l (.lst [.ref t])):=fun l D=>by
 have j:t≠l:=fun z=>by rw[z,D]at h1;cases h1
 refine h l [t] _ (same_none s1 D) (s1.trans (aA.upd D)) ak ?_ (by simpa using fun z=>j z.symm)
 refine .cons ?_ .nil
 rw[az j,h1,hi]
theorem Vb(x:V)(xs:List V):nU (x::xs) (some 1) none=xs:=by
 have h1:HT.gf (x::xs).length 0 (some 1)=1:=by
  have:=HT.oN (x::xs).length 0 1
  simp at this
  simpa using this
 have h2:HT.gf (x::xs).length (x::xs).length none=(x::xs).length:=HT.JZ _ _
 unfold nU
 rw[h1,h2]
 simp
theorem zH(xs:List V):nU xs (some 1) none=xs.tail:=by
 cases xs with
 | nil=>rfl
 | cons x xs=>exact Vb x xs
section
theorem Ba:aK ["node","n","part"] ["node","n"] (aD yO):=⟨rfl,rfl,rfl,by decide +kernel,rfl,by decide +kernel,by decide +kernel⟩
theorem OD{f C fB fC Cx:Addr}{fd dB dC:FuncData}(F:Fn K mg "last_instructions" yO f fd ["node","n"])(N:wk K C)(T:CP K mg)(TC:CN K mg)(FB:Fn K mg "bare_name_instruction" yQ fB dB ["name","n"])(GB:aF P w K mg base (aW P w) 4 fB dB ["name","n"] (Ax Cx))
  (FC:Fn K mg "called_name_instruction" oR fC dC ["name","count"]) (ax:aF P w K mg base (aW P w) 4 fC dC ["name","count"] (uc Cx)):aF P w K mg base (aW P w) 5 f fd ["node","n"] (Am C Cx):=by
 refine d9 F.F Ba (fun vs H Q E h=>?_) (fun cdv A outer s H vs Q E hr h=>?_)
 ·obtain⟨_,_,_,rfl,_⟩:=h
  rfl
 ·obtain⟨a,e,n,rfl,ah,hn,Z,ac,aE,k,kr⟩:=h
  obtain⟨dx,D,l,as,h1,hD,hl,hp⟩:=oZ hn
  refine⟨_,aq (aX (aG cz (aJ (pv 0) rfl) (bw rfl T.NUMBER) (aL _)) (ao (aV (bT (aj (bI (aj aB (aj (bZ cX (aJ (pv 0) rfl) aB (fun _ _=>rfl)) (aj (bZ cX (aJ (pv 0) rfl) aB (fun _ _=>rfl)) au)))) au)))) aP)
   (aq (aX (aG cz (aJ (pv 0) rfl) (bw rfl T.NAME) (aL _)) (ao (aV (bT (aj (a_ GB hr rfl FB.m FB.F.kp FB.b .nil passes (aj (aJ (pv 0) rfl) (aj (pv 1) au))) au)))) aP)
   (aq (aX (aG cz (aJ (pv 0) rfl) (bw rfl TC.ONE) (aL _)) (ao (aV (bT (aj (bI (aj aB (aj (aJ (pv 0) rfl) au))) au)))) aP)
   (aq (aX (aG cz (aJ (pv 0) rfl) (bw rfl TC.TWO) (aL _)) (ao (aV (bT (aj (bI (aj aB (aj (aJ (pv 0) rfl) au))) au)))) aP)
   (aq (aX (aG cz (aJ (pv 0) rfl) (bw rfl T.PICK) (aL _)) (ao (aV (yU (own:=[("part",2)]) (te:=Io (aZ (tC (.int 10)) (aZ (Ad K (pP 0) "detail") cY))) rfl Ba.nd (ji (jZ rW (aJ (pv 0) rfl) (gR aB) DQ)) (iW (by kernel_rfl))
     (fun _ _ _ _ _=>by exact cW (i:=2) Ba.nd rfl (Or.inl rfl)) (fun _ _ _ _ _=>by exact lJ) (fun _ _ _ _ _=>by exact bI (aj aB (aj (aJ (pv 0) rfl) au)))))) aP)
   (ao (aV (bT (aj (a_ ax hr rfl FC.m FC.F.kp FC.b .nil passes (aj (aJ (pv 0) rfl) (aj (b7 bJ (by rfl) T.len (by decide +kernel) (aj (aJ (pv 0) rfl) au)) au))) au)))))))),?_⟩
  refine⟨_,rfl,a,C,dx,_,_,rfl,h1,N.cl,N.nF,rfl,rfl,_,rfl,?_⟩
  cases e with
  | num q =>
   obtain⟨t,rfl,ht⟩:=hD
   refine bh ⟨_,rfl,a,C,dx,_,_,rfl,h1,N.cl,N.nD,rfl,t,_,_,_,rfl,rfl,cR.of ht,at_of (j:=0) rfl rfl,_,rfl,a,C,dx,_,_,rfl,h1,N.cl,N.nD,rfl,t,_,_,_,rfl,rfl,cR.of ht,at_of (j:=1) rfl rfl,(by show 3≤sizeLine;decide),fun p G=>⟨(by show 1≤sizeLine;decide),?_⟩⟩
   exact j9 (i:=.push q) (row:=[0,q.1,(q.2:Nat)]) (k trivial) rfl G (aA.upd G) ak
  | name t =>
   obtain rfl:D=.str (bD t):=hD
   have hg:=vM Z
   refine aQ ⟨_,rfl,a,C,dx,_,_,rfl,h1,N.cl,N.nF,rfl,rfl,_,rfl,bh ⟨_,rfl,a,C,dx,_,_,rfl,h1,N.cl,N.nD,rfl,_,rfl,bD t,n,rfl,hg,fun row J t2 H1 af s1 ae=>⟨(by show 1≤sizeLine;decide),?_⟩,fun z=>?_⟩⟩
   ·have O:=Cv Z J
    obtain⟨_,i,hc,hb⟩:=wj ah O
    have k:MT H Q [i]:=by rw[←hc];exact k O
    rw[hb]at J
    exact j9 (i:=i) (row:=row) k (Option.some.inj J) af s1 ae
   ·exact kr fun O=>by
     obtain⟨_,i,hc,hb⟩:=wj ah O
     rw[hb]at z
     cases z
  | un o b =>
   obtain rfl:D=.int (wz o):=hD
   refine aQ ⟨_,rfl,a,C,dx,_,_,rfl,h1,N.cl,N.nF,rfl,rfl,_,rfl,aQ ⟨_,rfl,a,C,dx,_,_,rfl,h1,N.cl,N.nF,rfl,rfl,_,rfl,bh ⟨_,rfl,a,C,dx,_,_,rfl,h1,N.cl,N.nD,rfl,(by show 2≤sizeLine;decide),fun p G=>⟨(by show 1≤sizeLine;decide),?_⟩⟩⟩⟩
   exact j9 (i:=.un o) (row:=[3,(wz o:Nat)]) (k trivial) (by cases o<;>rfl) G (aA.upd G) ak
  | bin o b c =>
   obtain rfl:D=.int (qW o):=hD
   refine aQ ⟨_,rfl,a,C,dx,_,_,rfl,h1,N.cl,N.nF,rfl,rfl,_,rfl,aQ ⟨_,rfl,a,C,dx,_,_,rfl,h1,N.cl,N.nF,rfl,rfl,_,rfl,aQ ⟨_,rfl,a,C,dx,_,_,rfl,h1,N.cl,N.nF,rfl,rfl,_,rfl,bh ⟨_,rfl,a,C,dx,_,_,rfl,h1,N.cl,N.nD,rfl,(by show 2≤sizeLine;decide),fun p G=>⟨(by show 1≤sizeLine;decide),?_⟩⟩⟩⟩⟩
   exact j9 (i:=.bin o) (row:=[4,(qW o:Nat)]) (k trivial) (by cases o<;>rfl) G (aA.upd G) ak
  | and b c=>exact ac.elim
  | or b c=>exact ac.elim
  | cond b c d=>exact ac.elim
  | best g es =>
   obtain rfl:D=.int (if g=true then 1 else 0):=hD
   refine aQ ⟨_,rfl,a,C,dx,_,_,rfl,h1,N.cl,N.nF,rfl,rfl,_,rfl,aQ ⟨_,rfl,a,C,dx,_,_,rfl,h1,N.cl,N.nF,rfl,rfl,_,rfl,aQ ⟨_,rfl,a,C,dx,_,_,rfl,h1,N.cl,N.nF,rfl,rfl,_,rfl,aQ ⟨_,rfl,a,C,dx,_,_,rfl,h1,N.cl,N.nF,rfl,rfl,_,rfl,bh ?_⟩⟩⟩⟩
   have sp:∀p (G:H p=none),aA H (L2.upd H p (.lst (nU (as.map V.ref) (some 1) none))):=fun p G=>aA.upd G
   refine⟨_,rfl,a,C,dx,_,_,rfl,h1,N.cl,N.nP,rfl,1,rfl,l,_,rfl,bV.of hl,fun p G=>⟨p,rfl,⟨_,bV.of ak⟩,fun L hL=>?_⟩⟩
   have s0:=sp p G
   refine lV (K:=K) (a:=p) (xs:=nU (as.map V.ref) (some 1) none) (fun i H'=>aA (L2.upd H p (.lst (nU (as.map V.ref) (some 1) none))) H'∧∃ts:List Addr,H' L=some (.lst (ts.map V.ref))∧cZ H' (List.replicate i (.best g)) ts∧L∉ts) ⟨aA.upd hL,[],ak,.nil,by simp⟩ (fun i H' _ ⟨s1,_⟩=>bV.of (s1 _ _ ak)) ?_ ?_
   ·rintro i y H' hi ⟨s1,ts,S,U,Y⟩
    have al:=s1 _ _ (s0 _ _ h1)
    have ai:ts.length=i:=by rw[←Paired.length U];simp[jU]
    have av:i<100000:=by
     have:=(hZ.mp hi).1
     rw[zH,List.length_tail,ap,←Paired.length hp]at this
     omega
    refine⟨rfl,_,rfl,a,C,dx,_,_,rfl,al,N.cl,N.nD,rfl,(by show 2≤sizeLine;decide),fun t ht=>?_⟩
    have aa:L≠t:=fun z=>by rw[z,ht]at S;cases S
    refine⟨_,by rw[az aa];exact S,by rw[ap,ai];exact ib av (by decide),fun b o q=>?_,ts++[t],by rw[ak,ka];rfl,?_,?_⟩
    ·have aw:b≠L:=fun z=>by rw[z,hL]at q;cases q
     have ar:b≠t:=fun z=>by rw[←z,s1 _ _ q]at ht;cases ht
     rw[az aw,az ar]
     exact s1 _ _ q
    ·rw[List.replicate_succ']
     unfold cZ jU
     rw[ka]
     refine cu (cP U fun row x hx q=>?_) ?_
     ·have aC:x≠L:=fun z=>by rw[z,S]at q;cases q
      have ay:x≠t:=fun z=>by rw[z,ht]at q;cases q
      rw[az aC,az ay]
      exact q
     ·rw[az (Ne.symm aa),ak]
      cases g<;>rfl
    ·rw[List.mem_append,List.mem_singleton]
     exact fun z=>z.elim Y aa
   ·rintro H' ⟨s1,ts,S,U,Y⟩
    refine k trivial L ts H' (same_none s0 hL) (s0.trans s1) S ?_ Y
    have:(nU (as.map V.ref) (some 1) none).length=(tH es).length-1:=by
     rw[zH,List.length_tail,ap,←Paired.length hp]
     rfl
    rw[this]at U
    exact U
  | use t es =>
   obtain rfl:D=.str (bD t):=hD
   have hg:=vM Z
   refine aQ ⟨_,rfl,a,C,dx,_,_,rfl,h1,N.cl,N.nF,rfl,rfl,_,rfl,aQ ⟨_,rfl,a,C,dx,_,_,rfl,h1,N.cl,N.nF,rfl,rfl,_,rfl,aQ ⟨_,rfl,a,C,dx,_,_,rfl,h1,N.cl,N.nF,rfl,rfl,_,rfl,aQ ⟨_,rfl,a,C,dx,_,_,rfl,h1,N.cl,N.nF,rfl,rfl,_,rfl,aQ ?_⟩⟩⟩⟩
   refine⟨_,rfl,a,C,dx,_,_,rfl,h1,N.cl,N.nD,rfl,_,rfl,a,C,dx,_,_,rfl,h1,N.cl,N.nP,rfl,l,_,rfl,.inl (bV.of hl),bD t,(as.map V.ref).length,rfl,hg,fun row J t2 H1 af s1 ae=>⟨(by show 1≤sizeLine;decide),?_⟩,fun z=>?_⟩
   all_goals have ag:((as.map V.ref).length:Nat)=es.length:=by rw[ap,←Paired.length hp];exact xQ es
   ·rw[ag]at J
    have O:=xY Z J
    obtain⟨_,i,hc,hb⟩:=qT (n:=n) (l:=es) O
    have k:MT H Q [i]:=by
     have e1:zm n (.use t es)=[i]:=by
      show(Vbdeam.codeOf n (.use t es)).drop (Vbdeam.codesOf n es).length=_
      rw[hc,List.drop_left]
     rw[←e1];exact k O
    rw[hb]at J
    exact j9 (i:=i) (row:=row) k (Option.some.inj J) af s1 ae
   ·rw[ag]at z
    exact kr fun O=>by
     obtain⟨_,i,hc,hb⟩:=qT (n:=n) (l:=es) O
     rw[hb]at z
     cases z
end
noncomputable def Bp(n:Nat)(sz:List Nat):Exp→List Vbdeaa.Code
 | .and _ _=>[[],[.zero (sz.getD 1 0+2)],[.truth,.jump 1,.push (0,1)]]
 | .or _ _=>[[],[.zero 2,.push (1,1),.jump (sz.getD 1 0+1)],[.truth]]
 | .cond _ _ _=>[[],[.zero (sz.getD 1 0+1)],[.jump (sz.getD 2 0)],[]]
 | e=>List.replicate (kids e).length []++[zm n e]
noncomputable def dw(H:Hp)(c:Vbdeaa.Code)(x:Addr):Prop:=∃ts:List Addr,H x=some (.lst (ts.map V.ref))∧cZ H c ts
theorem dw.same{H H':Hp}{c:Vbdeaa.Code}{x:Addr}(s:aA H H')(h:dw H c x):dw H' c x:=by
 obtain⟨ts,h1,h2⟩:=h
 exact⟨ts,s _ _ h1,h2.same s⟩
noncomputable def Vh(H:Hp)(j:List Vbdeaa.Code)(l:Addr):Prop:=∃ls:List Addr,H l=some (.lst (ls.map V.ref))∧Paired (dw H) j ls
noncomputable def Jg(C Cx:Addr):Sp:=fun vs H Q E=>∃(a sl:Addr)(e:Exp)(sz:List Nat)(n:Nat),vs=[.ref a,.ref sl,.int n]∧n≤8∧cF C H e a∧Qv e∧H sl=some (.lst (sz.map fun(x:Nat)=>V.int x))∧sz.length=(kids e).length∧(kids e).length≤100000 ∧
 (TopK n e→∀l H',H l=none→aA H H'→Vh H' (Bp n sz e) l→Q (.ref l) H')∧(¬TopK n e→bz Cx (-8) H E)
noncomputable abbrev JT:Stmt:=top 44
theorem Bo{X:Cx}{es r:List Expr}{p:Pos}{te:TE}{t:TA}(j:PE X (.List es p) te)(z:PA X r t):PA X (.List es p::r) (aZ te t):=aj j z rfl
theorem Oh{X:Cx}{es r:List Expr}{x:Nat}{p:Pos}{te:TE}{t:TA}(j:PE X (.Tuple es x p) te)(z:PA X r t):PA X (.Tuple es x p::r) (aZ te t):=aj j z rfl
theorem yV{X:Cx}{i:Int}{m:Nat}{r:List Expr}{p:Pos}{t:TA}(j:PA X r t):PA X (.Constant (.int i) m p::r) (aZ (tC (.int i)) t):=aj aB j rfl
theorem V8{X:Cx}{a b:Expr}{o:Operator}{r:List Expr}{p:Pos}{te:TE}{t:TA}(j:PE X (.BinOp a o b p) te)(z:PA X r t):PA X (.BinOp a o b p::r) (aZ te t):=aj j z rfl
theorem V7{X:Cx}{a b:Expr}{r:List Expr}{p:Pos}{te:TE}{t:TA}(j:PE X (.Subscript a b p) te)(z:PA X r t):PA X (.Subscript a b p::r) (aZ te t):=aj j z rfl
noncomputable def Tg(K:PySem.W.Frag)(ts:TE)(i j:Int):TE:=Iv (Bd fun i j=>.int (i+j)) (Iv (Bc K) ts (tC (.int i))) (tC (.int j))
noncomputable def t1(a:TE):TE:=Io (aZ a cY)
noncomputable def t2(a b:TE):TE:=Io (aZ a (aZ b cY))
noncomputable def t3(a b c:TE):TE:=Io (aZ a (aZ b (aZ c cY)))
noncomputable def cI(i:Int):TE:=tC (.int i)
noncomputable def tA(K:PySem.W.Frag)(ts:TE):TE:=fZ (aZ (fZ cY) (aZ (fZ (aZ (t2 (cI 6) (Tg K ts 1 2)) cY)) (aZ (fZ (aZ (t1 (cI 9)) (aZ (t2 (cI 5) (cI 1)) (aZ (t3 (cI 0) (cI 0) (cI 1)) cY)))) cY)))
noncomputable def tO(K:PySem.W.Frag)(ts:TE):TE:=fZ (aZ (fZ cY) (aZ (fZ (aZ (t2 (cI 6) (cI 2)) (aZ (t3 (cI 0) (cI 1) (cI 1)) (aZ (t2 (cI 5) (Tg K ts 1 1)) cY)))) (aZ (fZ (aZ (t1 (cI 9)) cY)) cY)))
noncomputable def tF(K:PySem.W.Frag)(ts:TE):TE:=fZ (aZ (fZ cY) (aZ (fZ (aZ (t2 (cI 6) (Tg K ts 1 1)) cY)) (aZ (fZ (aZ (t2 (cI 5) (Iv (Bc K) ts (tC (.int 2)))) cY)) (aZ (fZ cY) cY))))
section
variable {X:Cx} {sz:Expr} {ts:TE} {k1 k2 k3 k4 k5 k6 k7 k8 k9 x1 x2 x3 x4:Nat} {p0 p1 p2 p3 p4 p5 p6 p7 p8 p9 p10 p11 p12 p13 p14 p15 p16 p17 p18:Pos}
theorem Kw{i j:Int}(z:PE X sz ts):PE X (.BinOp (.Subscript sz (.Constant (.int i) k2 p2) p3) .Add (.Constant (.int j) k3 p4) p5) (Tg X.K ts i j):=dM pZ (bZ dh z aB (fun _ _=>rfl)) aB
theorem QH{i:Int}:PE X (.Tuple [.Constant (.int i) k4 p8] x2 p9) (t1 (cI i)):=bI (yV au)
theorem QG{i j:Int}:PE X (.Tuple [.Constant (.int i) k4 p8,.Constant (.int j) k5 p10] x2 p9) (t2 (cI i) (cI j)):=bI (yV (yV au))
theorem QF{i j m:Int}:PE X (.Tuple [.Constant (.int i) k4 p8,.Constant (.int j) k5 p10,.Constant (.int m) k6 p11] x2 p9) (t3 (cI i) (cI j) (cI m)):=bI (yV (yV (yV au)))
theorem Kv{i:Int}{a b:Expr}{o:Operator}{te:TE}(h:PE X (.BinOp a o b p10) te):PE X (.Tuple [.Constant (.int i) k4 p8,.BinOp a o b p10] x2 p9) (t2 (cI i) te):=bI (yV (V8 h au))
theorem Ur{i:Int}{a b:Expr}{te:TE}(h:PE X (.Subscript a b p10) te):PE X (.Tuple [.Constant (.int i) k4 p8,.Subscript a b p10] x2 p9) (t2 (cI i) te):=bI (yV (V7 h au))
theorem DY:PE X (.List [] p0) (fZ cY):=bT au
theorem DX{a:List Expr}{te:TE}(h:PE X (.Tuple a x1 p1) te):PE X (.List [.Tuple a x1 p1] p0) (fZ (aZ te cY)):=bT (Oh h au)
theorem QJ{a b c:List Expr}{ta tb tc:TE}(j:PE X (.Tuple a x1 p1) ta)(z:PE X (.Tuple b x2 p2) tb)(D:PE X (.Tuple c x3 p3) tc):PE X (.List [.Tuple a x1 p1,.Tuple b x2 p2,.Tuple c x3 p3] p0) (fZ (aZ ta (aZ tb (aZ tc cY)))):=bT (Oh j (Oh z (Oh D au)))
theorem Rz{a b c:List Expr}{ta tb tc:TE}(j:PE X (.List a p1) ta)(z:PE X (.List b p2) tb)(D:PE X (.List c p3) tc):PE X (.List [.List a p1,.List b p2,.List c p3] p0) (fZ (aZ ta (aZ tb (aZ tc cY)))):=bT (Bo j (Bo z (Bo D au)))
theorem Ry{a b c d:List Expr}{ta tb tc td:TE}(j:PE X (.List a p1) ta)(z:PE X (.List b p2) tb)(D:PE X (.List c p3) tc)(hd:PE X (.List d p4) td):PE X (.List [.List a p1,.List b p2,.List c p3,.List d p4] p0) (fZ (aZ ta (aZ tb (aZ tc (aZ td cY))))):=bT (Bo j (Bo z (Bo D (Bo hd au))))
theorem Wy:PE X (.List [.Tuple [.Constant (.int 9) k4 p8] x2 p9,.Tuple [.Constant (.int 5) k5 p10,.Constant (.int 1) k6 p11] x3 p12,.Tuple [.Constant (.int 0) k7 p13,.Constant (.int 0) k8 p14,.Constant (.int 1) k9 p15] x4 p16] p17) (fZ (aZ (t1 (cI 9)) (aZ (t2 (cI 5) (cI 1)) (aZ (t3 (cI 0) (cI 0) (cI 1)) cY)))):=QJ QH QG QF
theorem Wx(j:PE X sz ts):PE X (.List [.Tuple [.Constant (.int 6) k1 p1,.BinOp (.Subscript sz (.Constant (.int 1) k2 p2) p3) .Add (.Constant (.int 2) k3 p4) p5] x1 p6] p7) (fZ (aZ (t2 (cI 6) (Tg X.K ts 1 2)) cY)):=DX (Kv (Kw j))
structure PB (X:Cx) (e:Expr) (t:TE):Prop where
 h:PE X e t
theorem KQ{a b c:List Expr}{ta tb tc:TE}(j:PB X (.List a p1) ta)(z:PB X (.List b p2) tb)(D:PB X (.List c p3) tc):PB X (.List [.List a p1,.List b p2,.List c p3] p0) (fZ (aZ ta (aZ tb (aZ tc cY)))):=⟨Rz j.h z.h D.h⟩
theorem V6(j:PE X sz ts):PB X (.List [.List [] p0,.List [.Tuple [.Constant (.int 6) k1 p1,.BinOp (.Subscript sz (.Constant (.int 1) k2 p2) p3) .Add (.Constant (.int 2) k3 p4) p5] x1 p6] p7,.List [.Tuple [.Constant (.int 9) k4 p8] x2 p9,.Tuple [.Constant (.int 5) k5 p10,.Constant (.int 1) k6 p11] x3 p12,.Tuple [.Constant (.int 0) k7 p13,.Constant (.int 0) k8 p14,.Constant (.int 1) k9 p15] x4 p16] p17] p18) (tA X.K ts):=KQ ⟨DY⟩ ⟨Wx j⟩ ⟨Wy⟩
theorem Ww(j:PE X sz ts):PE X (.List [.Tuple [.Constant (.int 6) k5 p10,.Constant (.int 2) k6 p11] x3 p12,.Tuple [.Constant (.int 0) k7 p13,.Constant (.int 1) k8 p14,.Constant (.int 1) k9 p15] x4 p16,.Tuple [.Constant (.int 5) k1 p1,.BinOp (.Subscript sz (.Constant (.int 1) k2 p2) p3) .Add (.Constant (.int 1) k3 p4) p5] x1 p6] p7) (fZ (aZ (t2 (cI 6) (cI 2)) (aZ (t3 (cI 0) (cI 1) (cI 1)) (aZ (t2 (cI 5) (Tg X.K ts 1 1)) cY)))):=QJ QG QF (Kv (Kw j))
theorem V4(j:PE X sz ts):PB X (.List [.List [] p0,.List [.Tuple [.Constant (.int 6) k5 p10,.Constant (.int 2) k6 p11] x3 p12,.Tuple [.Constant (.int 0) k7 p13,.Constant (.int 1) k8 p14,.Constant (.int 1) k9 p15] x4 p16,.Tuple [.Constant (.int 5) k1 p1,.BinOp (.Subscript sz (.Constant (.int 1) k2 p2) p3) .Add (.Constant (.int 1) k3 p4) p5] x1 p6] p7,.List [.Tuple [.Constant (.int 9) k4 p8] x2 p9] p17] p18) (tO X.K ts):=KQ ⟨DY⟩ ⟨Ww j⟩ ⟨DX QH⟩
theorem RD{a b c d:List Expr}{ta tb tc td:TE}(j:PB X (.List a p1) ta)(z:PB X (.List b p2) tb)(D:PB X (.List c p3) tc)(hd:PB X (.List d p4) td):PB X (.List [.List a p1,.List b p2,.List c p3,.List d p4] p0) (fZ (aZ ta (aZ tb (aZ tc (aZ td cY))))):=⟨Ry j.h z.h D.h hd.h⟩
theorem V5{j:Expr}(D:PE X sz ts)(z:PE X j ts):PB X (.List [.List [] p0,.List [.Tuple [.Constant (.int 6) k1 p1,.BinOp (.Subscript sz (.Constant (.int 1) k2 p2) p3) .Add (.Constant (.int 1) k3 p4) p5] x1 p6] p7,.List [.Tuple [.Constant (.int 5) k4 p8,.Subscript j (.Constant (.int 2) k5 p10) p11] x2 p9] p12,.List [] p13] p18) (tF X.K ts):=RD ⟨DY⟩ ⟨DX (Kv (Kw D))⟩ ⟨DX (Ur (bZ dh z aB (fun _ _=>rfl)))⟩ ⟨DY⟩
structure Wv (X:Cx) (st:Stmt) (t:TS):Prop where
 h:PS X st t
structure S7 (X:Cx) (st:List Stmt) (t:TS):Prop where
 h:zX X st t
theorem xg{e:Expr}{te:TE}{pos:Pos}(h:PB X e te):Wv X (.Return (some e) pos) (FQ te):=⟨aV h.h⟩
theorem xj{st:Stmt}{t:TS}(h:Wv X st t):S7 X [st] t:=⟨ao h.h⟩
theorem Bh{c:Expr}{a b:List Stmt}{tc:TT}{t u:TS}{pos:Pos}(D:PT X c tc)(j:S7 X a t)(z:S7 X b u):PS X (.If c a b pos) (FZ tc t u):=aX D j.h z.h
end
theorem kY{H:Hp}{x:Addr}(h:H x=some (.lst [])):dw H [] x:=⟨[],h,.nil⟩
section
theorem JC:aK ["node","sizes","n","part"] ["node","sizes","n"] (aD JT):=⟨rfl,rfl,rfl,by decide +kernel,rfl,by decide +kernel,by decide +kernel⟩
theorem RQ{f C Cx fL:Addr}{fd dL:FuncData}(F:Fn K mg "own_instructions" JT f fd ["node","sizes","n"])(N:wk K C)(T:CP K mg)(TC:CN K mg)(FL:Fn K mg "last_instructions" yO fL dL ["node","n"])(GL:aF P w K mg base (aW P w) 5 fL dL ["node","n"] (Am C Cx)):aF P w K mg base (aW P w) 6 f fd ["node","sizes","n"] (Jg C Cx):=by
 refine d9 F.F JC (fun vs H Q E h=>?_) (fun cdv A outer s H vs Q E hr h=>?_)
 ·obtain⟨_,_,_,_,_,rfl,_⟩:=h
  rfl
 ·obtain⟨a,sl,e,sz,n,rfl,aC,hn,ay,ag,hsz,ah,k,kr⟩:=h
  obtain⟨dx,D,l,as,h1,hD,hl,hp⟩:=oZ hn
  refine⟨_,aq (Bh (aG cz (aJ (pv 0) rfl) (bw rfl TC.AND) (aL _)) (xj (xg (V6 (pv 1)))) ⟨aP⟩)
   (aq (Bh (aG cz (aJ (pv 0) rfl) (bw rfl TC.OR) (aL _)) (xj (xg (V4 (pv 1)))) ⟨aP⟩)
   (aq (Bh (aG cz (aJ (pv 0) rfl) (bw rfl TC.IF) (aL _)) (xj (xg (V5 (pv 1) (pv 1)))) ⟨aP⟩)
   (ao (aV (dM Br (yU (own:=[("part",3)]) (te:=fZ cY) rfl JC.nd (ji (aJ (pv 0) rfl)) (iW (by kernel_rfl))
     (fun _ _ _ _ _=>by exact cW (i:=3) JC.nd rfl (Or.inl rfl)) (fun _ _ _ _ _=>by exact lJ) (fun _ _ _ _ _=>by exact bT au))
    (bT (aj (a_ GL hr rfl FL.m FL.F.kp FL.b .nil passes (aj (pv 0) (aj (pv 2) au))) au))))))),?_⟩
  refine⟨_,rfl,a,C,dx,_,_,rfl,h1,N.cl,N.nF,rfl,rfl,_,rfl,?_⟩
  have af:∀i:Nat,i<sz.length→qX (sz.map fun(x:Nat)=>V.int x) (i:Int)=some (V.int (sz.getD i 0:Nat)):=fun i hi=>jw (by rw[iA,ic hi,List.getD_eq_getElem?_getD,ic hi];rfl)
  cases e with
  | and b c =>
   refine bh ⟨(by show 0≤sizeLine;decide),fun q0 Y=>⟨_,rfl,sl,_,1,_,rfl,rfl,bV.of (aA.upd Y _ _ ag),af 1 (by rw[hsz];exact Nat.le_of_ble_eq_true rfl),_,_,rfl,rfl,(by show 2≤sizeLine;decide),fun r1 U=>⟨(by show 1≤sizeLine;decide),fun q1 J=>⟨(by show 1≤sizeLine;decide),fun r2 G=>⟨(by show 2≤sizeLine;decide),fun r3 Z=>⟨(by show 3≤sizeLine;decide),fun r4 S=>⟨(by show 3≤sizeLine;decide),fun q2 j=>⟨(by show 3≤sizeLine;decide),fun L O=>?_⟩⟩⟩⟩⟩⟩⟩⟩
   refine k trivial L _ (same_none ((aA.upd Y).trans ((aA.upd U).trans ((aA.upd J).trans ((aA.upd G).trans ((aA.upd Z).trans ((aA.upd S).trans (aA.upd j))))))) O) ((aA.upd Y).trans ((aA.upd U).trans ((aA.upd J).trans ((aA.upd G).trans ((aA.upd Z).trans ((aA.upd S).trans ((aA.upd j).trans (aA.upd O)))))))) ⟨[q0,q1,q2],ak,.cons ?_ (.cons ?_ (.cons ?_ .nil))⟩
   ·exact kY (((aA.upd U).trans ((aA.upd J).trans ((aA.upd G).trans ((aA.upd Z).trans ((aA.upd S).trans ((aA.upd j).trans (aA.upd O))))))) q0 _ ak)
   ·exact⟨[r1],((aA.upd G).trans ((aA.upd Z).trans ((aA.upd S).trans ((aA.upd j).trans (aA.upd O))))) q1 _ ak,.cons (((aA.upd J).trans ((aA.upd G).trans ((aA.upd Z).trans ((aA.upd S).trans ((aA.upd j).trans (aA.upd O)))))) r1 _ ak) .nil⟩
   ·exact⟨[r2,r3,r4],(aA.upd O) q2 _ ak,.cons (((aA.upd Z).trans ((aA.upd S).trans ((aA.upd j).trans (aA.upd O)))) r2 _ ak) (.cons (((aA.upd S).trans ((aA.upd j).trans (aA.upd O))) r3 _ ak) (.cons (((aA.upd j).trans (aA.upd O)) r4 _ ak) .nil))⟩
  | or b c =>
   refine aQ ⟨_,rfl,a,C,dx,_,_,rfl,h1,N.cl,N.nF,rfl,rfl,_,rfl,bh ⟨(by show 0≤sizeLine;decide),fun q0 Y=>⟨(by show 2≤sizeLine;decide),fun r1 U=>⟨(by show 3≤sizeLine;decide),fun r2 G=>⟨_,rfl,sl,_,1,_,rfl,rfl,bV.of (((aA.upd Y).trans ((aA.upd U).trans (aA.upd G))) _ _ ag),af 1 (by rw[hsz];exact Nat.le_of_ble_eq_true rfl),_,_,rfl,rfl,(by show 2≤sizeLine;decide),fun r3 Z=>⟨(by show 3≤sizeLine;decide),fun q1 J=>⟨(by show 1≤sizeLine;decide),fun r4 S=>⟨(by show 1≤sizeLine;decide),fun q2 j=>⟨(by show 3≤sizeLine;decide),fun L O=>?_⟩⟩⟩⟩⟩⟩⟩⟩⟩
   refine k trivial L _ (same_none ((aA.upd Y).trans ((aA.upd U).trans ((aA.upd G).trans ((aA.upd Z).trans ((aA.upd J).trans ((aA.upd S).trans (aA.upd j))))))) O) ((aA.upd Y).trans ((aA.upd U).trans ((aA.upd G).trans ((aA.upd Z).trans ((aA.upd J).trans ((aA.upd S).trans ((aA.upd j).trans (aA.upd O)))))))) ⟨[q0,q1,q2],ak,.cons ?_ (.cons ?_ (.cons ?_ .nil))⟩
   ·exact kY (((aA.upd U).trans ((aA.upd G).trans ((aA.upd Z).trans ((aA.upd J).trans ((aA.upd S).trans ((aA.upd j).trans (aA.upd O))))))) q0 _ ak)
   ·exact⟨[r1,r2,r3],((aA.upd S).trans ((aA.upd j).trans (aA.upd O))) q1 _ ak,.cons (((aA.upd G).trans ((aA.upd Z).trans ((aA.upd J).trans ((aA.upd S).trans ((aA.upd j).trans (aA.upd O)))))) r1 _ ak) (.cons (((aA.upd Z).trans ((aA.upd J).trans ((aA.upd S).trans ((aA.upd j).trans (aA.upd O))))) r2 _ ak) (.cons (((aA.upd J).trans ((aA.upd S).trans ((aA.upd j).trans (aA.upd O)))) r3 _ ak) .nil))⟩
   ·exact⟨[r4],(aA.upd O) q2 _ ak,.cons (((aA.upd j).trans (aA.upd O)) r4 _ ak) .nil⟩
  | cond d b c =>
   refine aQ ⟨_,rfl,a,C,dx,_,_,rfl,h1,N.cl,N.nF,rfl,rfl,_,rfl,aQ ⟨_,rfl,a,C,dx,_,_,rfl,h1,N.cl,N.nF,rfl,rfl,_,rfl,bh ⟨(by show 0≤sizeLine;decide),fun q0 Y=>⟨_,rfl,sl,_,1,_,rfl,rfl,bV.of (aA.upd Y _ _ ag),af 1 (by rw[hsz];exact Nat.le_of_ble_eq_true rfl),_,_,rfl,rfl,(by show 2≤sizeLine;decide),fun r1 U=>⟨(by show 1≤sizeLine;decide),fun q1 J=>⟨_,rfl,sl,_,2,_,rfl,rfl,bV.of (((aA.upd Y).trans ((aA.upd U).trans (aA.upd J))) _ _ ag),af 2 (by rw[hsz];exact Nat.le_of_ble_eq_true rfl),(by show 2≤sizeLine;decide),fun r2 G=>⟨(by show 1≤sizeLine;decide),fun q2 j=>⟨(by show 0≤sizeLine;decide),fun q3 aa=>⟨(by show 4≤sizeLine;decide),fun L O=>?_⟩⟩⟩⟩⟩⟩⟩⟩⟩
   refine k trivial L _ (same_none ((aA.upd Y).trans ((aA.upd U).trans ((aA.upd J).trans ((aA.upd G).trans ((aA.upd j).trans (aA.upd aa)))))) O) ((aA.upd Y).trans ((aA.upd U).trans ((aA.upd J).trans ((aA.upd G).trans ((aA.upd j).trans ((aA.upd aa).trans (aA.upd O))))))) ⟨[q0,q1,q2,q3],ak,.cons ?_ (.cons ?_ (.cons ?_ (.cons ?_ .nil)))⟩
   ·exact kY (((aA.upd U).trans ((aA.upd J).trans ((aA.upd G).trans ((aA.upd j).trans ((aA.upd aa).trans (aA.upd O)))))) q0 _ ak)
   ·exact⟨[r1],((aA.upd G).trans ((aA.upd j).trans ((aA.upd aa).trans (aA.upd O)))) q1 _ ak,.cons (((aA.upd J).trans ((aA.upd G).trans ((aA.upd j).trans ((aA.upd aa).trans (aA.upd O))))) r1 _ ak) .nil⟩
   ·exact⟨[r2],((aA.upd aa).trans (aA.upd O)) q2 _ ak,.cons (((aA.upd j).trans ((aA.upd aa).trans (aA.upd O))) r2 _ ak) .nil⟩
   ·exact kY ((aA.upd O) q3 _ ak)
  | _ =>
   refine aQ ⟨_,rfl,a,C,dx,_,_,rfl,h1,N.cl,N.nF,rfl,rfl,_,rfl,aQ ⟨_,rfl,a,C,dx,_,_,rfl,h1,N.cl,N.nF,rfl,rfl,_,rfl,aQ ?_⟩⟩
   refine⟨_,rfl,a,C,dx,_,_,rfl,h1,N.cl,N.nP,rfl,l,rfl,⟨_,bV.of hl⟩,fun L O=>?_⟩
   refine lV (K:=K) (a:=l) (xs:=as.map V.ref) (fun i H'=>aA H H'∧∃ls:List Addr,H' L=some (.lst (ls.map V.ref))∧ls.length=i∧∀x∈ls,x≠L∧H' x=some (.lst [])) ⟨aA.upd O,[],ak,rfl,by simp⟩ (fun i H' _ ⟨s1,_⟩=>bV.of (s1 _ _ hl)) ?_ ?_
   ·rintro i y H' hi ⟨s1,ls,ae,ac,ar⟩
    have aI:i<100001:=by
     have:=(hZ.mp hi).1
     rw[ap,←Paired.length hp]at this
     omega
    refine⟨rfl,(by show 0≤sizeLine;decide),fun q hq=>?_⟩
    have av:L≠q:=fun z=>by rw[z,hq]at ae;cases ae
    refine⟨_,by rw[az av];exact ae,by rw[ap,ac];exact ib aI (by decide),fun b o z=>?_,ls++[q],by rw[ak,ka];rfl,by rw[gc,ac];rfl,fun x hx=>?_⟩
    ·have aS:b≠L:=fun y=>by rw[y,O]at z;cases z
     have aT:b≠q:=fun y=>by rw[←y,s1 _ _ z]at hq;cases hq
     rw[az aS,az aT]
     exact s1 _ _ z
    ·rcases List.mem_append.mp hx with hx | hx
     ·obtain⟨g1,g2⟩:=ar x hx
      have aE:x≠q:=fun y=>by rw[y,hq]at g2;cases g2
      exact⟨g1,by rw[az g1,az aE];exact g2⟩
     ·obtain rfl:=List.mem_singleton.mp hx
      exact⟨Ne.symm av,by rw[az (Ne.symm av),ak]⟩
   ·rintro H1 ⟨s1,ls,ae,ac,ar⟩
    refine⟨_,rfl,_,rfl,a,_,n,rfl,aC,hn.same s1,ay,trivial,ah,fun ai l2 ts H2 a3 s2 ax al a0=>⟨(by show 1≤sizeLine;decide),fun q hq=>?_⟩,fun ai=>(kr ai).mono s1⟩
    have s3:aA H2 (L2.upd H2 q (.lst [V.ref l2])):=aA.upd hq
    refine⟨L,q,_,_,rfl,rfl,s3 _ _ (s2 _ _ ae),ak,?_,fun p aw=>?_⟩
    ·rw[ap,ac,ap,←Paired.length hp]
     exact ip (Nat.add_le_add ah (f' _)) (by show 100001≤sizeLine;decide)
    ·have s4:=s3.trans (aA.upd (o:=.lst (ls.map V.ref++[V.ref l2])) aw)
     refine k ai p _ (same_none (s1.trans (s2.trans s3)) aw) (s1.trans (s2.trans s4)) ⟨ls++[l2],by rw[ak,ka];rfl,?_⟩
     refine cu ?_ ⟨ts,s4 _ _ ax,al.same s4⟩
     have hk:ls.length=as.length:=by rw[ac,ap]
     have:∀(m:List Addr),(∀x∈m,H1 x=some (.lst []))→Paired (dw (L2.upd (L2.upd H2 q (.lst [V.ref l2])) p (.lst (ls.map V.ref++[V.ref l2])))) (List.replicate m.length []) m:=by
      intro m
      induction m with
      | nil=>intro _;exact .nil
      | cons x r ih=>intro hm;exact .cons (kY (s4 _ _ (s2 _ _ (hm x b')))) (ih fun y hy=>hm y (am _ hy))
     have:=this ls fun x hx=>(ar x hx).2
     rw[hk,←Paired.length hp]at this
     exact this
end
noncomputable def dX:List Vbdeaa.Code→List Vbdeaa.Code→Vbdeaa.Code
 | r::j,b::bs=>r++(b++dX j bs)
 | _,_=>[]
noncomputable def glue:List Vbdeaa.Code→List Vbdeaa.Code→Vbdeaa.Code
 | o::os,j=>o++dX j os
 | [],_=>[]
theorem uI:∀(j bs:List Vbdeaa.Code)(r b:Vbdeaa.Code),j.length=bs.length→dX (j++[r]) (bs++[b])=dX j bs++(r++b)
 | [],[],r,b,_=>by show r++(b++[])=[]++(r++b);simp
 | x::j,y::bs,r,b,h=>by
  show x++(y++dX (j++[r]) (bs++[b]))=(x++(y++dX j bs))++(r++b)
  rw[uI j bs r b (by simpa using h)]
  simp only[ij]
 | [],y::bs,r,b,h=>by cases h
 | x::j,[],r,b,h=>by cases h
theorem qO(last:Vbdeaa.Code):∀(j:List Vbdeaa.Code)(r:Vbdeaa.Code),dX (r::j) (List.replicate j.length []++[last])=r++(j.flatten++last)
 | [],r=>by show r++(last++[])=r++([]++last);simp
 | x::j,r=>by
  show r++([]++dX (x::j) (List.replicate j.length []++[last]))=r++((x++j.flatten)++last)
  rw[qO last j x]
  simp only[List.nil_append,ij]
theorem B_(last:Vbdeaa.Code)(j:List Vbdeaa.Code):glue (List.replicate j.length []++[last]) j=j.flatten++last:=by
 cases j with
 | nil=>show last++[]=[]++last;simp
 | cons r j =>
  show []++dX (r::j) (List.replicate j.length []++[last])=(r++j.flatten)++last
  rw[qO]
  simp only[List.nil_append,ij]
theorem nW(n:Nat):∀l:Exps,Vbdeam.codesOf n l=((tH l).map (Vbdeam.codeOf n)).flatten
 | .nil=>rfl
 | .cons e l=>by
  show Vbdeam.codeOf n e++Vbdeam.codesOf n l=Vbdeam.codeOf n e++((tH l).map (Vbdeam.codeOf n)).flatten
  rw[nW n l]
noncomputable def lens(n:Nat)(e:Exp):List Nat:=(kids e).map fun k=>(Vbdeam.codeOf n k).length
theorem Hh(n:Nat)(e:Exp):glue (Bp n (lens n e) e) ((kids e).map (Vbdeam.codeOf n))=Vbdeam.codeOf n e:=by
 have pl:∀{e:Exp},Bp n (lens n e) e=List.replicate (kids e).length []++[zm n e]→Vbdeam.codeOf n e=((kids e).map (Vbdeam.codeOf n)).flatten++zm n e→glue (Bp n (lens n e) e) ((kids e).map (Vbdeam.codeOf n))=Vbdeam.codeOf n e:=fun{e} h1 h2=>by
  rw[h1,h2,show(kids e).length=((kids e).map (Vbdeam.codeOf n)).length by rw[ap],B_]
 cases e with
 | num q=>exact pl rfl rfl
 | name t=>exact pl rfl rfl
 | un o a =>
  refine pl rfl ?_
  show Vbdeam.codeOf n a++[.un o]=(Vbdeam.codeOf n a++[])++[.un o]
  rw[i6]
 | bin o a b =>
  refine pl rfl ?_
  show Vbdeam.codeOf n a++(Vbdeam.codeOf n b++[.bin o])=(Vbdeam.codeOf n a++(Vbdeam.codeOf n b++[]))++[.bin o]
  simp only[i6,ij]
 | and a b =>
  show []++(Vbdeam.codeOf n a++([.zero ((Vbdeam.codeOf n b).length+2)]++(Vbdeam.codeOf n b++([.truth,.jump 1,.push (0,1)]++[]))))=Vbdeam.codeOf n a++(.zero ((Vbdeam.codeOf n b).length+2)::(Vbdeam.codeOf n b++[.truth,.jump 1,.push (0,1)]))
  rfl
 | or a b =>
  show []++(Vbdeam.codeOf n a++([.zero 2,.push (1,1),.jump ((Vbdeam.codeOf n b).length+1)]++(Vbdeam.codeOf n b++([.truth]++[]))))=Vbdeam.codeOf n a++(.zero 2 :: .push (1,1) :: .jump ((Vbdeam.codeOf n b).length+1)::(Vbdeam.codeOf n b++[.truth]))
  rfl
 | cond c a b =>
  show []++(Vbdeam.codeOf n c++([.zero ((Vbdeam.codeOf n a).length+1)]++(Vbdeam.codeOf n a++([.jump (Vbdeam.codeOf n b).length]++(Vbdeam.codeOf n b++([]++[]))))))=Vbdeam.codeOf n c++(.zero ((Vbdeam.codeOf n a).length+1)::(Vbdeam.codeOf n a++(.jump (Vbdeam.codeOf n b).length::Vbdeam.codeOf n b)))
  simp only[i6,List.nil_append,i2]
 | best g l =>
  refine pl rfl ?_
  show Vbdeam.codesOf n l++List.replicate (l.length-1) (.best g)=((tH l).map (Vbdeam.codeOf n)).flatten++List.replicate ((tH l).length-1) (.best g)
  rw[nW,xQ]
 | use t l =>
  refine pl rfl ?_
  show Vbdeam.codeOf n (.use t l)=((tH l).map (Vbdeam.codeOf n)).flatten++(Vbdeam.codeOf n (.use t l)).drop (Vbdeam.codesOf n l).length
  rw[←nW]
  simp only[Vbdeam.codeOf,List.drop_left]
theorem Ea(n:Nat)(sz:List Nat)(e:Exp):(Bp n sz e).length=(kids e).length+1:=by
 cases e<;>first | rfl | (show(List.replicate _ ([]:Vbdeaa.Code)++[_]).length=_;rw[gc,List.length_replicate];rfl)
mutual
theorem cT(n:Nat):∀e:Exp,(Vbdeam.codeOf n e).length+1≤5*Vbdeam.size e
 | .num q=>by show 1+1≤5*1;omega
 | .name t=>by
  have:(Vbdeam.codeOf n (.name t)).length=1:=by
   simp only[Vbdeam.codeOf]
   split
   ·rfl
   ·split<;>rfl
  rw[this];show 1+1≤5*1;omega
 | .un o a=>by
  have:=cT n a
  simp only[Vbdeam.codeOf,Vbdeam.size,gc,cr,iq]
  omega
 | .bin o a b=>by
  have:=cT n a;have:=cT n b
  simp only[Vbdeam.codeOf,Vbdeam.size,gc,cr,iq]
  omega
 | .and a b=>by
  have:=cT n a;have:=cT n b
  simp only[Vbdeam.codeOf,Vbdeam.size,gc,cr,iq]
  omega
 | .or a b=>by
  have:=cT n a;have:=cT n b
  simp only[Vbdeam.codeOf,Vbdeam.size,gc,cr,iq]
  omega
 | .cond c a b=>by
  have:=cT n c;have:=cT n a;have:=cT n b
  simp only[Vbdeam.codeOf,Vbdeam.size,gc,cr,iq]
  omega
 | .best g l=>by
  have:=ql n l
  simp only[Vbdeam.codeOf,Vbdeam.size,gc,List.length_replicate]
  omega
 | .use t l=>by
  have:=ql n l
  simp only[Vbdeam.codeOf,Vbdeam.size,gc]
  split<;>simp only[cr,iq]<;>omega
theorem ql(n:Nat):∀l:Exps,(Vbdeam.codesOf n l).length+l.length≤5*Vbdeam.sizeAll l
 | .nil=>by show 0+0≤_;omega
 | .cons e l=>by
  have:=cT n e;have:=ql n l
  simp only[Vbdeam.codesOf,Vbdeam.sizeAll,gc,Exps.length]
  omega
end
theorem jd:∀l:Exps,Vbdeam.sizeAll l=((tH l).map Vbdeam.size).sum
 | .nil=>rfl
 | .cons e l=>by
  show Vbdeam.size e+Vbdeam.sizeAll l=Vbdeam.size e+((tH l).map Vbdeam.size).sum
  rw[jd l]
theorem pQ(e:Exp):Vbdeam.size e=((kids e).map Vbdeam.size).sum+1:=by
 cases e with
 | num q=>rfl
 | name n=>rfl
 | un o a=>show Vbdeam.size a+1=(Vbdeam.size a+0)+1;omega
 | bin o a b=>show Vbdeam.size a+Vbdeam.size b+1=(Vbdeam.size a+(Vbdeam.size b+0))+1;omega
 | and a b=>show Vbdeam.size a+Vbdeam.size b+1=(Vbdeam.size a+(Vbdeam.size b+0))+1;omega
 | or a b=>show Vbdeam.size a+Vbdeam.size b+1=(Vbdeam.size a+(Vbdeam.size b+0))+1;omega
 | cond c a b=>show Vbdeam.size c+Vbdeam.size a+Vbdeam.size b+1=(Vbdeam.size c+(Vbdeam.size a+(Vbdeam.size b+0)))+1;omega
 | best g l=>show Vbdeam.sizeAll l+1=_;rw[jd];rfl
 | use t l=>show Vbdeam.sizeAll l+1=_;rw[jd];rfl
theorem Jq(e:Exp):1≤Vbdeam.size e:=by rw[pQ];omega
theorem Dn:∀{l:List Nat}{x:Nat},x∈l→x≤l.sum
 | a::l,x,h=>by
  rw[List.sum_cons]
  rcases hU.mp h with h | h
  ·omega
  ·have:=Dn h;omega
theorem Ls{e k:Exp}(h:k∈kids e):Vbdeam.size k<Vbdeam.size e:=by
 have:=Dn (List.mem_map_of_mem (f:=Vbdeam.size) h)
 have:=pQ e
 omega
theorem Lr(e:Exp):(kids e).length<Vbdeam.size e:=by
 have:∀l:List Exp,l.length≤(l.map Vbdeam.size).sum:=by
  intro l
  induction l with
  | nil=>exact f' _
  | cons x r j =>
   have:=Jq x
   rw[i4,List.sum_cons,cr]
   omega
 have:=this (kids e)
 have:=pQ e
 omega
end SB
end
section
namespace XL
open PySem PySem.Spec PyProof.Rows L2
theorem Qj{K:PySem.W.Frag}{a b:Addr}{xs ys:List V}{g:TG}{tb:TS}{D:Ends}{σ:L2.St}{H:Hp}(z:xs.length=ys.length)(Pv:Nat→L2.St→Hp→Prop)(h0:Pv 0 σ H)(Y:∀i σ H,i≤xs.length→Pv i σ H→bV K H a xs∧bV K H b ys)
  (S:∀i x y σ H T,xs[i]?=some x→ys[i]?=some y→Pv i σ H→H T=none→g (.ref T) σ (L2.upd H T (.tup [x,y])) fun σ2 H2=>tb { D with nx:=Pv (i+1),ct:=Pv (i+1),bk:=D.nx } σ2 H2) (hd:∀σ H,Pv xs.length σ H→D.nx σ H) :
  ∃W:Nat→Nat→L2.St→Hp→Prop,(∃m,W 0 m σ H)∧∀i m σ H,W i m σ H →
   ((Vj K a b).stop i H∧D.nx σ H)∨((Vj K a b).go i H∧∃N:L2.St→Hp→Prop,(∀σ' H',N σ' H'→∃O,O<m∧W (i+1) O σ' H')∧∀x H',(Vj K a b).yld i H x H'→g x σ H' fun σ2 H2=>tb { D with nx:=N,ct:=N,bk:=D.nx } σ2 H2):=by
 refine⟨fun i m σ H=>m=xs.length-i∧i≤xs.length∧Pv i σ H,⟨xs.length,by simp,Nat.zero_le _,h0⟩,?_⟩
 rintro i m σ H ⟨rfl,hi,p⟩
 obtain⟨J,F⟩:=Y i σ H hi p
 by_cases j:i<xs.length
 ·refine .inr ⟨⟨xs,ys,xs[i],ys[i],J,F,by simp[j],by simp[z▸j]⟩,Pv (i+1),fun σ' H' U=>⟨xs.length-(i+1),by omega,rfl,j,U⟩,fun x H' y=>?_⟩
  obtain⟨T,Z,z2,rfl,hT,rfl,L,G⟩:=y
  exact S i Z z2 σ H T (L xs J) (G ys F) p hT
 ·have e:i=xs.length:=by omega
  subst e
  exact .inl ⟨⟨xs,ys,J,F,.inl (f' _)⟩,hd σ H p⟩
theorem qb(S it:Addr)(old:Array Value)(F:Nat)(dd:Option Addr)(sl:Array (Option Value))(items:Array Value)(n:Nat)(z:¬(!old.isEmpty&&Builtin.List.listTooLong (old.size+items.size))=true)(h1:old.size≤sizeLine)(h2:old.size+items.size≤sizeLine+1) :
  Meets (Builtin.«list.extend» ⟨[.ref S,.ref it],[]⟩) (fun _ R s=>s.heap.get? S=some { cls:=.type "list",dict:=none,data:=.seq old F,slots:=#[] }∧s.heap.get? it=some { cls:=.type "tuple",dict:=dd,data:=.seq items n,slots:=sl }∧R (.ok (.ret Value.none)) { s with heap:=s.heap.update S (Obj.mapSeq fun x=>x++items),toks:=s.toks }) :=
 .of_wp fun prog w A R s h=>by
  obtain⟨L,g,d,tk,os⟩:=s;obtain⟨D,G,h⟩:=h;have f1:=AutoSeq1.idx_int;have f2:=AutoSeq1.sub_tuple_tuple;have J:=AutoSeq1.sub_list_list;have O:=AutoSeq1.sub_tuple_list;have U:=AutoSeq1.sub_list_tuple
  have j:(old++items).size≤sizeLine+1:=by rw[Array.size_append];exact h2
  wp_walk using (wpAny_updateSeq D rfl (hz:=h1) (_hz':=j)),AutoSeq1.wpAny_loadPart' D,AutoSeq1.wpAny_loadPart' G;exact⟨_,rfl,h⟩
noncomputable def Kf(K:PySem.W.Frag):V→List V→Hp→VK→Prop:=fun x vs H Q=>∃l b xs zs,x=.ref l∧vs=[.ref b]∧H l=some (.lst xs)∧cR K H b zs∧xs.length+zs.length≤sizeLine∧Q .non (L2.upd H l (.lst (xs++zs)))
theorem Bv{X:Cx}:Vu X "list.extend" (Kf X.K):=by
 intro pins s σ H x vs v us Q I rx U h
 obtain⟨l,b,xs,zs,rfl,rfl,S,Y,hz,q⟩:=h
 cases rx
 obtain⟨u,rfl,ru⟩:=U.one
 cases ru
 obtain⟨z,its,n,r,hl,e⟩:=I.BJ S
 obtain⟨j,O,⟨o,ho,J,L,hd⟩,aa⟩:=I.tuple Y
 obtain⟨oc,od,G,osl⟩:=o
 have J:oc=.type "tuple":=J
 have hd:G=.seq j.toArray L:=hd
 subst J hd
 have Z:=O.length
 have hsz:its.toArray.size+j.toArray.size≤sizeLine:=by rw[ia,ia];omega
 have D:¬(!its.toArray.isEmpty&&Builtin.List.listTooLong (its.toArray.size+j.toArray.size))=true:=by
  rw[y_ hsz,Bool.and_false]
  exact io
 refine call_meets F.slot_list_extend ⟨_,e,rfl⟩ F.entry_list_extend (F.args_list_extend_2 _ _)
  (qb l b its.toArray n od osl j.toArray L D (by rw[ia];omega) (by omega)) ⟨e,ho,?_⟩
 refine⟨.non,_,I.Pk (its':=its++j) S e (by simp) (r.append O) ?_,rfl,q⟩
 rw[gc]
 omega
end XL
end
section
namespace SB
open PySem PySem.Spec PyProof.Rows L2 XL
open Vbdeaa (Text Exp Exps Un Bin Ins)
variable {P:Program} {w:World} {K:PySem.W.Frag} {mg:Str→Option Value} {base:Heap}
theorem bC.trans{x:Addr}{H H1 H2:Hp}(a:bC x H H1)(b:bC x H1 H2):bC x H H2:=fun c o h j=>b c o (a c o h j) j
theorem bC.wy{x:Addr}{H H1:Hp}{o:HO}(a:bC x H H1):bC x H (L2.upd H1 x o):=fun c u h j=>by rw[az j];exact a c u h j
theorem bC.same{x:Addr}{H H1 H2:Hp}(h:H x=none)(s:aA H H1)(a:bC x H1 H2):aA H H2:=fun c u j=>a c u (s c u j) (aH j h)
theorem cZ.oJ{x:Addr}{H H':Hp}{c:Vbdeaa.Code}{ts:List Addr}{xs:List V}(hx:H x=some (.lst xs))(s:bC x H H')(h:cZ H c ts):cZ H' c ts :=
 cP h fun _ t _ q=>s _ _ q (qK q hx (by intro z;cases z))
theorem dw.oJ{x p:Addr}{H H':Hp}{c:Vbdeaa.Code}{xs:List V}(hx:H x=some (.lst xs))(j:p≠x)(s:bC x H H')(h:dw H c p):dw H' c p:=by
 obtain⟨ts,h1,h2⟩:=h
 exact⟨ts,s _ _ h1 j,h2.oJ hx s⟩
theorem qD{H:Hp}{c d:Vbdeaa.Code}{ts us:List Addr}(h1:cZ H c ts)(h2:cZ H d us):cZ H (c++d) (ts++us):=by
 unfold cZ jU at *
 rw[ka]
 generalize c.map Ins.told=l at h1
 generalize d.map Ins.told=m at h2
 induction h1 with
 | nil=>exact h2
 | cons a b j=>exact .cons a j
theorem oV{H:Hp}{c:Vbdeaa.Code}{ts:List Addr}(h:cZ H c ts):ts.length=c.length:=by
 have:=Paired.length h
 unfold jU at this
 rw[ap]at this
 exact this.symm
theorem J7{H:Hp}{c:Vbdeaa.Code}{ts:List Addr}{x:Addr}{xs:List V}(hx:H x=some (.lst xs))(h:cZ H c ts):x∉ts:=by
 intro j
 unfold cZ at h
 generalize jU c=l at h
 induction h with
 | nil=>cases j
 | cons a b z =>
  rcases hU.mp j with rfl | j
  ·rw[hx]at a;cases a
  ·exact z j
theorem oW{as:List Addr}{i:Nat}{x:V}(h:(as.map V.ref)[i]?=some x):∃a,as[i]?=some a∧x=V.ref a:=by
 rw[iA]at h
 cases q:as[i]? with
 | none=>rw[q]at h;cases h
 | some a=>rw[q]at h;exact⟨a,rfl,(Option.some.inj h).symm⟩
theorem BR{F:Exp→Addr→Prop}{es:List Exp}{as:List Addr}{i:Nat}{b:Addr}(z:Paired F es as)(h:as[i]?=some b):∃k,es[i]?=some k∧F k b:=by
 have J:i<es.length:=by rw[Paired.length z];exact(hZ.mp h).1
 obtain⟨k,D⟩:∃k,es[i]?=some k:=⟨_,ic J⟩
 obtain⟨L,j,G⟩:=d8 z D
 rw[h]at j
 cases j
 exact⟨k,D,G⟩
theorem vX:∀(j bs:List Vbdeaa.Code)(i:Nat),(dX (j.take i) (bs.take i)).length≤(dX j bs).length
 | [],_,i=>by rw[List.take_nil];exact Nat.zero_le _
 | r::j,[],i=>by rw[List.take_nil];cases i<;>exact Nat.zero_le _
 | r::j,b::bs,0=>Nat.zero_le _
 | r::j,b::bs,i+1=>by
  have:=vX j bs i
  show(r++(b++dX (j.take i) (bs.take i))).length≤(r++(b++dX j bs)).length
  simp only[gc]
  omega
noncomputable def QD(K:PySem.W.Frag):List V→Hp→VK→Prop:=fun xs H Q=>∃p ys,xs=[V.ref p]∧(bV K H p ys∨cR K H p ys)∧Q (V.int (ys.length:Nat)) H
end SB
end
section
namespace XL
open PySem PySem.Spec PyProof.Rows L2
structure Vl (n:Nat) (H:Hp) (h:Heap) (e C d:Addr):Prop where
 ex:H e=some (Mj e C d)
 new:n≤e
 tb:∃T fl,M5 h e (.ref C) (some d) (.ref T)∧T≠e∧n≤T∧H T=none∧zW h T fl
theorem uL{h:Heap}{T:Addr}{fl v:Value}(F:zW h T fl):∃D ts,h.get? T=some D∧D.data=.fields ts∧3<ts.size∧(∀b,b≠T→(h.update T (Obj.mapFields (·.setIfInBounds 3 v))).get? b=h.get? b)∧zW (h.update T (Obj.mapFields (·.setIfInBounds 3 v))) T v:=by
 obtain⟨D,ts,F,j,J⟩:=F
 have z:3<ts.size:=(Array.getElem?_eq_some_iff.mp J).1
 refine⟨D,ts,F,j,z,fun b L=>Heap.get?_update_other _ _ (Ne.symm L),?_⟩
 have G:=Heap.get?_update_self (Obj.mapFields (·.setIfInBounds 3 v)) F (Obj.isFreed_of_fields (Obj.data_mapFields j _))
 exact⟨_,_,G,Obj.data_mapFields j _,by simp[z]⟩
section
variable {P:Program} {w:World} {K:PySem.W.Frag} {mg:Str→Option Value} {base:Heap} {N:List Str} {qual:Str} {scope:Scope} {f:Addr} {cd:Value} {A:Around} {outer:List Env} {s0:Shared} {H0:Hp} {E:XK}
 {pins:List (Addr×Obj)} {σ:L2.St} {H:Hp} {s:Shared} {e C d:Addr}
theorem Ql{h':Heap}(I:Inv (eU (aW P w) P w K mg base N qual scope f cd A outer s0 H0 E) pins σ H { s with heap:=h' })(F:z8 s0.heap.objs.size H h' e C d)(j:E (.ref C) (some d) H) :
  aW P w outer H0 s0 E (.ref e) { s with heap:=h' }:=⟨e,C,d,H,rfl,I.os,I.bare,I.base,I.hok,F,j⟩
theorem zj{hd:Value}{b:Bool}{Z:Value→Shared→Prop}(I:Inv (eU (aW P w) P w K mg base N qual scope f cd A outer s0 H0 E) pins σ H s)(F:z8 s0.heap.objs.size H s.heap e C d)(hE:E (.ref C) (some d) H) :
  wpAny (model P w) (A.deeper (envOfC qual scope s0.heap.objs.size f cd)) (do let a ←frameOf (envOfC qual scope s0.heap.objs.size f cd);let pl ←entryPlaceOf s0.heap.objs.size b;let x ←EntryCells.newEntry hd a .none (rawInt s0.heap.objs.size) .none pl;setField (.ref e) 1 x)
   (fun _ s'=>wpAny (model P w) (A.deeper (envOfC qual scope s0.heap.objs.size f cd)) (setFlight (.ref e) none) (fun _ J=>aW P w outer H0 s0 E (.ref e) J) Z s') Z s:=by
 have O:=I.ok.frames
 have G:=I.stack
 have sub:=I.jb
 obtain⟨as,g1,g2,g3,g4,g5,g6⟩:=F.ground (frs (envOfC qual scope s0.heap.objs.size f cd::outer)) sub
 have hn:s0.heap.objs.size≤s.heap.objs.size:=I.sz
 obtain⟨tb,hx,_⟩:=g5
 refine uO (L:=s0.heap.objs.size) O (PySem.W.funFrames_hide G fun env he b j=>g1 b (List.mem_filterMap.mpr ⟨env,he,j⟩)) rfl hx (fun b o q=>PySem.W.of_hideAll _ q) (PySem.W.hideAll_none _ g2) fun h1 S1=>?_
 refine l_ (s:={ s with heap:=h1 }) S1 fun h' S=>?_
 have Y:∀b∈frs outer,b∈frs (envOfC qual scope s0.heap.objs.size f cd::outer):=fun b j=>by
  unfold frs at j ⊢
  rw[List.filterMap_cons]
  exact am _ j
 refine⟨e,C,d,H,rfl,I.os,I.bare,?_,kE I.hok F.ex g3 S,F.wD I.hok hn S,hE⟩
 refine tW (l:=envOfC qual scope s0.heap.objs.size f cd::outer) I.base S (fun b j o vs ho hd=>?_) (fun b o q j=>?_) fun b j=>?_
 ·obtain⟨_,o',D,U⟩:=G.mem (Y b j)
  rw[ho]at D
  cases D
  exact U vs hd
 ·rcases g4 b j with z | z
  ·unfold frs at z
   rw[List.filterMap_cons]at z
   rcases hU.mp z with z | z
   ·exact absurd (Heap.lt_size q) (by rw[z];exact Nat.lt_irrefl _)
   ·exact z
  ·exact absurd (Heap.lt_size q) (Nat.not_lt.mpr z)
 ·obtain⟨_,o',D,_⟩:=S.fr.mem (Y b j)
  exact⟨o',D⟩
theorem Tz{X:Cx}{T:Addr}{fl:Value}(I:Inv X [] σ H s)(D:X.pn=[])(O:X.s_0.heap.objs.size≤T)(S:H T=none)(F:zW s.heap T fl):T≠X.env.locals∧(∀x c,X.env.cells.lookup x=some c→c≠T)∧∀p∈X.pn++([]:List (Addr×Obj)),p.1≠T:=by
 obtain⟨o,vs,J,hd,_⟩:=F
 refine⟨fun y=>?_,fun x c L y=>?_,fun p G=>?_⟩
 ·obtain⟨U,⟨o',es,ep,j,z,_⟩,_⟩:=I.loc
  rw[←y,J]at j
  cases j
  rw[hd]at z
  cases z
 ·obtain⟨v,o',j,z⟩:=I.cell x c L
  rw[y,J]at j
  cases j
  rw[hd]at z
  cases z
 ·rw[D]at G
  cases G
theorem BP(I:Inv (eU (aW P w) P w K mg base N qual scope f cd A outer s0 H0 E) [] σ H s)(F:Vl s0.heap.objs.size H s.heap e C d)(hE:E (.ref C) (some d) H) :
  (eU (aW P w) P w K mg base N qual scope f cd A outer s0 H0 E).xe (.ref e) s:=by
 obtain⟨hex,ac,T,fl,hx,Z,O,hT,L⟩:=F
 obtain⟨oT,ts,D,z,Y,S,gT⟩:=uL (v:=.none) L
 obtain⟨q1,q2,q3⟩:=Tz I rfl O hT L
 have I':=I.turned (t':=s.toks) (h':=s.heap.update T (Obj.mapFields (·.setIfInBounds 3 .none))) (fun b o hb e=>(S b hb).trans e) hT q1 (.inr O) q2 q3
 obtain⟨oe,vs,he,hc,aa,j,h1⟩:=hx
 have F':z8 s0.heap.objs.size H (s.heap.update T (Obj.mapFields (·.setIfInBounds 3 .none))) e C d:=⟨hex,ac,.ref T,⟨oe,vs,(S e (Ne.symm Z)).trans he,hc,aa,j,h1⟩,.inr ⟨T,rfl,Z,O,hT,gT⟩⟩
 obtain⟨af,ae,G,J,h3⟩:=L
 rw[D]at G
 cases G
 rw[z]at J
 cases J
 show wpAny (model P w) (A.deeper (envOfC qual scope s0.heap.objs.size f cd)) (leaving (envOfC qual scope s0.heap.objs.size f cd) (.ref e)) _ _ s
 unfold leaving
 refine wpAny_bind ?_
 unfold noteFrame
 have hf:(envOfC qual scope s0.heap.objs.size f cd).frame=some s0.heap.objs.size:=rfl
 simp only[hf]
 refine wpAny_bind (wpAny_field he j h1 ?_)
 rw[jI (show(Value.ref T != Value.none)=true from by simp)]
 refine wpAny_bind (wpAny_field D z h3 ?_)
 by_cases U:(fl==rawInt s0.heap.objs.size)=true
 ·rw[jI U]
  refine wpAny_pure ?_
  unfold setFlight
  refine wpAny_bind (wpAny_field he j h1 ?_)
  rw[jI (show(Value.ref T != Value.none)=true from by simp)]
  exact wpAny_setField D z Y (Ql I' F' hE)
 ·rw[i9 U]
  refine wpAny_bind (wpAny_setField D z Y ?_)
  exact zj (s:={ s with heap:=s.heap.update T (Obj.mapFields (·.setIfInBounds 3 .none)) }) I' F' hE
end
end XL
end
section
namespace XL
open PySem PySem.Spec PyProof.Rows L2
noncomputable abbrev di(X:Cx)(E:Value→Shared→Prop):Cx:={ X with xe:=E }
theorem Hb{X:Cx}{pins:List (Addr×Obj)}{σ:L2.St}{H:Hp}{s:Shared}{E:Value→Shared→Prop}(I:Inv X pins σ H s):Inv (di X E) pins σ H s :=
 ⟨⟨I.ok.mod,I.ok.kind,I.ok.glob,I.ok.blt,I.ok.above,I.ok.inj,I.ok.has,I.ok.cab,I.ok.hd,I.ok.frames,I.ok.stk,I.ok.exf,I.ok.bs,I.ok.bsz,I.ok.noex,I.ok.exfs,I.ok.nO,I.ok.frf⟩,I.os,I.bare,I.base,I.loc,I.cell,I.free,I.freeC,I.pin,I.hok,I.len⟩
theorem Bs{x:Value}{a b:Env}(h:a.frame=b.frame):noteFrame x a=noteFrame x b:=by
 unfold noteFrame PySem.frameOf
 rw[h]
noncomputable def tR(X:Cx)(E:XK):Prop:=X.pn=[]∧(∃env outer L,X.stack=env::outer∧X.env.frame=env.frame∧env.frame=some L)∧∀(σ:L2.St)(H:Hp)(s:Shared)(e C d:Addr),Inv X [] σ H s→Vl X.s_0.heap.objs.size H s.heap e C d→E (.ref C) (some d) H→X.xe (.ref e) s
theorem Ab{P:Program}{w:World}{K:PySem.W.Frag}{mg:Str→Option Value}{base:Heap}{N:List Str}{qual:Str}{scope:Scope}{f:Addr}{cd:Value}{A:Around}{outer:List Env}{s0:Shared}{H0:Hp}{E:XK} :
  tR (eU (aW P w) P w K mg base N qual scope f cd A outer s0 H0 E) E:=⟨rfl,⟨_,_,_,rfl,rfl,rfl⟩,fun σ H s e C d I F j=>BP I F j⟩
theorem P_{X:Cx}{pins:List (Addr×Obj)}{σ:L2.St}{H:Hp}{s:Shared}(I:Inv X pins σ H s):Inv X [] σ H s:=I.xn fun p j=>I.pin p (List.mem_append_left _ (by simpa using j))
theorem Cq{X:Cx}{E:XK}{pins:List (Addr×Obj)}{σ:L2.St}{H3:Hp}{G:Shared}{scope:Scope}{ce:Env}{fp:List Addr}{use:Option (Value→Sem Unit)}{Qf:Value→Shared→Prop}{D:Value}(hX:tR X E)(I3:Inv X pins σ H3 G)(cL:ce.locals=G.heap.objs.size)(cf:ce.frame=X.env.frame)(f3:∀b∈fp,mZ X pins H3 b∧b<G.heap.objs.size) :
  Throws (di (X.blk G H3 scope ce fp) (notedBy (model X.prog X.w) X.A ce fun e s'=>compPost (model X.prog X.w) X.A X.xe use Qf D G.heap.objs.size (.error e) s')) E:=by
 intro qs τ H s m e C d I hm hp F hE
 obtain⟨a6,⟨env,outer,L,j,a3,hf⟩,hX⟩:=hX
 have aS:X.A.frames=some (env::outer):=by rw[←j];exact I.ok.frames
 have ai:s.heap.FunFrames X.base (env::outer):=by rw[←j];exact I.stack
 have sub:∀b∈frs (env::outer),H b=none:=by rw[←j];exact I.jb
 obtain⟨as,g1,g2,g3,g4,g5,g6⟩:=F.ground (frs (env::outer)) sub
 show wpAny (model X.prog X.w) X.A (noteFrame (.ref e) ce) _ _ s
 rw[Bs (cf.trans a3)]
 refine xF (L:=L) aS (PySem.W.funFrames_hide ai fun env he b O=>g1 b (List.mem_filterMap.mpr ⟨env,he,O⟩)) hf g5 (fun b o q=>PySem.W.of_hideAll _ q) (PySem.W.hideAll_none _ g2) fun h1 S=>?_
 have I1:=km (X:=di (X.blk G H3 scope ce fp) _) I F hm hp g3 (by show ∀b∈as,b∈frs X.stack∨m≤b;rw[j];exact g4) (by show ∀b∈as,b=e∨b∈frs X.stack∨_;rw[j];exact g6) (by show Nf _ X.stack _ _ _ _ _ _;rw[j];exact S)
 obtain⟨mm,aa,_⟩:=I1.loc
 have aa:h1.Ns ce.locals mm:=aa
 have Y:h1.Ns G.heap.objs.size mm:=by rw[←cL];exact aa
 refine⟨mm,Y,fun h2 sb U a5=>?_⟩
 have IX:Inv X pins σ H { s with heap:=h1 }:=I3.call' (ch:=fp) I1.os I1.base I1.hok I1.bare fun b O=>⟨(f3 b O).1.2.2.2.1,(f3 b O).1.2.1,(f3 b O).1.2.2.2.2.1,(f3 b O).1.2.2.2.2.2⟩
 have nC:H G.heap.objs.size=none:=by
  have z:H ce.locals=none:=I1.free
  rw[cL]at z
  exact z
 have fC:=I3.zB (H':=H) (b:=G.heap.objs.size) (f' _) nC
 obtain⟨f0,f1,f2,f4,f5,f6⟩:=fC
 have IY:Inv X pins σ H { s with heap:=h2 }:=IX.turned (t':=s.toks) (fun b o O q=>(sb.2 b O).trans q) f0 f1 f4 f5 f6
 obtain⟨T,⟨oe,vs,he,hc,ay,J,ac⟩,ar,a7,aw,af⟩:=S.ex
 have ae:G.heap.objs.size≤m:=hm
 have ah:m≤s.heap.objs.size:=by
  have h1:=F.new
  obtain⟨a8,a9,aC,_⟩:=F.tb.choose_spec.1
  exact ip h1 (Nat.le_of_lt (Heap.lt_size aC))
 have nT:H T=none:=I.hok.fresh af
 have aI:e≠G.heap.objs.size:=fun z=>by have:=F.ex;rw[z,nC]at this;cases this
 have aT:T≠G.heap.objs.size:=fun z=>by
  obtain⟨o,ts,ho,hd,_⟩:=aw
  obtain⟨o',es,ep,av,ax,_⟩:=Y
  rw[←z,ho]at av
  cases av
  rw[hd]at ax
  cases ax
 have Z:h2.get? e=some oe:=(sb.2 e aI).trans he
 have ag:zW h2 T (rawInt L):=by
  obtain⟨o,ts,ho,hd,h3⟩:=aw
  exact⟨o,ts,(sb.2 T aT).trans ho,hd,h3⟩
 obtain⟨oT,ts,aE,a0,a4,al,gT⟩:=uL (v:=U.frame.elim .none fun f=>rawInt f) ag
 have fT:=I3.zB (H':=H) (b:=T) (ip ae (ip ah af)) nT
 obtain⟨w0,w1,w2,w3,w4,w5⟩:=fT
 have IZ:=IY.turned (t':=s.toks) (h':=h2.update T (Obj.mapFields (·.setIfInBounds 3 (U.frame.elim .none fun f=>rawInt f)))) (fun b o O q=>(al b O).trans q) w0 w1 w3 w4 w5
 unfold PySem.passOn
 refine wpAny_bind (wpAny_field (s:={ s with heap:=h2 }) Z J ac ?_)
 rw[i9 (show ¬((Value.ref T==Value.none)=true)from by simp)]
 refine wpAny_bind ?_
 unfold setFlight
 refine wpAny_bind (wpAny_field (s:={ s with heap:=h2 }) Z J ac ?_)
 rw[jI (show(Value.ref T != Value.none)=true from by simp)]
 refine wpAny_setField (s:={ s with heap:=h2 }) aE a0 a4 ?_
 refine wpAny_throw ?_
 have sX:X.s_0.heap.objs.size≤G.heap.objs.size:=I3.sz
 exact hX σ H _ e C d (P_ IZ) ⟨F.ex,ip sX (ip ae F.new),T,_,⟨oe,vs,(al e (Ne.symm ar)).trans Z,hc,ay,J,ac⟩,ar,ip sX (ip ae (ip ah af)),nT,gT⟩ hE
end XL
end
section
namespace XL
open PySem PySem.Spec PyProof.Rows L2
section
variable {X:Cx}
theorem Q6{α:Type}{t:Sem α}{Q j:α→Shared→Prop}{M:Model}{A:Around}{E D:Value→Shared→Prop}{s:Shared}(e:D=E)(h:wpAny M A t Q E s)(F:∀a s,Q a s→j a s):wpAny M A t j D s:=wpAny_mono h F fun _ _ z=>by rw[e];exact z
theorem Lq{Ex:XK}{pins:List (Addr×Obj)}{s:Shared}{σ:L2.St}{H:Hp}{Q:VK}{elt tg iter:Expr}{L:List Expr}{scope:Scope}{own:List (Str×Nat)}{pos pos':Pos}{wi:TI}{g:TG}{tt:TT}{te:TE}{use:Option (Value→Sem Unit)}{Qf:Value→Shared→Prop}
  (hX:tR X Ex) (hc:X.calm=true) (hN:X.N.Nodup) (I:Inv X pins σ H s) (hi:PI X tg iter wi) (ok:wu X.N X.env.scope scope own)
  (hg:∀(s:Shared)(H:Hp)(C:Addr)(cl:List (Str×Addr))(fp:List Addr)(xe:Value→Shared→Prop),PG (di (X.blk s H scope (compEnvC scope cl C X.env) fp) xe) tg g) (ht:∀(s:Shared)(H:Hp)(C:Addr)(cl:List (Str×Addr))(fp:List Addr)(xe:Value→Shared→Prop),Tp (di (X.blk s H scope (compEnvC scope cl C X.env) fp) xe) L tt)
  (he:∀(s:Shared)(H:Hp)(C:Addr)(cl:List (Str×Addr))(fp:List Addr)(xe:Value→Shared→Prop),Throws (di (X.blk s H scope (compEnvC scope cl C X.env) fp) xe) Ex→PE (di (X.blk s H scope (compEnvC scope cl C X.env) fp) xe) elt te) (hs:∀x,foldedSetIterable iter X.env x=pure x)
  (h:T6 wi g tt te (own.map (·.2)) σ H Q)
  (aI:∀D C s' m H',Inv X pins σ H' s'→Q (.ref D) H'→s'.heap.Ns C m→mZ X pins H' C→compPost (model X.prog X.w) X.A X.xe use Qf (.ref D) C (.ok .next) s') :
  wpAny (model X.prog X.w) X.A (comprehension (.ListComp elt [⟨tg,iter,L,0⟩] scope pos) scope X.env pos' (newList []) false (eval iter X.env) use) Qf X.xe s:=by
 have ae:∀y∈scope.names,y.2=.free→∃c,X.env.cells.lookup y.1=some c:=fun y hy e=>by
  rcases ok.free y hy e with k | k
  ·exact I.ok.has _ (.inl k)
  ·exact I.ok.has _ (.inr k)
 refine wpAny_comprehension_free (use:=use) rfl hs (uR ae) ok.kind (fun y hy e=>by rw[ok.uniq y hy,e])
  (cG (hi pins s σ H _ I h) fun xv s1 hx=>cG hx fun a7 s2 h2=>?_)
 obtain⟨it,fp,tn,J,H2,e,I2,T,ah,f2,q⟩:=h2
 subst e
 refine wpAny_newObj_type (qJ ?_) (by show 0≤sizeLine;decide)
 generalize hD:s2.heap.objs.size=D
 have aS:H2 D=none:=I2.hok.fresh (Nat.le_of_eq hD)
 obtain⟨W,⟨m0,w0⟩,turn⟩:=q D aS
 generalize af:({ s2 with heap:=s2.heap.push { cls:=.type "list",data:=.seq ([]:List Value).toArray } }:Shared)=F
 have I3:Inv X pins σ (upd H2 D (.lst [])) F:=by
  rw[←af]
  refine I2.laid (t':=s2.toks) (fun b o e=>Heap.get?_push_of_some _ e) (Nat.le_of_eq hD) ⟨Nat.zero_le _,[],0,.nil,?_⟩
  rw[←hD]
  exact Heap.get?_push_size _ rfl
 have h3:F.heap=s2.heap.push { cls:=.type "list",data:=.seq ([]:List Value).toArray }:=by rw[←af]
 have sz:∀b∈fp,b<s2.heap.objs.size:=fun b G=>by
  obtain⟨o,e,_⟩:=T.obj _ _ ah b G
  exact Heap.lt_size e
 have Y:∀b∈fp,mZ X pins (upd H2 D (.lst [])) b∧b<F.heap.objs.size:=fun b G=>by
  have av:=sz b G
  refine⟨⟨?_,(f2 b G).2⟩,by rw[h3,Heap.size_push];exact Nat.lt_succ_of_lt av⟩
  rw[az (by rw[←hD];exact i3 av)]
  exact(f2 b G).1
 have a3:tn 0 F.heap:=T.keep _ _ _ ah fun b _ o e=>by rw[h3];exact Heap.get?_push_of_some _ e
 have I4:=qU I3 ok hN Y
 generalize a6:cellsFrom (F.heap.objs.size+1) scope.names (bW X.env.cells scope.names [])=cl at I4 ⊢
 show codeAny _ _ (.compStart (.ListComp elt [⟨tg,iter,L,0⟩] scope pos) 0 (.ref it) (.ref D) (compEnvC scope cl F.heap.objs.size X.env)) (compPost (model X.prog X.w) X.A X.xe use Qf (.ref D) F.heap.objs.size) { F with heap:=pushCells (F.heap.push { cls:=.type "dict",data:=.dict #[] }) scope.names }
 have ax:∀b∈fp,(upd H2 D (.lst [])) b=none:=fun b G=>(Y b G).1.1
 generalize S:compEnvC scope cl F.heap.objs.size X.env=ce at I4 ⊢
 have cf:ce.frame=X.env.frame:=by subst S;rfl
 have cL:ce.locals=F.heap.objs.size:=by subst S;rfl
 generalize a9:upd H2 D (.lst [])=H3 at I3 I4 w0 ax Y
 generalize U:(notedBy (model X.prog X.w) X.A ce fun e s'=>compPost (model X.prog X.w) X.A X.xe use Qf (.ref D) F.heap.objs.size (.error e) s')=xe
 have th:Throws (di (X.blk F H3 scope ce fp) xe) Ex:=by rw[←U];exact Cq hX I3 cL cf Y
 have pg:PG (di (X.blk F H3 scope ce fp) xe) tg g:=by rw[←S];exact hg F H3 F.heap.objs.size cl fp xe
 have pt:Tp (di (X.blk F H3 scope ce fp) xe) L tt:=by rw[←S];exact ht F H3 F.heap.objs.size cl fp xe
 have pe:PE (di (X.blk F H3 scope ce fp) xe) elt te:=by subst S;exact he F H3 F.heap.objs.size cl fp xe th
 have I4:=Hb (E:=xe) I4
 generalize a0:({ F with heap:=pushCells (F.heap.push { cls:=.type "dict",data:=.dict #[] }) scope.names }:Shared)=s4 at I4 ⊢
 have ai:tn 0 s4.heap:=T.keep _ _ _ a3 fun b _ o e=>by rw[←a0];exact pushCells_keeps _ _ _ _ (Heap.get?_push_of_some _ e)
 have O:∀{σ':L2.St}{H':Hp}{s':Shared},Inv (di (X.blk F H3 scope ce fp) xe) [] σ' H' s'→(∀b∈fp,H' b=none)→∀b∈fp,mZ (di (X.blk F H3 scope ce fp) xe) [] H' b:=fun{σ' H' s'} I' hn b G =>
  ⟨hn b G,(I'.ok.exf b G).1,I'.ok.exfs b G,.inl G,fun x c e=>(I'.ok.exf b G).2 x c e,fun p hp=>absurd (show p∈([]:List (Addr×Obj))++[]from hp) (by simp)⟩
 have aa:codeAny (model X.prog X.w) X.A (.compLoop (.ListComp elt [⟨tg,iter,L,0⟩] scope pos) 0 (.ref it) (.ref D) ce) (compPost (model X.prog X.w) X.A X.xe use Qf (.ref D) F.heap.objs.size) s4:=by
  refine pq (fun n s'=>∃i H',Inv (di (X.blk F H3 scope ce fp) xe) [] (wipe σ (own.map (·.2))) H' s'∧tn i s'.heap∧(∀b∈fp,H' b=none)∧W i n H') ?_ m0 ⟨0,H3,I4,ai,ax,w0⟩
  rintro n s5 ⟨i,H5,I5,aw,n5,w5⟩
  rcases turn i n H5 w5 with⟨stop,qq⟩ | ⟨go,Nx,aT,step⟩
  ·have td:=T.done (di (X.blk F H3 scope ce fp) xe) rfl rfl rfl hc i [] s5 _ H5 (fun _ _=>False) I5 (O I5 n5) aw stop
   refine wC td fun r s6 ⟨hr,I6⟩=>?_
   subst hr
   have I7:Inv X pins σ H5 s6:=I3.call' (ch:=fp) I6.os I6.base I6.hok I6.bare fun b G=>⟨(Y b G).1.2.2.2.1,(Y b G).1.2.1,(Y b G).1.2.2.2.2.1,(Y b G).1.2.2.2.2.2⟩
   have nC:H5 F.heap.objs.size=none:=by
    have z:H5 ce.locals=none:=I6.free
    rw[cL]at z
    exact z
   obtain⟨m,hn,_⟩:=I6.loc
   have hn:s6.heap.Ns ce.locals m:=hn
   rw[cL]at hn
   exact aI D F.heap.objs.size s6 m H5 I7 qq hn (I3.zB (f' _) nC)
  ·have ti:=T.item (di (X.blk F H3 scope ce fp) xe) rfl rfl rfl hc i [] s5 _ H5 (fun _ _=>False) I5 (O I5 n5) aw go
   refine wC ti fun r s6 ⟨u,hr,h6⟩=>?_
   subst hr
   refine wC h6 fun _ s7 hz=>?_
   obtain⟨x,H7,I7,r7,y7,ac,n7⟩:=hz
   have a4:=I7.pinned (O I7 n7) (T.obj _ _ ac)
   refine Q6 U (pg _ s7 _ H7 x u _ a4 r7 (step x H7 y7)) fun _ s8 ⟨σ8,H8,I8,ar,q8⟩=>?_
   refine Q6 U (pt _ s8 σ8 H8 _ I8 q8) fun b s9 ⟨H9,I9,q9⟩=>?_
   have fin:∀{s':Shared}{H':Hp},Inv (di (X.blk F H3 scope ce fp) xe) ([]++pY fp s7.heap) σ8 H' s'→Nx H'→∃m,m<n∧∃i H',Inv (di (X.blk F H3 scope ce fp) xe) [] (wipe σ (own.map (·.2))) H' s'∧tn i s'.heap∧(∀b∈fp,H' b=none)∧W i m H':=fun{s' H'} I' nx=>by
    obtain⟨m',hm,w'⟩:=aT H' nx
    have Z:∀b∈fp,∀o,s7.heap.get? b=some o→s'.heap.get? b=some o∧H' b=none:=fun b G o e =>
     let z:=I'.pin (b,o) (List.mem_append_right _ (List.mem_append_right _ (jl G e)))
     ⟨z.1,z.2.1⟩
    have hl:(wipe σ (own.map (·.2))).length=σ8.length:=by rw[←ar,gM]
    refine⟨m',hm,i+1,H',(I'.jM (pins:=[])).weak hl (fun j v e=>?_),T.keep _ _ _ ac fun b G o e=>(Z b G o e).1,fun b G=>?_,w'⟩
    ·rw[←ar]at e
     exact(lF e).1
    ·obtain⟨o,e,_⟩:=T.obj _ _ ac b G
     exact(Z b G o e).2
   cases b with
   | false =>
    simp only[Bool.false_eq_true,if_false]at q9 ⊢
    exact fin I9 q9
   | true =>
    simp only[if_true]at q9 ⊢
    refine Q6 U (pe _ s9 σ8 H9 _ I9 q9) fun z a8 hz=>?_
    obtain⟨yv,a5,aE,aC,acc,al,ag,nx⟩:=hz
    exact MK (X:=di (X.blk F H3 scope ce fp) xe) aE al ag aC fun ba ay=>fin ay nx
 exact codeAny_compStart_list aa (T.self X.A 0 _ _ _ ai aa)
theorem Gq{Ex:XK}{i:Nat}{y:Str}{py:Pos}{elt tg iter:Expr}{j:List Expr}{scope:Scope}{own:List (Str×Nat)}{pos F:Pos}{S:TI}{g:TG}{J:TT}{te:TE}(hX:tR X Ex)(hc:X.calm=true)(hN:X.N.Nodup)(hy:X.N[i]?=some y)(G:X.env.scope.names.lookup y=some .local)
  (U:swapsWith (.ListComp elt [⟨tg,iter,j,0⟩] scope pos) (some (.Name y py)) F.line X.env=pure true) (hi:PI X tg iter S) (ok:wu X.N X.env.scope scope own)
  (hg:∀(s:Shared)(H:Hp)(C:Addr)(cl:List (Str×Addr))(fp:List Addr)(xe:Value→Shared→Prop),PG (di (X.blk s H scope (compEnvC scope cl C X.env) fp) xe) tg g) (ht:∀(s:Shared)(H:Hp)(C:Addr)(cl:List (Str×Addr))(fp:List Addr)(xe:Value→Shared→Prop),Tp (di (X.blk s H scope (compEnvC scope cl C X.env) fp) xe) j J)
  (he:∀(s:Shared)(H:Hp)(C:Addr)(cl:List (Str×Addr))(fp:List Addr)(xe:Value→Shared→Prop),Throws (di (X.blk s H scope (compEnvC scope cl C X.env) fp) xe) Ex→PE (di (X.blk s H scope (compEnvC scope cl C X.env) fp) xe) elt te) (hs:∀x,foldedSetIterable iter X.env x=pure x:=by intro _;rfl) :
  PS X (.Assign [.Name y py] (.ListComp elt [⟨tg,iter,j,0⟩] scope pos) F) (F_ (T6 S g J te (own.map (·.2))) (qP i)):=by
 intro pins s σ H D I h
 rw[exec_Assign_Name_used _ _ _ _ U]
 refine wpAny_bind (wpAny_standAt (wpAny_bind ?_))
 show wpAny _ X.A (do let _ ←comprehension (.ListComp elt [⟨tg,iter,j,0⟩] scope pos) scope X.env (firstIterPos [⟨tg,iter,j,0⟩] pos) (newList []) false (eval iter X.env) (some (assign (.Name y py) X.env))) _ _ s
 have h:T6 S g J te (own.map (·.2)) σ H (fun x H1=>qP i x σ H1 D.nx):=h
 refine wpAny_bind (cG (Lq (Qf:=fun _ s'=>SP X pins D .next s') hX hc hN I hi ok hg ht he hs h fun L C s' m H' I' q hn f=>?_) fun _ s' hq=>wpAny_pure (wpAny_pure hq))
 show wpAny _ _ (assign (.Name y py) X.env (.ref L)) _ _ _
 refine wpAny_assign_Name (vH (v:=V.ref L) I' hN hy (.inl G) rfl (fun s2 I2 ⟨a,sb,ha⟩=>?_) (.inr G))
 obtain⟨f0,f1,f2,f3,Z,f5⟩:=f
 have O:C≠a:=by
  rcases ha with z | z
  ·rw[z];exact f1
  ·exact fun e=>Z y a z e.symm
 refine⟨m,hn.sameBut sb O,fun h3 Y=>?_⟩
 exact⟨_,H',I2.turned (t':=s2.toks) (fun b o hb e=>(Y.2 b hb).trans e) f0 f1 f3 Z f5,q⟩
end
end XL
end
section
namespace SB
open PySem PySem.Spec PyProof.Rows L2 XL
open Vbdeaa (Text Exp Exps Un Bin Ins)
variable {P:Program} {w:World} {K:PySem.W.Frag} {mg:Str→Option Value} {base:Heap}
noncomputable def rT(C Cx:Addr)(h:Nat):Sp:=fun vs H Q E=>∃(a:Addr)(e:Exp)(n:Nat),vs=[.ref a,.int n]∧n≤8∧cF C H e a∧gK e∧e.height≤h∧Vbdeam.size e≤100000∧(MX.Kn n e→MT H Q (Vbdeam.codeOf n e))∧(¬MX.Kn n e→bz Cx (-8) H E)
noncomputable abbrev um:Stmt:=top 43
section
theorem eZ:aK ["node","n","rows","own","whole","row","behind","part"] ["node","n"] (aD um):=⟨rfl,rfl,rfl,by decide +kernel,rfl,by decide +kernel,by decide +kernel⟩
theorem La{f C Cx fO:Addr}{fd dO:FuncData}(F:Fn K mg "instructions_of" um f fd ["node","n"])(N:wk K C)(T:CP K mg)(bd:mg "zip"=none)(FO:Fn K mg "own_instructions" JT fO dO ["node","sizes","n"])(GO:aF P w K mg base (aW P w) 6 fO dO ["node","sizes","n"] (Jg C Cx)) :
  ∀h:Nat,aF P w K mg base (aW P w) (h+7) f fd ["node","n"] (rT C Cx h):=by
 intro h
 induction h with
 | zero =>
  refine d9 F.F eZ (fun vs H Q E h=>?_) (fun cdv A outer s H vs Q E hr h=>?_)
  ·obtain⟨_,_,_,rfl,_⟩:=h
   rfl
  ·obtain⟨a,e,n,rfl,_,hn,_,hh,k⟩:=h
   have:0<e.height:=by rw[vV];omega
   omega
 | succ h ih =>
  refine d9 F.F eZ (fun vs H Q E h=>?_) (fun cdv A outer s H vs Q E hr h=>?_)
  ·obtain⟨_,_,_,rfl,_⟩:=h
   rfl
  ·obtain⟨a,e,n,rfl,a9,hn,a8,hh,hsz,k,kr⟩:=h
   obtain⟨dx,D,l,as,h1,hD,hl,hp⟩:=oZ hn
   have cg:bG 6 _:=hr.mono (by omega)
   have cw:=Lr e
   refine⟨_,aq (Gq (Ex:=E) (i:=2) (own:=[("part",7)]) (te:=qz (rT C Cx h) [] E (aZ (pP 7) (aZ (pP 1) cY))) Ab rfl eZ.nd rfl rfl (Nr rfl rfl rfl rfl) (ji (aJ (pv 0) rfl)) (iW (by kernel_rfl))
     (fun _ _ _ _ _ _=>by exact cW (i:=7) eZ.nd rfl (Or.inl rfl)) (fun _ _ _ _ _ _=>by exact lJ)
     (fun _ _ _ _ _ _ th=>by exact a_ ih hr rfl F.m F.F.kp F.b .nil th.passes (aj (pv 7) (aj (pv 1) au))))
    (aq (bu (i:=3) eZ.nd rfl (Or.inl rfl) (a_ GO cg rfl FO.m FO.F.kp FO.b .nil passes (aj (pv 0) (aj (yU (own:=[("row",5)]) (te:=Qy (QD K) (aZ (pP 5) cY)) rfl eZ.nd (ji (pv 2)) (iW (by kernel_rfl))
      (fun _ _ _ _ _=>by exact cW (i:=5) eZ.nd rfl (Or.inl rfl)) (fun _ _ _ _ _=>by exact lJ)
      (fun _ _ _ _ _=>by exact b7 (r:=QD K) (id:="len") bJ (by rfl) T.len (by decide +kernel) (aj (pv 5) au))) (aj (pv 1) au)))))
    (aq (bu (i:=4) eZ.nd rfl (Or.inl rfl) (iI xZ (by rfl) T.list (by decide +kernel) (aj (bZ dh (pv 3) aB (fun _ _=>rfl)) au)))
    (aq (uq rC rfl (Rw rfl bd (aj (pv 2) (aj (jZ rW (pv 3) (gR aB) DQ) au)))
     (Kr rfl (iH (cW (i:=5) eZ.nd rfl (Or.inl rfl)) (iH (cW (i:=6) eZ.nd rfl (Or.inl rfl)) DW)))
     (aq (aM (gB PySem.F.plainAttrs_list PySem.F.slot_list_extend PySem.F.type_list_extend vO (pv 4) (aj (pv 5) au)))
      (ao (aM (gB PySem.F.plainAttrs_list PySem.F.slot_list_extend PySem.F.type_list_extend vO (pv 4) (aj (pv 6) au))))))
    (ao (aV (pv 4)))))),?_⟩
   refine⟨_,rfl,a,C,dx,_,_,rfl,h1,N.cl,N.nP,rfl,l,rfl,⟨_,bV.of hl⟩,fun L hL=>?_⟩
   refine lV (K:=K) (a:=l) (xs:=as.map V.ref) (fun i H'=>aA H H'∧(∀x∈(kids e).take i,MX.Kn n x)∧∃ps:List Addr,H' L=some (.lst (ps.map V.ref))∧Paired (fun kd p=>p≠L∧dw H' (Vbdeam.codeOf n kd) p) ((kids e).take i) ps) ⟨aA.upd hL,fun x hx=>by simp at hx,[],ak,.nil⟩ (fun i H' _ ⟨s1,_⟩=>bV.of (s1 _ _ hl)) ?_ ?_
   ·rintro i y H' hi ⟨s1,ai,ps,U,aa⟩
    obtain⟨b,hb,rfl⟩:=oW hi
    obtain⟨kd,O,ca⟩:=BR hp hb
    have ag:=j6 O
    have cj:i<(kids e).length:=(hZ.mp O).1
    have b6:ps.length=i:=by
     rw[←Paired.length aa,ii]
     omega
    refine⟨rfl,_,rfl,_,rfl,b,kd,n,rfl,a9,ca.same s1,a8.kid ag,by have:=qN ag;omega,by have:=Ls ag;omega,fun a3 pl ts H2 Z s2 b2 G cx=>?_,fun a3=>(kr fun z=>a3 (((xH n e).mp z).2 kd ag)).mono s1⟩
    have bv:pl≠L:=fun z=>by rw[z,U]at Z;cases Z
    have aI:=s2 _ _ U
    refine⟨_,aI,?_,?_,?_,ps++[pl],?_,?_⟩
    ·rw[ap,b6]
     exact ib (by omega:i<100000) (by decide)
    ·intro b o q
     rw[az (aH q hL)]
     exact s2 _ _ (s1 _ _ q)
    ·intro x hx
     rw[List.take_succ,O]at hx
     rcases List.mem_append.mp hx with hx | hx
     ·exact ai x hx
     ·obtain rfl:=List.mem_singleton.mp hx
      exact a3
    ·rw[ak,ka]
     rfl
    ·rw[List.take_succ,O]
     have sx:bC L H2 (L2.upd H2 L (.lst (ps.map V.ref++[V.ref pl]))):=bC.wy fun _ _ q _=>q
     refine cu (cP aa fun t p _ ⟨q1,q2⟩=>⟨q1,(q2.same s2).oJ aI q1 sx⟩) ⟨bv,dw.oJ aI bv sx ⟨ts,b2,G⟩⟩
   rintro H2 ⟨s1,ai,ps,U,ax⟩
   rw[ap,←Paired.length hp,List.take_length]at ax ai
   have aa:Paired (fun kd p=>dw H2 (Vbdeam.codeOf n kd) p) (kids e) ps:=cP ax fun _ _ _ q=>q.2
   have Z:ps.length=(kids e).length:=(Paired.length aa).symm
   refine⟨_,rfl,_,rfl,L,rfl,⟨_,bV.of U⟩,fun S hS=>?_⟩
   refine lV (K:=K) (a:=L) (xs:=ps.map V.ref) (fun i H'=>aA H2 H'∧H' S=some (.lst (((lens n e).take i).map fun(x:Nat)=>V.int x))) ⟨aA.upd hS,ak⟩ (fun i H' _ ⟨s2,_⟩=>bV.of (s2 _ _ U)) ?_ ?_
   ·rintro i y H' hi ⟨s2,av⟩
    obtain⟨p,cm,rfl⟩:=oW hi
    obtain⟨kd,O,ts,cv,G⟩:=BR aa cm
    have cj:i<(kids e).length:=(hZ.mp O).1
    refine⟨rfl,_,rfl,p,_,rfl,.inl (bV.of (s2 _ _ cv)),_,av,?_,?_,?_⟩
    ·rw[ap,ii]
     exact iN (Nat.min_le_left _ _) (ib (by omega:i<100000) (by decide))
    ·intro b o q
     rw[az (aH q hS)]
     exact s2 _ _ q
    ·rw[ak]
     have e1:(lens n e)[i]?=some ts.length:=by unfold lens;rw[iA,O,oV G];rfl
     rw[List.take_succ,e1,ap,ka]
     rfl
   rintro H3 ⟨s2,av⟩
   have bR:(lens n e).length=(kids e).length:=by unfold lens;rw[ap]
   rw[ap,Z,←bR,List.take_length]at av
   have aT:=s1.trans s2
   refine⟨_,rfl,a,S,e,lens n e,n,rfl,a9,hn.same aT,a8.top,av,bR,by omega,fun a6 lo H4 cA s3 ⟨ls,aC,bi⟩=>?_,fun a6=>(kr fun z=>a6 ((xH n e).mp z).1).mono aT⟩
   have k:=k ((xH n e).mpr ⟨a6,ai⟩)
   obtain⟨Y,os,bx⟩:∃Y os,Bp n (lens n e) e=Y::os:=by
    cases q:Bp n (lens n e) e with
    | nil=>have:=Ea n (lens n e) e;rw[q]at this;cases this
    | cons x r=>exact⟨_,_,rfl⟩
   have al:os.length=(kids e).length:=by have:=Ea n (lens n e) e;rw[bx]at this;simpa using this
   have ac:=Hh n e
   rw[bx]at bi ac
   have ac:Y++dX ((kids e).map (Vbdeam.codeOf n)) os=Vbdeam.codeOf n e:=ac
   have cy:=cT n e
   obtain⟨q0,lr,rfl,⟨af,cs,a0⟩,bS⟩:∃q0 lr,ls=q0::lr∧dw H4 Y q0∧Paired (dw H4) os lr:=by
    cases bi with
    | cons a b=>exact⟨_,_,rfl,a,b⟩
   have b4:lr.length=(kids e).length:=by rw[←Paired.length bS,al]
   have bX:=aT.trans s3
   refine⟨_,rfl,lo,_,_,_,rfl,rfl,bV.of aC,at_of (j:=0) rfl rfl,q0,_,rfl,.inl (bV.of cs),fun J ah=>?_⟩
   have s4:aA H4 (L2.upd H4 J (.lst (af.map V.ref))):=aA.upd ah
   have aE:H J=none:=same_none bX ah
   refine⟨_,rfl,_,rfl,1,rfl,lo,_,rfl,bV.of (s4 _ _ aC),fun p aS=>?_⟩
   have bP:nU ((q0::lr).map V.ref) (some 1) none=lr.map V.ref:=Vb _ _
   rw[bP]
   have b0:J≠p:=fun z=>by rw[←z,ak]at aS;cases aS
   generalize a4:L2.upd (L2.upd H4 J (.lst (af.map V.ref))) p (.lst (lr.map V.ref))=H5
   have s5:aA H4 H5:=by rw[←a4];exact s4.trans (aA.upd aS)
   have b3:H5 p=some (.lst (lr.map V.ref)):=by rw[←a4];exact ak
   have a5:H5 J=some (.lst (af.map V.ref)):=by rw[←a4,az b0];exact ak
   have bb:aA H2 H5:=(s2.trans s3).trans s5
   have b5:=bb _ _ U
   have b9:L≠J:=fun z=>by have:=(s2.trans s3) _ _ U;rw[z,ah]at this;cases this
   have bE:(ps.map V.ref).length=(lr.map V.ref).length:=by rw[ap,ap,Z,b4]
   refine⟨L,p,_,_,rfl,bV.of b5,bV.of b3,Qj (K:=K) (a:=L) (b:=p) (xs:=ps.map V.ref) (ys:=lr.map V.ref) bE
    (fun i σ H'=>∃v5 v6 v7:Option V,σ=[some (.ref a),some (.int n),some (.ref L),some (.ref lo),some (.ref J),v5,v6,v7]∧bC J H5 H'∧∃ts:List Addr,H' J=some (.lst (ts.map V.ref))∧cZ H' (Y++dX (((kids e).map (Vbdeam.codeOf n)).take i) (os.take i)) ts)
    ⟨none,none,none,rfl,fun _ _ q _=>q,af,a5,?_⟩ (fun i σ H' _ ⟨_,_,_,_,sx,_⟩=>⟨bV.of (sx _ _ b5 b9),bV.of (sx _ _ b3 (Ne.symm b0))⟩) ?_ ?_⟩
   ·have:Y++dX (((kids e).map (Vbdeam.codeOf n)).take 0) (os.take 0)=Y:=by
     show Y++[]=Y
     exact i6 _
    rw[this]
    exact a0.same s5
   ·rintro i x y σ H' Tt hx hy ⟨v5,v6,v7,rfl,sx,ts,hw,G⟩ hT
    obtain⟨pr,ck,rfl⟩:=oW hx
    obtain⟨pb,cc,rfl⟩:=oW hy
    obtain⟨kd,O,bf⟩:=BR aa ck
    have cp:i<os.length:=by rw[al];exact(hZ.mp O).1
    obtain⟨ob,bo⟩:∃ob,os[i]?=some ob:=⟨_,ic cp⟩
    obtain⟨cC,aw,ba⟩:=d8 bS bo
    rw[cc]at aw
    cases aw
    have e1:((kids e).map (Vbdeam.codeOf n))[i]?=some (Vbdeam.codeOf n kd):=by rw[iA,O];rfl
    have step:Y++dX (((kids e).map (Vbdeam.codeOf n)).take (i+1)) (os.take (i+1))=(Y++dX (((kids e).map (Vbdeam.codeOf n)).take i) (os.take i))++Vbdeam.codeOf n kd++ob:=by
     rw[List.take_succ,List.take_succ,e1,bo]
     show Y++dX (_++[_]) (_++[_])=_
     rw[uI _ _ _ _ (by rw[ii,ii,ap,al])]
     simp only[ij]
    have cE:=vX ((kids e).map (Vbdeam.codeOf n)) os (i+1)
    have bt:(Y++dX (((kids e).map (Vbdeam.codeOf n)).take (i+1)) (os.take (i+1))).length≤500000:=by
     have:(Y++dX ((kids e).map (Vbdeam.codeOf n)) os).length≤500000:=by rw[ac];omega
     rw[gc]at this ⊢
     omega
    rw[step,gc,gc]at bt
    have bq:∀{c:Vbdeaa.Code}{q:Addr},dw H4 c q→q≠J:=fun⟨_,z,_⟩=>aH z ah
    have b1:dw H5 (Vbdeam.codeOf n kd) pr:=bf.same bb
    have bg:pr≠J:=bq (bf.same (s2.trans s3))
    have ay:pb≠J:=bq ba
    have cB:J≠Tt:=fun z=>by rw[z,hT]at hw;cases hw
    have sT:aA H' (L2.upd H' Tt (.tup [V.ref pr,V.ref pb])):=aA.upd hT
    obtain⟨tr,cf,bp⟩:=(b1.oJ a5 bg sx).same sT
    obtain⟨tb,cn,bn⟩:=((ba.same s5).oJ a5 ay sx).same sT
    have ae:=sT _ _ hw
    generalize cq:L2.upd H' Tt (.tup [V.ref pr,V.ref pb])=HT at *
    have cb:HT Tt=some (.tup [V.ref pr,V.ref pb]):=by rw[←cq];exact ak
    have l1:=oV G
    have l2:=oV bp
    have l3:=oV bn
    have big:(500000:Nat)≤sizeLine:=by decide
    refine⟨Tt,_,rfl,cR.of cb,rfl,_,_,rfl,_,_,rfl,rfl,?_⟩
    refine⟨_,rfl,.inl ⟨rfl,_,bV.of ae⟩,_,rfl,J,pr,_,_,rfl,rfl,ae,cf,by rw[ap,ap];omega,?_⟩
    have be:bC J HT (L2.upd HT J (.lst (ts.map V.ref++tr.map V.ref))):=bC.wy fun _ _ q _=>q
    have a7:=be _ _ cn ay
    refine⟨_,rfl,.inl ⟨rfl,_,bV.of ak⟩,_,rfl,J,pb,_,_,rfl,rfl,ak,a7,by rw[gc,ap,ap,ap];omega,?_⟩
    have ar:bC J HT (L2.upd (L2.upd HT J (.lst (ts.map V.ref++tr.map V.ref))) J (.lst (ts.map V.ref++tr.map V.ref++tb.map V.ref))):=be.wy
    refine⟨_,_,_,rfl,(bC.trans sx fun c o q _=>sT c o q).trans ar,ts++tr++tb,by rw[ak,ka,ka],?_⟩
    rw[step]
    exact qD (qD ((G.same sT).oJ ae ar) (bp.oJ ae ar)) (bn.oJ ae ar)
   ·rintro σ H' ⟨v5,v6,v7,rfl,sx,ts,hw,G⟩
    refine⟨_,rfl,k J ts H' aE (bC.same aE (bX.trans s5) sx) hw ?_ (J7 hw G)⟩
    rw[ap,Z,show(kids e).length=((kids e).map (Vbdeam.codeOf n)).length by rw[ap],List.take_length,show((kids e).map (Vbdeam.codeOf n)).length=os.length by rw[ap,al],List.take_length,ac]at G
    exact G
end
end SB
end
section
namespace PySem.SeqAt
open AutoSeq1 (wpAny_loadPart')
open MeetsSeq MeetsSeq2 MeetsSeq3 SeqRoads2
theorem m5(l:Addr)(items:Array Value)(n:Nat)(dd:Option Addr)(sl:Array (Option Value))(x:Value)(e:Value→Bool)(j:Nat)(hj:j<items.size)
  (hit:e items[j]=true) (J:∀m (O:m<items.size),m<j→e items[m]=false) :
  Meets (Builtin.«tuple.index» ⟨[.ref l,x],[]⟩)
   (fun A R s=>s.heap.get? l=some { cls:=.type "tuple",dict:=dd,data:=.seq items n,slots:=sl }∧(∀y,y∈items→EqAt A.in1 s y x (e y))∧R (.ok (.ret (.int j s.toks))) { s with toks:=s.toks+1 }) :=
 .of_wp fun prog w A R s h=>by
  obtain⟨Y,g,d,tk,os⟩:=s;obtain⟨U,Z,h⟩:=h
  unfold Builtin.«tuple.index»
  simp only[Std.Legacy.Range.forIn_eq_forIn_range']
  wp_walk using wpAny_loadPart' U,wpAny_forIn_list _ (fun rest b s'=>b.1=none∧s'=⟨Y,g,d,tk,os⟩∧∃i,i≤j∧rest=(List.range' 0 items.size 1).drop i) _
  case turn =>
   rintro i rest b s' ⟨G,rfl,m,O,hz⟩
   have D:m<(List.range' 0 items.size 1).length:=by rw[List.length_range'];omega
   have z:m<items.size:=by omega
   rw[List.drop_eq_getElem_cons D]at hz
   injection hz with hi F
   have hi:i=m:=by rw[hi];simp
   subst hi
   have S:items[i]?=some items[i]:=by simp[z]
   rw[S]
   refine wpAny_bind (Z _ (Array.getElem_mem z) prog w _ _ ?_)
   by_cases L:i=j
   ·subst L
    rw[hit]
    wp_walk
    exact⟨_,rfl,h⟩
   ·rw[J i z (by omega)]
    wp_walk
    exact⟨rfl,rfl,i+1,by omega,F⟩
  case fin =>
   rintro b s' ⟨G,rfl,m,O,hz⟩
   have D:m<(List.range' 0 items.size 1).length:=by rw[List.length_range'];omega
   rw[List.drop_eq_getElem_cons D]at hz
   cases hz
  case h =>
   refine⟨rfl,rfl,0,Nat.zero_le _,?_⟩
   simp[Std.Legacy.Range.size]
end PySem.SeqAt
namespace L2
open PySem PySem.Spec PyProof.Rows
section
variable {X:Cx}
noncomputable def zZ(v u:V):Bool:=fV v&&Mm v u
noncomputable def N8(K:PySem.W.Frag)(neg:Bool):R2:=fun x y H Q=>∃(p q:Addr)(a b:Str)(v u:V),x=.ref p∧y=.ref q∧cR K H p [.str a,v]∧cR K H q [.str b,u]∧((∃c,u=.str c)∨∃c,u=.int c)∧(fV v=true∨∃r zs,v=.ref r∧cR K H r zs) ∧
 Q (.bl (if neg then !(decide (a=b)&&zZ v u)else(decide (a=b)&&zZ v u))) H
theorem vC{A:Around}{pins:List (Addr×Obj)}{σ:L2.St}{H:Hp}{s:Shared}{its z:List Value}{a b:Str}{v u:V}(Y:A.units<cLine)(I:Inv X pins σ H s)(r1:Vals [.str a,v] its)(r2:Vals [.str b,u] z)(S:(∃c,u=.str c)∨∃c,u=.int c)(D:fV v=true∨∃r zs,v=.ref r∧cR X.K H r zs) :
  its.toArray.size=2∧z.toArray.size=2∧∀j (h1:j<its.toArray.size) (h2:j<z.toArray.size),SeqAt.EqAt A s its.toArray[j] z.toArray[j] (if j=0 then decide (a=b)else zZ v u):=by
 cases r1 with
 | cons ra rt =>
  cases rt with
  | cons L Z =>
   cases Z
   cases r2 with
   | cons rb F =>
    cases F with
    | cons J G =>
     cases G
     refine⟨rfl,rfl,fun j h1 h2=>?_⟩
     have:j=0∨j=1:=by have:j<2:=h1;omega
     rcases this with rfl | rfl
     ·obtain⟨t1,rfl⟩:=ra
      obtain⟨t2,rfl⟩:=rb
      rw[jI rfl,show decide (a=b)=(a==b) by rw[Bool.beq_eq_decide_eq]]
      exact SeqAt.EqAt.str_str a t1 b t2
     ·rw[i9 (by decide)]
      have fu:fV u=true:=by rcases S with⟨c,rfl⟩ | ⟨c,rfl⟩<;>rfl
      rcases D with D | ⟨r,zs,rfl,hz⟩
      ·unfold zZ
       rw[D,Bool.true_and]
       exact Mp L J D fu
      ·cases L
       obtain⟨U,_,O,_⟩:=I.tuple hz
       rcases S with⟨c,rfl⟩ | ⟨c,rfl⟩
       ·obtain⟨t2,rfl⟩:=J
        exact SeqAt.EqAt.tuple_str c t2 O Y
       ·obtain⟨t2,rfl⟩:=J
        exact SeqAt.EqAt.tuple_int c t2 O Y
theorem dq(z:X.A.units+1<cLine):oA X (compareOp .Eq) (N8 X.K false):=by
 intro pins s σ H x y v u Q I Y G h
 obtain⟨p,q,a,b,D,F,rfl,rfl,h1,h2,L,O,k⟩:=h
 cases Y
 cases G
 obtain⟨i1,J,t1,_⟩:=I.tuple h1
 obtain⟨Z,U,t2,_⟩:=I.tuple h2
 obtain⟨e1,e2,S⟩:=vC (A:=X.A.in1) (by first | exact Nat.lt_of_succ_lt z | exact z | simpa using z) I J U L O
 refine SeqAt.eq_tupleAt t1 t2 (by omega) S ⟨.bl _,H,I,rfl,?_⟩
 rw[e1,e2]
 have:((List.range (min 2 2)).all (fun j=>if j=0 then decide (a=b)else zZ D F)&&(2==2:Bool))=(decide (a=b)&&zZ D F):=by
  show((decide (a=b)&&(zZ D F&&true))&&true)=_
  simp
 rw[this]
 exact k
theorem Gv(z:X.A.units+1<cLine):oA X (compareOp .NotEq) (N8 X.K true):=by
 intro pins s σ H x y v u Q I Y G h
 obtain⟨p,q,a,b,D,F,rfl,rfl,h1,h2,L,O,k⟩:=h
 cases Y
 cases G
 obtain⟨i1,J,t1,_⟩:=I.tuple h1
 obtain⟨Z,U,t2,_⟩:=I.tuple h2
 obtain⟨e1,e2,S⟩:=vC (A:=X.A.in1) (by first | exact Nat.lt_of_succ_lt z | exact z | simpa using z) I J U L O
 refine(SeqAt.RcNeAt.tuples t1 t2 (by omega) S) X.prog X.w X.xe _ ⟨.bl _,H,I,rfl,?_⟩
 rw[e1,e2]
 have:((List.range (min 2 2)).all (fun j=>if j=0 then decide (a=b)else zZ D F)&&(2==2:Bool))=(decide (a=b)&&zZ D F):=by
  show((decide (a=b)&&(zZ D F&&true))&&true)=_
  simp
 rw[this]
 exact k
end
end L2
end
section
namespace L2
open PySem PySem.Spec PyProof.Rows
section
variable {X:Cx}
theorem yu{A:Around}{s:Shared}:∀{xs ys:List Int}{i1 z:List Value},Vals (xs.map V.int) i1→Vals (ys.map V.int) z→i1.length=xs.length∧z.length=ys.length∧∀j (h1:j<i1.length) (h2:j<z.length),SeqAt.EqAt A s i1[j] z[j] (decide (xs[j]?=ys[j]?))
 | [],ys,_,z,.nil,F=>⟨rfl,by rw[←F.length,ap],fun j h1 _=>absurd h1 (Nat.not_lt_zero _)⟩
 | x::xs,[],_,_,D,.nil=>⟨by rw[←D.length,ap],rfl,fun j _ h2=>absurd h2 (Nat.not_lt_zero _)⟩
 | x::xs,y::ys,_,_,.cons a D,.cons b F=>by
  obtain⟨h1,h2,J⟩:=yu (A:=A) (s:=s) D F
  refine⟨congrArg (·+1) h1,congrArg (·+1) h2,fun j L G=>?_⟩
  cases j with
  | zero =>
   obtain⟨t1,rfl⟩:=a
   obtain⟨t2,rfl⟩:=b
   have:=SeqAt.EqAt.int_int (A:=A) (s:=s) x t1 y t2
   rw[Bool.beq_eq_decide_eq]at this
   simpa using this
  | succ j=>exact J j (by simpa using L) (by simpa using G)
theorem J8{xs ys:List Int}:((List.range (min xs.length ys.length)).all (fun j=>decide (xs[j]?=ys[j]?))&&(xs.length==ys.length))=decide (xs=ys):=by
 rw[iX,h9,jv,j5,beq_iff_eq]
 constructor
 ·rintro⟨h1,h2⟩
  apply List.ext_getElem? fun j=>?_
  by_cases z:j<xs.length
  ·exact js (h1 j (j'.mpr (by omega)))
  ·rw[List.getElem?_eq_none (by omega),List.getElem?_eq_none (by omega)]
 ·rintro rfl
  exact⟨fun j _=>i8 rfl,rfl⟩
theorem oE:∀{xs ys:List Int}{us:List Value},Vals (xs.map V.int) us→Vals (ys.map V.int) us→xs=ys
 | [],[],_,_,_=>rfl
 | [],y::ys,_,.nil,z=>by cases z
 | x::xs,[],_,j,.nil=>by cases j
 | x::xs,y::ys,_,.cons a j,.cons b z=>by
  obtain⟨t,rfl⟩:=a
  obtain⟨t',e⟩:=b
  cases e
  rw[oE j z]
theorem oF{pins:List (Addr×Obj)}{σ:L2.St}{H:Hp}{s:Shared}{a:Addr}{xs ys:List Int}(I:Inv X pins σ H s)(h1:cR X.K H a (xs.map V.int))(h2:cR X.K H a (ys.map V.int)):xs=ys:=by
 obtain⟨i1,G,t1,_⟩:=I.tuple h1
 obtain⟨D,L,t2,_⟩:=I.tuple h2
 obtain⟨Y,J,_,U,F⟩:=t1
 obtain⟨O,j,_,S,z⟩:=t2
 rw[J]at j
 cases j
 rw[F]at z
 injection z with e1 e2
 have e1:i1=D:=by simpa using congrArg Array.toList e1
 subst e1
 exact oE G L
theorem Hk{A:Around}{pins:List (Addr×Obj)}{σ:L2.St}{H:Hp}{s:Shared}{a b:Addr}{xs ys:List Int}(J:A.units<cLine)(I:Inv X pins σ H s)(h1:cR X.K H a (xs.map V.int))(h2:cR X.K H b (ys.map V.int)):SeqAt.EqAt A s (.ref a) (.ref b) (decide (xs=ys)):=by
 by_cases z:a=b
 ·subst z
  rw[oF I h1 h2,i8 rfl]
  exact SeqAt.EqAt.same _
 ·obtain⟨i1,G,t1,_⟩:=I.tuple h1
  obtain⟨D,O,t2,_⟩:=I.tuple h2
  obtain⟨e1,e2,S⟩:=yu (A:=A.in1) (s:=s) G O
  have:=SeqAt.RcAt.tuples (A:=A) (s:=s) t1 t2 J (e:=fun j=>decide (xs[j]?=ys[j]?)) (fun j L F=>by simpa using S j (by simpa using L) (by simpa using F))
  rw[show i1.toArray.size=xs.length by simpa using e1,show D.toArray.size=ys.length by simpa using e2,J8]at this
  exact SeqAt.EqAt.of_refs z this
noncomputable def qx(K:PySem.W.Frag)(H:Hp)(rows:List (List Int))(vs:List V):Prop:=Paired (fun row v=>∃a,v=V.ref a∧cR K H a (row.map V.int)) rows vs
open Classical in
noncomputable def eqRow(K:PySem.W.Frag)(H:Hp)(row:List Int)(u:Value):Bool:=decide (∃a,u=.ref a∧cR K H a (row.map V.int))
theorem uN{pins:List (Addr×Obj)}{σ:L2.St}{H:Hp}{s:Shared}{a:Addr}{xs row:List Int}(I:Inv X pins σ H s)(h:cR X.K H a (xs.map V.int)):eqRow X.K H row (.ref a)=decide (xs=row):=by
 unfold eqRow
 rw[decide_eq_decide]
 constructor
 ·rintro⟨b,e,h2⟩
  cases e
  exact oF I h h2
 ·rintro rfl
  exact⟨a,rfl,h⟩
theorem yx{pins:List (Addr×Obj)}{σ:L2.St}{H:Hp}{s:Shared}{row:List Int}(I:Inv X pins σ H s):∀{rows:List (List Int)}{vs:List V}{us:List Value},qx X.K H rows vs→Vals vs us→us.any (eqRow X.K H row)=decide (row∈rows)
 | _,_,_,.nil,.nil=>rfl
 | r::rows,_,_,.cons h t,.cons a b=>by
  obtain⟨x,rfl,hx⟩:=h
  cases a
  rw[List.any_cons,uN I hx,yx I t b]
  by_cases e:r=row
  ·subst e;simp
  ·have:¬row=r:=fun z=>e z.symm
   simp[e,this]
theorem pO{A:Around}{pins:List (Addr×Obj)}{σ:L2.St}{H:Hp}{s:Shared}{p:Addr}{row:List Int}(D:A.units<cLine)(I:Inv X pins σ H s)(z:cR X.K H p (row.map V.int)):∀{rows:List (List Int)}{vs:List V}{us:List Value},qx X.K H rows vs→Vals vs us→∀u∈us,SeqAt.EqAt A s u (.ref p) (eqRow X.K H row u)
 | _,_,_,.nil,.nil=>fun u j=>by cases j
 | r::rows,_,_,.cons h t,.cons a b=>fun u j=>by
  obtain⟨x,rfl,hx⟩:=h
  cases a
  rcases hU.mp j with rfl | j
  ·rw[uN I hx]
   exact Hk D I hx z
  ·exact pO D I z t b u j
noncomputable def Uo(K:PySem.W.Frag):R2:=fun x y H Q=>∃(p q:Addr)(row:List Int)(rows:List (List Int))(vs:List V),x=.ref p∧y=.ref q∧cR K H p (row.map V.int)∧cR K H q vs∧qx K H rows vs∧Q (.bl (decide (row∈rows))) H
theorem Bq(j:X.A.units+1<cLine):oA X (compareOp .In) (Uo X.K):=by
 intro pins s σ H x y v u Q I F D h
 obtain⟨p,q,row,rows,vs,rfl,rfl,h1,h2,z,k⟩:=h
 cases F
 cases D
 obtain⟨its,r,pl,hz⟩:=I.tuple h2
 refine SeqAt.in_tupleAt (eqRow X.K H row) pl (fun w hw=>pO (by first | exact Nat.lt_of_succ_lt j | exact j | simpa using j) I h1 z r w (by simpa using hw)) ⟨.bl _,H,I,rfl,?_⟩
 rw[show its.toArray.any (eqRow X.K H row)=its.any (eqRow X.K H row) by simp,yx I z r]
 exact k
noncomputable def N_(K:PySem.W.Frag):V→List V→Hp→VK→Prop:=fun x xs H Q=>∃(a:Addr)(ys:List V)(y:V)(j:Nat)(z:V),x=V.ref a∧xs=[y]∧cR K H a ys∧fV y=true∧ys.all fV=true∧ys[j]?=some z∧Mm z y=true ∧
 (∀(m:Nat)(D:V),m<j→ys[m]?=some D→Mm D y=false)∧Q (.int (j:Nat)) H
theorem vN:HH X "tuple.index" (N_ X.K):=by
 intro pins s σ H x xs v us Q I rx af h
 obtain⟨a,ys,y,j,z,rfl,rfl,hs,fy,D,hz,L,Y,q⟩:=h
 cases rx
 cases af with
 | cons ry rt =>
  rename_i uy ut
  cases rt
  obtain⟨its,J,⟨⟨cls,dd,data,sl⟩,ho,hc,n,hd⟩,ah⟩:=I.tuple hs
  simp only at hc hd
  subst hc hd
  obtain⟨u,hu,ru⟩:=J.get hz
  obtain⟨Z,aa⟩:=hZ.mp hu
  have ai:=J.length
  have hj:j<its.toArray.size:=by simpa using Z
  refine call_meets PySem.F.slot_tuple_index ⟨_,ho,rfl⟩ PySem.F.entry_tuple_index (PySem.F.args_tuple_index_2 _ _)
   (SeqAt.m5 a its.toArray n dd sl uy (z6 y) j hj ?_ ?_) ⟨ho,fun u' ae=>iQ ry fy J D u' (by simpa using ae),?_⟩
  ·have e1:its.toArray[j]=u:=by simpa using aa
   rw[e1,xR ru (Em D hz)]
   exact L
  ·intro m hm ag
   have al:m<its.length:=by simpa using hm
   have U:m<ys.length:=by omega
   have G:ys[m]?=some ys[m]:=ic U
   obtain⟨u2,S,ac⟩:=J.get G
   obtain⟨_,O⟩:=hZ.mp S
   have e1:its.toArray[m]=u2:=by simpa using O
   rw[e1,xR ac (Em D G)]
   exact Y m _ ag G
  ·exact⟨.int (j:Nat),H,I.tok _,⟨_,rfl⟩,q⟩
noncomputable def Kd(K:PySem.W.Frag):V→List V→Hp→VK→Prop:=fun x xs H Q=>∃(q p:Addr)(row:List Int)(rows:List (List Int))(vs:List V),x=V.ref q∧xs=[.ref p]∧cR K H p (row.map V.int)∧cR K H q vs∧qx K H rows vs∧row∈rows∧Q (.int (rows.idxOf row:Nat)) H
theorem yw{K:PySem.W.Frag}{H:Hp}:∀{rows:List (List Int)}{vs:List V},qx K H rows vs→∀(m:Nat)(r:List Int),rows[m]?=some r→∃a,vs[m]?=some (.ref a)∧cR K H a (r.map V.int)
 | _,_,.nil,m,r,h=>by cases h
 | x::rows,_,.cons h t,0,r,e=>by
  cases e
  obtain⟨a,rfl,j⟩:=h
  exact⟨a,rfl,j⟩
 | x::rows,_,.cons h t,m+1,r,e=>yw t m r e
theorem Bt(z:X.A.units+1<cLine):HH X "tuple.index" (Kd X.K):=by
 intro pins s σ H x xs v us Q I rx S h
 obtain⟨q,p,row,rows,vs,rfl,rfl,h1,h2,L,j,k⟩:=h
 cases rx
 cases S with
 | cons ry rt =>
  cases ry
  cases rt
  obtain⟨its,G,⟨⟨cls,dd,data,sl⟩,Z,hc,n,hd⟩,aa⟩:=I.tuple h2
  simp only at hc hd
  subst hc hd
  have D:rows.idxOf row<rows.length:=List.idxOf_lt_length_of_mem j
  have ac:rows.length=vs.length:=Paired.length L
  have ae:=G.length
  have at_:∀m (j:m<its.toArray.size) (r:List Int),rows[m]?=some r→eqRow X.K H row its.toArray[m]=decide (r=row):=by
   intro m j r hr
   obtain⟨a,ha,hs⟩:=yw L m r hr
   obtain⟨u,z,ru⟩:=G.get ha
   cases ru
   obtain⟨_,J⟩:=hZ.mp z
   rw[show its.toArray[m]=.ref a by simpa using J]
   exact uN I hs
  have hj:rows.idxOf row<its.toArray.size:=by simp;omega
  refine call_meets PySem.F.slot_tuple_index ⟨_,Z,rfl⟩ PySem.F.entry_tuple_index (PySem.F.args_tuple_index_2 _ _)
   (SeqAt.m5 q its.toArray n dd sl (.ref p) (eqRow X.K H row) (rows.idxOf row) hj ?_ ?_) ⟨Z,fun u' O=>pO (by first | exact Nat.lt_of_succ_lt z | exact z | simpa using z) I h1 L G u' (by simpa using O),?_⟩
  ·rw[at_ _ hj row (by rw[ic D,List.getElem_idxOf D])]
   exact i8 rfl
  ·intro m j Y
   have U:m<rows.length:=by omega
   rw[at_ m j rows[m] (ic U)]
   refine j4 fun e=>?_
   have:=List.not_of_lt_findIdx (p:=(·==row)) Y
   simp[e]at this
  ·exact⟨.int (rows.idxOf row:Nat),H,I.tok _,⟨_,rfl⟩,k⟩
end
end L2
end
section
namespace XL
open PySem PySem.Spec PyProof.Rows L2
section
variable {X:Cx}
noncomputable def M9(_ j:Int):Prop:=0<j∧j.natAbs.log2<9000
theorem yW:oA X (binaryOp .FloorDiv) (rI M9 fun i j=>.int (i / j)):=V9 fun i j _ _ _ _ _ z q=>by
 have h1:(0:Int)<j:=z.1
 exact floordiv_int (by omega) (by rw[Int.fdiv_eq_ediv_of_nonneg i (by omega)];exact q) (.inl (PyProof.noPylong_of_log2 z.2))
end
end XL
end
section
namespace SB
open PySem PySem.Spec PyProof.Rows L2 XL
open Vbdeaa (Text Exp Exps Un Bin Ins Tok digit letter wordSign blank)
variable {P:Program} {w:World} {K:PySem.W.Frag} {mg:Str→Option Value} {base:Heap}
noncomputable def lG:Sp:=fun vs H Q _=>∃c:Int,vs=[.int c]∧Q (.bl (digit c)) H
noncomputable def jR:Sp:=fun vs H Q _=>∃c:Int,vs=[.int c]∧Q (.bl (letter c)) H
noncomputable def wF:Sp:=fun vs H Q _=>∃c:Int,vs=[.int c]∧Q (.bl (wordSign c)) H
noncomputable abbrev jg:Stmt:=top 61
noncomputable abbrev gP:Stmt:=top 62
noncomputable abbrev ul:Stmt:=top 63
theorem digit_eq(c:Int):digit c=(decide (48≤c)&&decide (c≤57)):=by
 unfold Vbdeaa.digit
 by_cases h1:48≤c<;>by_cases h2:c≤57<;>simp[h1,h2]
theorem vQ(c:Int):letter c=((decide (65≤c)&&decide (c≤90))||(decide (97≤c)&&decide (c≤122))):=by
 unfold Vbdeaa.letter
 by_cases h1:65≤c<;>by_cases h2:c≤90<;>by_cases z:97≤c<;>by_cases j:c≤122<;>simp[h1,h2,z,j]
section
theorem N6:aK ["sign"] ["sign"] (aD jg):=⟨rfl,rfl,rfl,by decide +kernel,rfl,by decide +kernel,by decide +kernel⟩
theorem j0{f:Addr}{fd:FuncData}(F:Fn K mg "is_digit" jg f fd ["sign"]):aF P w K mg base (aW P w) 1 f fd ["sign"] lG:=by
 refine d9 F.F N6 (fun vs H Q E h=>?_) (fun cdv A outer s H vs Q E j h=>?_)
 ·obtain⟨_,rfl,_⟩:=h
  rfl
 ·obtain⟨c,rfl,k⟩:=h
  rw[digit_eq]at k
  refine⟨_,ao (aV (ux nj nj aB (pv 0) aB)),?_⟩
  refine⟨_,rfl,48,c,rfl,rfl,_,rfl,fM (fun h1=>?_) fun h1=>?_⟩
  ·rw[h1,Bool.true_and]at k
   exact⟨c,57,rfl,rfl,k⟩
  ·rw[Bool.eq_false_iff.mpr h1,Bool.false_and]at k
   exact k
theorem JD:aK ["sign"] ["sign"] (aD gP):=⟨rfl,rfl,rfl,by decide +kernel,rfl,by decide +kernel,by decide +kernel⟩
theorem lL{f:Addr}{fd:FuncData}(F:Fn K mg "is_letter" gP f fd ["sign"]):aF P w K mg base (aW P w) 1 f fd ["sign"] jR:=by
 refine d9 F.F JD (fun vs H Q E h=>?_) (fun cdv A outer s H vs Q E z h=>?_)
 ·obtain⟨_,rfl,_⟩:=h
  rfl
 ·obtain⟨c,rfl,k⟩:=h
  rw[vQ]at k
  refine⟨_,ao (aV (Ky (ux nj nj aB (pv 0) aB) (Bj (ux nj nj aB (pv 0) aB)))),?_⟩
  have two:(decide (65≤c)&&decide (c≤90))=false→Ae (Bd fun i j=>V.bl (decide (i≤j))) (Bd fun i j=>V.bl (decide (i≤j))) (tC (V.int 97)) (pP 0) (tC (V.int 122)) (L2.start ["sign"] [V.int c]) H Q:=fun e=>by
   rw[e,Bool.false_or]at k
   refine⟨_,rfl,97,c,rfl,rfl,_,rfl,fM (fun h1=>?_) fun h1=>?_⟩
   ·rw[h1,Bool.true_and]at k
    exact⟨c,122,rfl,rfl,k⟩
   ·rw[Bool.eq_false_iff.mpr h1,Bool.false_and]at k
    exact k
  refine⟨_,rfl,65,c,rfl,rfl,_,rfl,fM (fun h1=>?_) fun h1=>?_⟩
  ·refine⟨c,90,rfl,rfl,_,rfl,fM (fun h2=>?_) fun h2=>?_⟩
   ·rw[h1,h2]at k
    exact k
   ·exact two (by rw[Bool.eq_false_iff.mpr h2,Bool.and_false])
  ·exact⟨_,rfl,aQ (two (by rw[Bool.eq_false_iff.mpr h1,Bool.false_and]))⟩
theorem NZ:aK ["sign"] ["sign"] (aD ul):=⟨rfl,rfl,rfl,by decide +kernel,rfl,by decide +kernel,by decide +kernel⟩
theorem KZ{f J fL:Addr}{fd L dL:FuncData}(F:Fn K mg "is_name_sign" ul f fd ["sign"])(j:Fn K mg "is_digit" jg J L ["sign"])(D:Fn K mg "is_letter" gP fL dL ["sign"])(S:GC K mg "UNDERSCORE" (.i 95)):aF P w K mg base (aW P w) 2 f fd ["sign"] wF:=by
 have O:aF P w K mg base (aW P w) 1 J L ["sign"] lG:=j0 j
 have U:aF P w K mg base (aW P w) 1 fL dL ["sign"] jR:=lL D
 refine d9 F.F NZ (fun vs H Q E h=>?_) (fun cdv A outer s H vs Q E G h=>?_)
 ·obtain⟨_,rfl,_⟩:=h
  rfl
 ·obtain⟨c,rfl,k⟩:=h
  unfold Vbdeaa.wordSign at k
  refine⟨_,ao (aV (Ky (a_ U G rfl D.m D.F.kp D.b .nil passes (aj (pv 0) au)) (Ky (a_ O G rfl j.m j.F.kp j.b .nil passes (aj (pv 0) au)) (Bj (sS cz (pv 0) (bw rfl S) (aL _)))))),?_⟩
  refine⟨_,rfl,c,rfl,_,rfl,?_⟩
  cases h1:letter c with
  | true=>rw[h1]at k;exact bh k
  | false =>
   rw[h1,Bool.false_or]at k
   refine aQ ⟨_,rfl,c,rfl,_,rfl,?_⟩
   cases h2:digit c with
   | true=>rw[h2]at k;exact bh k
   | false =>
    rw[h2,Bool.false_or]at k
    refine aQ ⟨_,rfl,rfl,?_⟩
    have:(c==95)=decide (V.int c=V.int 95):=by
     rw[Bool.beq_eq_decide_eq,decide_eq_decide]
     exact⟨fun z=>by rw[z],fun z=>V.int.inj z⟩
    rw[this]at k
    exact k
theorem eE{H H':Hp}{a:Addr}{xs:List V}(s:aA H H')(h:bV K H a xs):bV K H' a xs:=by
 rcases h with(h | ⟨o,h⟩) | h
 ·exact .inl (.inl (s _ _ h))
 ·exact .inl (.inr ⟨o,s _ _ h⟩)
 ·exact .inr h
end
noncomputable def pk(t:Text)(j:Nat):Int:=(t[j]?).getD (-1)
noncomputable def Gi(ls:Addr)(i:Nat)(lt:Addr):List (Str×V):=[("signs",.ref ls),("at",.int (i:Nat)),("tokens",.ref lt)]
structure jC (K:PySem.W.Frag) (Sc:Addr):Prop where
 cl:Dg K Sc
 nS:aO K Sc "signs"
 nA:aO K Sc "at"
 nT:aO K Sc "tokens"
noncomputable abbrev bM(i:Nat):Stmt:=inClass (top 65) i
structure jJ (K:PySem.W.Frag) (Sc:Addr) (H:Hp) (sc dx ls lt:Addr) (t:Text) (i:Nat):Prop where
 obj:H sc=some (.ins Sc dx (Gi ls i lt))
 sig:bV K H ls (vI t)
 few:t.length≤2000
 le:i≤t.length
noncomputable def Jd(Sc:Addr):Sp:=fun vs H Q _=>∃(x dx ls:Addr),vs=[.ref x,.ref ls]∧H x=some (.ins Sc dx [])∧∀lt,H lt=none→lt≠x→∀H',bC x H H'→H' lt=some (.lst [])→H' x=some (.ins Sc dx (Gi ls 0 lt))→Q .non H'
noncomputable def jQ(K:PySem.W.Frag)(Sc:Addr):Sp:=fun vs H Q _=>∃(sc dx ls lt:Addr)(t:Text)(i k:Nat),vs=[.ref sc,.int k]∧jJ K Sc H sc dx ls lt t i∧Q (.int (pk t (i+k))) H
noncomputable def Aw(K:PySem.W.Frag)(Sc:Addr):Sp:=fun vs H Q _=>∃(sc dx ls lt:Addr)(t:Text)(i:Nat)(c:Int),vs=[.ref sc,.int c]∧jJ K Sc H sc dx ls lt t i∧Q (.bl (decide (pk t i=c)&&digit (pk t (i+1)))) H
section
theorem Rm:aK ["self","signs"] ["self","signs"] (aD (bM 0)):=⟨rfl,rfl,rfl,by decide +kernel,rfl,by decide +kernel,by decide +kernel⟩
theorem Ot{f Sc:Addr}{fd:FuncData}(F:fc K "__init__" "Scanner.__init__" (bM 0) f fd)(T:jC K Sc):aF P w K mg base (aW P w) 1 f fd ["self","signs"] (Jd Sc):=by
 refine d9 F Rm (fun vs H Q E h=>?_) (fun cdv A outer s H vs Q E L h=>?_)
 ·obtain⟨_,_,_,rfl,_⟩:=h
  rfl
 ·obtain⟨x,dx,ls,rfl,hx,k⟩:=h
  refine⟨_,aq (b8 (pv 0) (pv 1) rfl) (aq (b8 (pv 0) aB rfl) (ao (b8 (pv 0) (bT au) rfl))),?_⟩
  refine⟨_,rfl,_,rfl,x,Sc,dx,[],rfl,hx,T.cl,T.nS,(by decide),?_⟩
  refine⟨_,rfl,x,Sc,dx,_,rfl,ak,T.cl,T.nA,(by show 1<1000;decide),?_⟩
  refine⟨(by show 0≤sizeLine;decide),fun lt j=>?_⟩
  have D:lt≠x:=fun z=>by rw[z,ak]at j;cases j
  rw[az D,az D]at j
  refine⟨_,rfl,x,Sc,dx,_,rfl,(by rw[az (Ne.symm D)];exact ak),T.cl,T.nT,(by show 2<1000;decide),?_⟩
  refine k lt j D _ (fun y o q G=>?_) (by rw[az D];exact ak) ak
  have J:y≠lt:=fun z=>by rw[z,j]at q;cases q
  rw[az G,az J,az G,az G]
  exact q
theorem JB:aK ["self","ahead","place"] ["self","ahead"] (aD (bM 1)):=⟨rfl,rfl,rfl,by decide +kernel,rfl,by decide +kernel,by decide +kernel⟩
theorem jj{f Sc:Addr}{fd:FuncData}(F:fc K "peek" "Scanner.peek" (bM 1) f fd)(T:jC K Sc)(z:mg "len"=none):aF P w K mg base (aW P w) 1 f fd ["self","ahead"] (jQ K Sc):=by
 refine d9 F JB (fun vs H Q E h=>?_) (fun cdv A outer s H vs Q E J h=>?_)
 ·obtain⟨_,_,_,_,_,_,_,rfl,_⟩:=h
  rfl
 ·obtain⟨sc,dx,ls,lt,t,i,j,rfl,D,k⟩:=h
  refine⟨_,aq (bu (i:=2) JB.nd rfl (Or.inl rfl) (dM pZ (aJ (pv 0) rfl) (pv 1)))
   (aq (aX (aG Eb (pv 2) (b7 bJ (by rfl) z (by decide +kernel) (aj (aJ (pv 0) rfl) au)) (aL _)) (ao (aV (bZ dh (aJ (pv 0) rfl) (pv 2) (fun _ _=>rfl)))) aP)
   (ao (aV (eN cV aB)))),?_⟩
  refine⟨_,rfl,sc,Sc,dx,_,_,rfl,D.obj,T.cl,T.nA,rfl,_,rfl,_,_,rfl,rfl,?_⟩
  refine⟨_,rfl,_,rfl,sc,Sc,dx,_,_,rfl,D.obj,T.cl,T.nS,rfl,ls,_,rfl,.inl D.sig,_,_,rfl,rfl,_,rfl,?_⟩
  rw[dj,show((i:Nat):Int)+(j:Nat)=((i+j:Nat):Int) by omega]
  by_cases G:i+j<t.length
  ·rw[i8 (by omega)]
   refine bh ⟨_,rfl,sc,Sc,dx,_,_,rfl,D.obj,T.cl,T.nS,rfl,_,rfl,ls,_,_,.int (pk t (i+j)),rfl,rfl,D.sig,jw ?_,k⟩
   rw[Ig]
   unfold pk
   rw[ic G]
   rfl
  ·rw[j4 (by omega)]
   refine aQ ⟨1,rfl,?_⟩
   unfold pk at k
   rw[List.getElem?_eq_none (by omega)]at k
   exact k
theorem Rr:aK ["self","sign"] ["self","sign"] (aD (bM 3)):=⟨rfl,rfl,rfl,by decide +kernel,rfl,by decide +kernel,by decide +kernel⟩
theorem O6{f S U Sc:Addr}{fd O Z:FuncData}(F:fc K "digits_behind" "Scanner.digits_behind" (bM 3) f fd)(T:jC K Sc)(G:Fm K Sc "peek" "Scanner.peek" (bM 1) S O ["self","ahead"])(j:mg "len"=none)(J:Fn K mg "is_digit" jg U Z ["sign"]):aF P w K mg base (aW P w) 2 f fd ["self","sign"] (Aw K Sc):=by
 have Y:aF P w K mg base (aW P w) 1 S O ["self","ahead"] (jQ K Sc):=jj G.F T j
 have GD:aF P w K mg base (aW P w) 1 U Z ["sign"] lG:=j0 J
 refine d9 F Rr (fun vs H Q E h=>?_) (fun cdv A outer s H vs Q E L h=>?_)
 ·obtain⟨_,_,_,_,_,_,_,rfl,_⟩:=h
  rfl
 ·obtain⟨sc,dx,ls,lt,t,i,c,rfl,D,k⟩:=h
  refine⟨_,ao (aV (RB (sS cz (bc (pv 0) T.cl G.me Y L G.b .nil passes (aj aB au)) (pv 1) (aL _)) (Bj (a_ GD L rfl J.m J.F.kp J.b .nil passes (aj (bc (pv 0) T.cl G.me Y L G.b .nil passes (aj aB au)) au))))),?_⟩
  refine⟨_,rfl,sc,dx,_,rfl,D.obj,rfl,sc,dx,ls,lt,t,i,0,rfl,D,_,rfl,rfl,_,rfl,?_⟩
  have e1:decide (V.int (pk t (i+0))=V.int c)=decide (pk t i=c):=by rw[decide_eq_decide];exact⟨fun z=>V.int.inj z,fun z=>by rw[Nat.add_zero,z]⟩
  rw[e1]
  cases h1:decide (pk t i=c)with
  | false=>rw[h1]at k;exact aQ k
  | true =>
   rw[h1,Bool.true_and]at k
   exact bh ⟨_,rfl,sc,dx,_,rfl,D.obj,rfl,sc,dx,ls,lt,t,i,1,rfl,D,_,rfl,k⟩
end
noncomputable def aR(p:Int→Bool)(t:Text)(i:Nat):Text:=(t.drop i).takeWhile p
theorem eF{p:Int→Bool}{t:Text}{i:Nat}(j:p (-1)=false)(h:p (pk t i)=true):aR p t i=pk t i::aR p t (i+1)∧i<t.length:=by
 unfold pk at h
 cases e:t[i]? with
 | none=>rw[e]at h;rw[show((none:Option Int).getD (-1))=-1 from rfl,j]at h;cases h
 | some c =>
  rw[e]at h
  obtain⟨hi,z⟩:=hZ.mp e
  refine⟨?_,hi⟩
  unfold aR pk
  rw[List.drop_eq_getElem_cons hi,z,e,List.takeWhile_cons]
  have h:p c=true:=h
  rw[h]
  rfl
theorem DG{p:Int→Bool}{t:Text}{i:Nat}(h:p (pk t i)=false):aR p t i=[]:=by
 unfold aR
 cases e:t[i]? with
 | none=>rw[List.drop_eq_nil_of_le (List.getElem?_eq_none_iff.mp e)];rfl
 | some c =>
  obtain⟨hi,j⟩:=hZ.mp e
  unfold pk at h
  rw[e]at h
  have h:p c=false:=h
  rw[List.drop_eq_getElem_cons hi,j,List.takeWhile_cons,h]
  rfl
theorem dH{p:Int→Bool}{t:Text}{i:Nat}:(aR p t i).length≤t.length-i:=by
 unfold aR
 exact ip (List.takeWhile_sublist p).length_le (by rw[ke];exact f' _)
noncomputable def dv(n:Int)(w:Text):Int:=w.foldl (fun n c=>n*10+c-48) n
theorem iR:digit (-1)=false:=by decide
theorem jJ.upd{K:PySem.W.Frag}{Sc:Addr}{H H':Hp}{sc dx ls lt:Addr}{t:Text}{i j:Nat}(D:jJ K Sc H sc dx ls lt t i)(s:bC sc H H')(h:H' sc=some (.ins Sc dx (Gi ls j lt)))(F:j≤t.length):jJ K Sc H' sc dx ls lt t j:=by
 refine⟨h,?_,D.few,F⟩
 rcases D.sig with(q | ⟨o,q⟩) | q
 ·exact .inl (.inl (s _ _ q fun z=>by rw[z,D.obj]at q;cases q))
 ·exact .inl (.inr ⟨o,s _ _ q fun z=>by rw[z,D.obj]at q;cases q⟩)
 ·exact .inr q
noncomputable def wG(K:PySem.W.Frag)(Sc:Addr):Sp:=fun vs H Q _=>∃(sc dx ls lt:Addr)(t:Text)(i:Nat)(n:Int),vs=[.ref sc,.int n]∧jJ K Sc H sc dx ls lt t i ∧
 ∀H',bC sc H H'→jJ K Sc H' sc dx ls lt t (i+(aR digit t i).length)→Q (.int (dv n (aR digit t i))) H'
section
theorem Jx:aK ["self","number"] ["self","number"] (aD (bM 4)):=⟨rfl,rfl,rfl,by decide +kernel,rfl,by decide +kernel,by decide +kernel⟩
theorem Om{f fP fD Sc:Addr}{fd Z dD:FuncData}(F:fc K "take_digits" "Scanner.take_digits" (bM 4) f fd)(T:jC K Sc)(S:Fm K Sc "peek" "Scanner.peek" (bM 1) fP Z ["self","ahead"])(O:mg "len"=none)(U:Fn K mg "is_digit" jg fD dD ["sign"]):aF P w K mg base (aW P w) 2 f fd ["self","number"] (wG K Sc):=by
 have GP:aF P w K mg base (aW P w) 1 fP Z ["self","ahead"] (jQ K Sc):=jj S.F T O
 have GD:aF P w K mg base (aW P w) 1 fD dD ["sign"] lG:=j0 U
 refine d9 F Jx (fun vs H Q E h=>?_) (fun cdv A outer s H vs Q E Y h=>?_)
 ·obtain⟨_,_,_,_,_,_,_,rfl,_⟩:=h
  rfl
 ·obtain⟨sc,dx,ls,lt,t,i,n,rfl,D,k⟩:=h
  refine⟨_,aq (gA rC (eG (a_ GD Y rfl U.m U.F.kp U.b .nil passes (aj (bc (pv 0) T.cl S.me GP Y S.b .nil passes (aj aB au)) au)))
    (aq (bu (i:=1) Jx.nd rfl (Or.inl rfl) (dM uA (dM pZ (dM KY (pv 1) aB) (bc (pv 0) T.cl S.me GP Y S.b .nil passes (aj aB au))) aB))
    (ao (cH (pv 0) aB gC))))
   (ao (aV (pv 1))),?_⟩
  refine⟨fun m σ H'=>∃(j:Nat)(x:Int),σ=[some (.ref sc),some (.int x)]∧m=t.length-j∧bC sc H H'∧jJ K Sc H' sc dx ls lt t j∧dv n (aR digit t i)=dv x (aR digit t j)∧i+(aR digit t i).length=j+(aR digit t j).length,
   ⟨_,i,n,rfl,rfl,fun _ _ q _=>q,D,rfl,rfl⟩,?_⟩
  rintro m σ H' ⟨j,x,rfl,rfl,sx,z,e1,e2⟩
  refine⟨_,rfl,sc,dx,_,rfl,z.obj,rfl,sc,dx,ls,lt,t,j,0,rfl,z,_,rfl,_,rfl,?_⟩
  rw[Nat.add_zero]
  cases hd:digit (pk t j)with
  | true =>
   obtain⟨r1,r2⟩:=eF iR hd
   refine bh ⟨fun σ' G=>∃(J:Nat)(x:Int),σ'=[some (.ref sc),some (.int x)]∧t.length-J<t.length-j∧bC sc H G∧jJ K Sc G sc dx ls lt t J∧dv n (aR digit t i)=dv x (aR digit t J)∧i+(aR digit t i).length=J+(aR digit t J).length,fun σ' G ⟨j,x,h1,h2,h3⟩=>⟨_,h2,j,x,h1,rfl,h3⟩,?_⟩
   refine⟨_,rfl,_,_,rfl,rfl,.inr ⟨by decide,by decide⟩,_,rfl,sc,dx,_,rfl,z.obj,rfl,sc,dx,ls,lt,t,j,0,rfl,z,_,_,rfl,rfl,_,_,rfl,rfl,?_⟩
   refine⟨_,rfl,sc,Sc,dx,_,_,rfl,z.obj,T.cl,T.nA,rfl,_,_,rfl,rfl,dx,_,z.obj,(by show 3<1000;decide),?_⟩
   have L:bC sc H' (L2.upd H' sc (.ins Sc dx (Gi ls (j+1) lt))):=bC.wy fun _ _ q _=>q
   refine⟨j+1,_,rfl,by omega,sx.trans L,z.upd L ak r2,?_,?_⟩
   ·rw[e1,r1,Nat.add_zero]
    rfl
   ·rw[e2,r1,cr]
    omega
  | false =>
   have r0:=DG hd
   refine aQ ⟨_,rfl,?_⟩
   rw[r0]at e1 e2
   have k:=k H' sx (by rw[e2];exact z)
   rw[e1]at k
   exact k
end
end SB
end
section
namespace SB
open PySem PySem.Spec PyProof.Rows L2 XL
open Vbdeaa (Text Exp Exps Un Bin Ins Tok digit letter wordSign blank numberToken digitsValue frac small)
variable {P:Program} {w:World} {K:PySem.W.Frag} {mg:Str→Option Value} {base:Heap}
theorem qw{p:Int→Bool}(z:p (-1)=false)(t:Text)(j:Nat):(t[j]?).any p=p (pk t j):=by
 unfold pk
 cases t[j]? with
 | none=>exact z.symm
 | some c=>rfl
theorem Ml{c:Int}(D:c≠-1)(t:Text)(j:Nat):(t[j]?==some c)=decide (pk t j=c):=by
 unfold pk
 cases h:t[j]? with
 | none =>
  rw[show((none:Option Int)==some c)=false from rfl]
  exact(j4 fun z=>D z.symm).symm
 | some d =>
  show(d==c)=decide (d=c)
  exact Bool.beq_eq_decide_eq d c
theorem d_(t:Text)(j:Nat):(t.drop j).head?=t[j]?:=by rw[List.head?_drop]
theorem uo(p:Int→Bool)(t:Text)(i:Nat):(t.drop i).dropWhile p=t.drop (i+(aR p t i).length):=by
 have h:(t.drop i).takeWhile p++(t.drop i).dropWhile p=t.drop i:=List.takeWhile_append_dropWhile
 have e:t.drop (i+(aR p t i).length)=(t.drop i).drop (aR p t i).length:=by rw[List.drop_drop]
 rw[e]
 conv=>rhs;rw[←h]
 unfold aR
 rw[List.drop_left]
theorem xV:∀(w:Text)(m:Nat),(∀c∈w,digit c=true)→dv (m:Int) w=((w.foldl (fun n c=>10*n+(c-48).toNat) m:Nat):Int)
 | [],m,_=>rfl
 | c::r,m,h=>by
  have j:=h c b'
  unfold Vbdeaa.digit at j
  have j:=js j
  show dv ((m:Int)*10+c-48) r=_
  rw[show(m:Int)*10+c-48=((10*m+(c-48).toNat:Nat):Int) by omega]
  exact xV r _ fun d hd=>h d (am _ hd)
theorem lH{p:Int→Bool}{t:Text}{i:Nat}:∀c∈aR p t i,p c=true:=fun c j=>by
 have:=List.all_takeWhile (p:=p) (l:=t.drop i)
 exact j5.mp this c j
noncomputable def bN(t:Text)(i:Nat):Nat×Nat×Nat :=
 let w:=aR digit t i
 let i1:=i+w.length
 let f:=aR digit t (i1+1)
 if(decide (pk t i1=46)&&digit (pk t (i1+1)))=true then(digitsValue (w++f),10 ^ f.length,i1+1+f.length)
 else if(decide (pk t i1=58)&&digit (pk t (i1+1)))=true then(digitsValue w,digitsValue f,i1+1+f.length)
 else(digitsValue w,1,i1)
noncomputable def eQ(c:Int):Bool:=letter c||(c==95||(c==46||c==58))
theorem O_(t:Text)(i:Nat):numberToken (t.drop i)=if(bN t i).2.1=0∨eQ (pk t (bN t i).2.2)=true then(.bad,[])
  else if small (frac ((bN t i).1:Nat) (bN t i).2.1)=true then(.num (frac ((bN t i).1:Nat) (bN t i).2.1),t.drop (bN t i).2.2)else(.bad,[]):=by
 have bm:eQ (-1)=false:=by decide
 unfold Vbdeaa.numberToken
 simp only
 rw[uo]
 have F:(t.drop i).takeWhile digit=aR digit t i:=rfl
 rw[F]
 generalize D:i+(aR digit t i).length=i1
 have e1:((t.drop i1).drop 1)=t.drop (i1+1):=by rw[List.drop_drop]
 rw[e1,d_,d_,Ml (by decide),Ml (by decide),qw iR,uo]
 have G:(t.drop (i1+1)).takeWhile digit=aR digit t (i1+1):=rfl
 rw[G]
 have J:bN t i=if(decide (pk t i1=46)&&digit (pk t (i1+1)))=true then(digitsValue (aR digit t i++aR digit t (i1+1)),10 ^ (aR digit t (i1+1)).length,i1+1+(aR digit t (i1+1)).length)
   else if(decide (pk t i1=58)&&digit (pk t (i1+1)))=true then(digitsValue (aR digit t i),digitsValue (aR digit t (i1+1)),i1+1+(aR digit t (i1+1)).length)
   else(digitsValue (aR digit t i),1,i1):=by
  unfold bN
  simp only[D]
 rw[J]
 cases hd:digit (pk t (i1+1))with
 | false =>
  simp only[Bool.and_false,Bool.false_eq_true,if_false,Bool.false_and]
  rw[d_]
  have:=qw bm t i1
  unfold eQ at this
  rw[this,i6]
  rfl
 | true =>
  by_cases z:pk t i1=46
  ·have j:¬pk t i1=58:=by rw[z];decide
   simp only[i8 z,j4 j,Bool.true_or,Bool.true_and,Bool.and_true,Bool.and_false,if_true,Bool.false_eq_true,if_false,Bool.or_false]
   rw[d_]
   have:=qw bm t (i1+1+(aR digit t (i1+1)).length)
   unfold eQ at this
   rw[this]
   rfl
  ·by_cases j:pk t i1=58
   ·simp only[i8 j,j4 z,Bool.false_or,Bool.true_and,Bool.and_true,if_true,Bool.false_eq_true,if_false,Bool.false_and]
    rw[d_]
    have:=qw bm t (i1+1+(aR digit t (i1+1)).length)
    unfold eQ at this
    rw[this]
    rfl
   ·simp only[j4 j,j4 z,Bool.false_or,Bool.false_and,if_false,Bool.false_eq_true]
    rw[d_]
    have:=qw bm t i1
    unfold eQ at this
    rw[this,i6]
    rfl
end SB
end
section
namespace SB
open PySem PySem.Spec PyProof.Rows L2 XL
open Vbdeaa (Text Exp Exps Un Bin Ins digit letter wordSign blank numberToken digitsValue frac small)
variable {P:Program} {w:World} {K:PySem.W.Frag} {mg:Str→Option Value} {base:Heap}
noncomputable abbrev TK:=Vbdeaa.Tok
noncomputable def rB(s:Text):Str×V:=if s=[40]∨s=[41]∨s=[44]then("mark",.str (bD s))else("two",.int (dY.idxOf s:Nat))
noncomputable def cO(H:Hp):TK→Addr→Prop
 | .num q,a=>∃p,H a=some (.tup [.str "number",.ref p])∧H p=some (.tup [.int q.1,.int (q.2:Nat)])
 | .name n,a=>H a=some (.tup [.str "name",.str (bD n)])
 | .word n,a=>H a=some (.tup [.str "word",.str (bD n)])
 | .sign s,a=>H a=some (.tup [.str (rB s).1,(rB s).2])
 | .eof,a=>H a=some (.tup [.str "end",.str ""])
 | .bad,_=>False
theorem cO.same{H H':Hp}(s:aA H H'):∀{x:TK}{a:Addr},cO H x a→cO H' x a
 | .num q,a,⟨p,h1,h2⟩=>⟨p,s _ _ h1,s _ _ h2⟩
 | .name n,a,h=>s _ _ h
 | .word n,a,h=>s _ _ h
 | .sign n,a,h=>s _ _ h
 | .eof,a,h=>s _ _ h
structure mX (K:PySem.W.Frag) (Sc:Addr) (H:Hp) (sc:Addr) (M:List Addr) (t:Text) (i:Nat) (tks:List TK) (dx ls lt:Addr) (tas:List Addr):Prop where
 mem:M=[sc,lt]
 ne:sc≠lt
 at_:jJ K Sc H sc dx ls lt t i
 sig:bV K (off M H) ls (vI t)
 tl:H lt=some (.lst (tas.map V.ref))
 tks:Paired (cO (off M H)) tks tas
noncomputable def Ng(K:PySem.W.Frag)(Sc:Addr)(H:Hp)(sc:Addr)(M:List Addr)(t:Text)(i:Nat)(tks:List TK):Prop:=∃dx ls lt tas,mX K Sc H sc M t i tks dx ls lt tas
theorem mX.step{K:PySem.W.Frag}{Sc:Addr}{H H':Hp}{sc:Addr}{M:List Addr}{t:Text}{i j:Nat}{tks:List TK}{dx ls lt:Addr}{tas:List Addr}(D:mX K Sc H sc M t i tks dx ls lt tas)(J:bC sc H H')(h:jJ K Sc H' sc dx ls lt t j):mX K Sc H' sc M t j tks dx ls lt tas∧aA (off M H) (off M H'):=by
 have F:aA (off M H) (off M H'):=fun b o q=>by
  have G:=oY q
  have L:b≠sc:=fun z=>G (by rw[D.mem,z];simp)
  exact gk (J _ _ (aU _ _ _ _ q) L) G
 exact⟨⟨D.mem,D.ne,h,eE F D.sig,J _ _ D.tl (Ne.symm D.ne),paired_same' D.tks F⟩,F⟩
where paired_same' {tks:List TK} {tas:List Addr} {G G':Hp} (h:Paired (cO G) tks tas) (s:aA G G'):Paired (cO G') tks tas:=cP h fun _ _ _ q=>q.same s
theorem iD{tks:List TK}{tas:List Addr}{G j:Hp}(h:Paired (cO G) tks tas)(s:aA G j):Paired (cO j) tks tas:=cP h fun _ _ _ q=>q.same s
theorem mX.app{K:PySem.W.Frag}{Sc:Addr}{H:Hp}{sc:Addr}{M:List Addr}{t:Text}{i:Nat}{tks:List TK}{dx ls lt:Addr}{tas:List Addr}(D:mX K Sc H sc M t i tks dx ls lt tas){x:TK}{a:Addr}(h:cO (off M H) x a) :
  mX K Sc (L2.upd H lt (.lst (tas.map V.ref++[V.ref a]))) sc M t i (tks++[x]) dx ls lt (tas++[a])∧off M (L2.upd H lt (.lst (tas.map V.ref++[V.ref a])))=off M H:=by
 have j:off M (L2.upd H lt (.lst (tas.map V.ref++[V.ref a])))=off M H:=sV (by rw[D.mem];simp)
 refine⟨⟨D.mem,D.ne,⟨by rw[az D.ne];exact D.at_.obj,?_,D.at_.few,D.at_.le⟩,by rw[j];exact D.sig,by rw[ak,ka];rfl,by rw[j];exact cu D.tks h⟩,j⟩
 have:=eE (aU M (L2.upd H lt (.lst (tas.map V.ref++[V.ref a])))) (by rw[j];exact D.sig)
 exact this
theorem mX.keep{K:PySem.W.Frag}{Sc:Addr}{H H':Hp}{sc:Addr}{M:List Addr}{t:Text}{i:Nat}{tks:List TK}{dx ls lt:Addr}{tas:List Addr}(D:mX K Sc H sc M t i tks dx ls lt tas)(s:aA H H'):mX K Sc H' sc M t i tks dx ls lt tas∧aA (off M H) (off M H'):=D.step (fun b o q _=>s b o q) ⟨s _ _ D.at_.obj,eE s D.at_.sig,D.at_.few,D.at_.le⟩
theorem lN{M:List Addr}{H:Hp}{a:Addr}{o:HO}(D:∀b∈M,∃o,H b=some o)(h:H a=none):off M (L2.upd H a o) a=some o:=by
 refine gk ak fun z=>?_
 obtain⟨o,j⟩:=D a z
 rw[h]at j
 cases j
theorem mX.there{K:PySem.W.Frag}{Sc:Addr}{H:Hp}{sc:Addr}{M:List Addr}{t:Text}{i:Nat}{tks:List TK}{dx ls lt:Addr}{tas:List Addr}(D:mX K Sc H sc M t i tks dx ls lt tas):∀b∈M,∃o,H b=some o:=fun b j=>by
 rw[D.mem]at j
 simp only[hU,List.mem_nil_iff,or_false]at j
 rcases j with rfl | rfl
 ·exact⟨_,D.at_.obj⟩
 ·exact⟨_,D.tl⟩
noncomputable abbrev oK:Stmt:=top 51
noncomputable def tZ:Sp:=fun vs H Q _=>∃(n:Int)(d:Nat),vs=[.int n,.int d]∧0<d∧d<2 ^ 8000∧∀t,H t=none→Q (.ref t) (L2.upd H t (.tup [.int (frac n d).1,.int ((frac n d).2:Nat)]))
theorem Pn{g:Nat}(h:g<2 ^ 8000):((g:Nat):Int).natAbs.log2<9000:=by
 rw[Int.natAbs_natCast]
 by_cases z:g=0
 ·rw[z];decide
 ·exact ib ((Nat.log2_lt z).mpr h) (by decide)
noncomputable def Ai(K:PySem.W.Frag)(Sc:Addr):Sp:=fun vs H Q _=>∃(sc dx ls lt:Addr)(t:Text)(i:Nat)(n:Int),vs=[.ref sc,.int n]∧jJ K Sc H sc dx ls lt t i ∧
 ∀p H',H p=none→bC sc H H'→H' p=some (.tup [.int (dv n (aR digit t i)),.int ((10 ^ (aR digit t i).length:Nat):Int)])→jJ K Sc H' sc dx ls lt t (i+(aR digit t i).length)→Q (.ref p) H'
section
theorem yL:aK ["numerator","denominator","divisor"] ["numerator","denominator"] (aD oK):=⟨rfl,rfl,rfl,by decide +kernel,rfl,by decide +kernel,by decide +kernel⟩
theorem Gz{f L:Addr}{fd O:FuncData}(F:Fn K mg "lowest_terms" oK f fd ["numerator","denominator"])(j:mg "abs"=none)(z:Fn K mg "common_divisor" J1 L O ["a","b"]):aF P w K mg base (aW P w) 2 f fd ["numerator","denominator"] tZ:=by
 have Y:aF P w K mg base (aW P w) 1 L O ["a","b"] QB:=R1 z
 refine d9 F.F yL (fun vs H Q E h=>?_) (fun cdv A outer s H vs Q E S h=>?_)
 ·obtain⟨_,_,rfl,_⟩:=h
  rfl
 ·obtain⟨n,d,rfl,hd,Z,k⟩:=h
  refine⟨_,aq (bu (i:=2) yL.nd rfl (Or.inl rfl) (a_ Y S rfl z.m z.F.kp z.b .nil passes (aj (b7 Mu (by rfl) j (by decide +kernel) (aj (pv 0) au)) (aj (pv 1) au))))
   (ao (aV (bI (aj (dM yW (pv 0) (pv 2)) (aj (dM yW (pv 1) (pv 2)) au))))),?_⟩
  have hg:0<Nat.gcd n.natAbs d:=Nat.gcd_pos_of_pos_right _ hd
  have G:Nat.gcd n.natAbs d≤d:=Nat.le_of_dvd hd (Nat.gcd_dvd_right _ _)
  have J:M9 n ((Nat.gcd n.natAbs d:Nat):Int):=⟨by lia,Pn (iN G Z)⟩
  have D:M9 (d:Int) ((Nat.gcd n.natAbs d:Nat):Int):=J
  refine⟨_,rfl,n,rfl,_,rfl,n.natAbs,d,?_,?_⟩
  ·have:(if n<0 then -n else n)=(n.natAbs:Int):=by split<;>omega
   rw[this]
   rfl
  ·exact⟨_,rfl,_,rfl,_,_,rfl,rfl,J,_,rfl,_,rfl,_,_,rfl,rfl,D,(by show 2≤sizeLine;decide),fun t U=>by
    have:=k t U
    rw[show(((frac n d).2:Nat):Int)=(d:Int) / ((Nat.gcd n.natAbs d:Nat):Int)from Int.natCast_ediv _ _]at this
    exact this⟩
theorem pR:aK ["self","whole","start","numerator","denominator","place"] ["self","whole"] (aD (bM 5)):=⟨rfl,rfl,rfl,by decide +kernel,rfl,by decide +kernel,by decide +kernel⟩
theorem Oo{f U Sc:Addr}{fd dT:FuncData}(F:fc K "take_decimals" "Scanner.take_decimals" (bM 5) f fd)(T:jC K Sc)(S:Fm K Sc "take_digits" "Scanner.take_digits" (bM 4) U dT ["self","number"])(GT:aF P w K mg base (aW P w) 2 U dT ["self","number"] (wG K Sc))(j:mg "range"=none):aF P w K mg base (aW P w) 3 f fd ["self","whole"] (Ai K Sc):=by
 refine d9 F pR (fun vs H Q E h=>?_) (fun cdv A outer s H vs Q E Z h=>?_)
 ·obtain⟨_,_,_,_,_,_,_,rfl,_⟩:=h
  rfl
 ·obtain⟨sc,dx,ls,lt,t,i,n,rfl,D,k⟩:=h
  refine⟨_,aq (bu (i:=2) pR.nd rfl (Or.inl rfl) (aJ (pv 0) rfl))
   (aq (bu (i:=3) pR.nd rfl (Or.inl rfl) (bc (pv 0) T.cl S.me GT Z S.b .nil passes (aj (pv 1) au)))
   (aq (bu (i:=4) pR.nd rfl (Or.inl rfl) aB)
   (aq (uq rC rfl (Gr rfl j (aj (pv 2) (aj (aJ (pv 0) rfl) au))) (cW (i:=5) pR.nd rfl (Or.inl rfl)) (ao (bu (i:=4) pR.nd rfl (Or.inl rfl) (dM KY (pv 4) aB))))
   (ao (aV (bI (aj (pv 3) (aj (pv 4) au)))))))),?_⟩
  refine⟨_,rfl,sc,Sc,dx,_,_,rfl,D.obj,T.cl,T.nA,rfl,?_⟩
  refine⟨_,rfl,sc,dx,_,rfl,D.obj,rfl,_,rfl,sc,dx,ls,lt,t,i,n,rfl,D,fun H1 Y G=>?_⟩
  have hl:=dH (p:=digit) (t:=t) (i:=i)
  have hf:=D.few
  have aa:=D.le
  refine⟨_,rfl,_,rfl,sc,Sc,dx,_,_,rfl,G.obj,T.cl,T.nA,rfl,(i:Int),((i+(aR digit t i).length:Nat):Int),rfl,⟨by omega,by omega,by omega,by omega⟩,?_⟩
  refine Hj (n:=(((i+(aR digit t i).length:Nat):Int)-(i:Int)).toNat) (fun m σ H'=>∃v:Option V,σ=[some (.ref sc),some (.int n),some (.int (i:Nat)),some (.int (dv n (aR digit t i))),some (.int ((10 ^ m:Nat):Int)),v]∧H'=H1) ⟨none,rfl,rfl⟩ ?_ ?_
  ·rintro m σ H' hm ⟨v,rfl,rfl⟩
   refine⟨_,rfl,_,_,rfl,rfl,.inr ⟨by decide,by decide⟩,some (.int (i+m)),?_,rfl⟩
   rw[Nat.pow_succ,Int.natCast_mul]
   rfl
  ·rintro σ H' ⟨v,rfl,rfl⟩
   rw[show(((i+(aR digit t i).length:Nat):Int)-(i:Int)).toNat=(aR digit t i).length by lia]
   refine⟨_,rfl,_,rfl,(by show 2≤sizeLine;decide),fun p J=>?_⟩
   have O:p≠sc:=fun z=>by rw[z,G.obj]at J;cases J
   have L:H p=none:=by
    cases e:H p with
    | none=>rfl
    | some o=>have:=Y _ _ e O;rw[J]at this;cases this
   have sp:=aA.upd (o:=.tup [.int (dv n (aR digit t i)),.int ((10 ^ (aR digit t i).length:Nat):Int)]) J
   exact k p _ L (fun b o q hb=>sp _ _ (Y _ _ q hb)) ak ⟨sp _ _ G.obj,eE sp G.sig,G.few,G.le⟩
end
end SB
end
section
namespace SB
open PySem PySem.Spec PyProof.Rows L2 XL
variable {P:Program} {w:World} {K:PySem.W.Frag} {mg:Str→Option Value} {base:Heap}
noncomputable abbrev wV:Stmt:=inClass (top 28) 0
noncomputable abbrev wX:Stmt:=inClass (top 29) 0
noncomputable abbrev wW:Stmt:=inClass (top 30) 0
section
theorem Jt:aK ["self"] ["self"] (aD wV):=⟨rfl,rfl,rfl,by decide +kernel,rfl,by decide +kernel,by decide +kernel⟩
theorem K5{f z R:Addr}{fd j:FuncData}(F:fc K "__init__" "TextTooLong.__init__" wV f fd)(L:fc K "__init__" "Refusal.__init__" vh z j)(G:Binds K j ["self","number"] [])(D:mg "Refusal"=some (.ref R))(CR:g_ K R "__init__" z)(hex:mg "Exception"=none):aF P w K mg base (aW P w) 2 f fd ["self"] (NB K (-5)):=by
 have GR:aF P w K mg base (aW P w) 1 z j _ _:=p_ L hex
 refine d9 F Jt (fun vs H Q E h=>?_) (fun cdv A outer s H vs Q E J h=>?_)
 ·obtain⟨_,_,rfl,_⟩:=h
  rfl
 ·obtain⟨x,C,rfl,hx,O,k⟩:=h
  refine⟨_,ao (aM (lK (b_ rfl D rfl) CR GR J G .nil passes (aj (pv 0) (aj (eN cV aB) au)))),?_⟩
  exact⟨_,rfl,_,rfl,x,C,-5,rfl,hx,O,k⟩
theorem Jv:aK ["self"] ["self"] (aD wX):=⟨rfl,rfl,rfl,by decide +kernel,rfl,by decide +kernel,by decide +kernel⟩
theorem K_{f z R:Addr}{fd j:FuncData}(F:fc K "__init__" "NoExpression.__init__" wX f fd)(L:fc K "__init__" "Refusal.__init__" vh z j)(G:Binds K j ["self","number"] [])(D:mg "Refusal"=some (.ref R))(CR:g_ K R "__init__" z)(hex:mg "Exception"=none):aF P w K mg base (aW P w) 2 f fd ["self"] (NB K (-6)):=by
 have GR:aF P w K mg base (aW P w) 1 z j _ _:=p_ L hex
 refine d9 F Jv (fun vs H Q E h=>?_) (fun cdv A outer s H vs Q E J h=>?_)
 ·obtain⟨_,_,rfl,_⟩:=h
  rfl
 ·obtain⟨x,C,rfl,hx,O,k⟩:=h
  refine⟨_,ao (aM (lK (b_ rfl D rfl) CR GR J G .nil passes (aj (pv 0) (aj (eN cV aB) au)))),?_⟩
  exact⟨_,rfl,_,rfl,x,C,-6,rfl,hx,O,k⟩
theorem Ju:aK ["self"] ["self"] (aD wW):=⟨rfl,rfl,rfl,by decide +kernel,rfl,by decide +kernel,by decide +kernel⟩
theorem K6{f z R:Addr}{fd j:FuncData}(F:fc K "__init__" "TextTooHigh.__init__" wW f fd)(L:fc K "__init__" "Refusal.__init__" vh z j)(G:Binds K j ["self","number"] [])(D:mg "Refusal"=some (.ref R))(CR:g_ K R "__init__" z)(hex:mg "Exception"=none):aF P w K mg base (aW P w) 2 f fd ["self"] (NB K (-7)):=by
 have GR:aF P w K mg base (aW P w) 1 z j _ _:=p_ L hex
 refine d9 F Ju (fun vs H Q E h=>?_) (fun cdv A outer s H vs Q E J h=>?_)
 ·obtain⟨_,_,rfl,_⟩:=h
  rfl
 ·obtain⟨x,C,rfl,hx,O,k⟩:=h
  refine⟨_,ao (aM (lK (b_ rfl D rfl) CR GR J G .nil passes (aj (pv 0) (aj (eN cV aB) au)))),?_⟩
  exact⟨_,rfl,_,rfl,x,C,-7,rfl,hx,O,k⟩
end
end SB
end
section
namespace SB
open PySem PySem.Spec PyProof.Rows L2 XL
open Vbdeaa (Text Exp Exps Un Bin Ins digit letter wordSign blank numberToken digitsValue frac small)
variable {P:Program} {w:World} {K:PySem.W.Frag} {mg:Str→Option Value} {base:Heap}
theorem Er:∀(w:Text)(m:Nat),(∀c∈w,digit c=true)→w.foldl (fun n c=>10*n+(c-48).toNat) m<(m+1)*10 ^ w.length
 | [],m,_=>by simp
 | c::r,m,h=>by
  have j:=h c b'
  unfold Vbdeaa.digit at j
  have j:=js j
  have:=Er r (10*m+(c-48).toNat) fun d hd=>h d (am _ hd)
  rw[List.foldl_cons,cr,Nat.pow_succ]
  refine ib this ?_
  rw[Nat.mul_comm (10 ^ r.length) 10,←Nat.mul_assoc]
  exact Nat.mul_le_mul_right _ (by omega)
theorem Il{k:Nat}(h:k≤1999):10 ^ k<2 ^ 8000:=by
 refine iN (Nat.pow_le_pow_left (show 10≤2 ^ 4 by decide) k) ?_
 rw[←Nat.pow_mul]
 exact Nat.pow_lt_pow_right (by decide) (by omega)
noncomputable def qH(t:Text)(i:Nat):Prop:=¬((bN t i).2.1=0∨eQ (pk t (bN t i).2.2)=true)∧small (frac ((bN t i).1:Nat) (bN t i).2.1)=true
theorem Gf{n d:Nat}(hd:0<d):small (frac (n:Nat) d)=(decide ((frac (n:Nat) d).1≤1000000000000000000)&&decide (((frac (n:Nat) d).2:Int)≤1000000000000000000)):=by
 have h1:1≤(frac (n:Nat) d).2:=Nat.div_pos (Nat.le_of_dvd hd (Nat.gcd_dvd_right _ _)) (Nat.gcd_pos_of_pos_right _ hd)
 have h0:0≤(frac (n:Nat) d).1:=Int.ediv_nonneg (by omega) (by omega)
 generalize frac (n:Nat) d=q at *
 have j:Vbdeaa.B=1000000000000000000:=by decide
 unfold Vbdeaa.small
 rw[j,i8 h1,Bool.true_and,iX,h9,h9,jv,jv,jv,jv]
 omega
structure CT (K:PySem.W.Frag) (mg:Str→Option Value):Prop where
 PT:GC K mg "POINT" (.i 46)
 CO:GC K mg "COLON" (.i 58)
 UN:GC K mg "UNDERSCORE" (.i 95)
 LA:GC K mg "LARGEST" (.i 1000000000000000000)
 BL:GC K mg "BLANKS" (tvs [32,9,10,13])
 LN:GC K mg "LONGEST_NAME" (.i 24)
noncomputable def wJ(K:PySem.W.Frag)(Sc Ce:Addr):Sp:=fun vs H Q E=>∃(sc:Addr)(M:List Addr)(t:Text)(i:Nat)(tks:List TK),vs=[.ref sc]∧Ng K Sc H sc M t i tks∧tks.length≤2000 ∧
 (qH t i→∀H',Ng K Sc H' sc M t (bN t i).2.2 (tks++[.num (frac ((bN t i).1:Nat) (bN t i).2.1)])→aA (off M H) (off M H')→Q .non H')∧(¬qH t i→bz Ce (-6) (off M H) E)
section
theorem je:aK ["self","whole","pair","behind"] ["self"] (aD (bM 6)):=⟨rfl,rfl,rfl,by decide +kernel,rfl,by decide +kernel,by decide +kernel⟩
theorem K9{f fP fD fL fT fB fU fW Sc Ce fI:Addr}{fd dP dD dL dT dB dU dW dI:FuncData}(F:fc K "scan_number" "Scanner.scan_number" (bM 6) f fd)(T:jC K Sc)(C:CT K mg)(X:XC P w K mg base "NoExpression" Ce fI dI (-6))
  (FP:Fm K Sc "peek" "Scanner.peek" (bM 1) fP dP ["self","ahead"]) (aw:mg "len"=none) (FD:Fn K mg "is_letter" gP fD dD ["sign"])
  (FT:Fm K Sc "take_digits" "Scanner.take_digits" (bM 4) fT dT ["self","number"]) (GT:aF P w K mg base (aW P w) 2 fT dT ["self","number"] (wG K Sc))
  (FB:Fm K Sc "digits_behind" "Scanner.digits_behind" (bM 3) fB dB ["self","sign"]) (GB:aF P w K mg base (aW P w) 2 fB dB ["self","sign"] (Aw K Sc))
  (FU:Fm K Sc "take_decimals" "Scanner.take_decimals" (bM 5) fU dU ["self","whole"]) (GU:aF P w K mg base (aW P w) 3 fU dU ["self","whole"] (Ai K Sc))
  (FW:Fn K mg "lowest_terms" oK fW dW ["numerator","denominator"]) (GW:aF P w K mg base (aW P w) 2 fW dW ["numerator","denominator"] tZ):aF P w K mg base (aW P w) 4 f fd ["self"] (wJ K Sc Ce):=by
 have GP:aF P w K mg base (aW P w) 1 fP dP ["self","ahead"] (jQ K Sc):=jj FP.F T aw
 have GD:aF P w K mg base (aW P w) 1 fD dD ["sign"] jR:=lL FD
 refine d9 F je (fun vs H Q E h=>?_) (fun cdv A outer s H vs Q E hr h=>?_)
 ·obtain⟨_,_,_,_,_,rfl,_⟩:=h
  rfl
 ·obtain⟨sc,M,t,i,tks,rfl,⟨dx,ls,lt,tas,D⟩,av,k,kr⟩:=h
  have al:bG 1 _:=hr.mono (by omega)
  have S:bG 2 _:=hr.mono (by omega)
  have tail:∃tr,zX (eU (aW P w) P w K mg base ["self","whole","pair","behind"] "Scanner.scan_number" (aD (bM 6)) f cdv A outer s H E) ((eO (bM 6)).drop 3) tr ∧
    ∀(H2:Hp)(p:Addr)(v1:V),mX K Sc H2 sc M t (bN t i).2.2 tks dx ls lt tas→aA (off M H) (off M H2)→H2 p=some (.tup [.int ((bN t i).1:Nat),.int ((bN t i).2.1:Nat)])→(bN t i).2.1<2 ^ 8000→tr { nx:=fun _ H'=>Q .non H',rt:=Q } [some (.ref sc),some v1,some (.ref p),none] H2:=by
   refine⟨_,aq (bu (i:=3) je.nd rfl (Or.inl rfl) (bc (pv 0) T.cl FP.me GP al FP.b .nil passes (aj aB au)))
    (aq (aX (PW.pt (m_ (aG cz (bZ cX (pv 2) aB (fun _ _=>rfl)) aB (aL _)) (m_ (eG (a_ GD al rfl FD.m FD.F.kp FD.b .nil passes (aj (pv 3) au))) (jV (aG iM (pv 3) (bI (aj (bw rfl C.UN) (aj (bw rfl C.PT) (aj (bw rfl C.CO) au)))) rfl)))))
      (ao (bO X.made X.cls X.ok hr rfl X.m X.b rfl bF)) aP)
    (aq (bu (i:=2) je.nd rfl (Or.inl rfl) (a_ GW S rfl FW.m FW.F.kp FW.b .nil passes (aj (bZ cX (pv 2) aB (fun _ _=>rfl)) (aj (bZ cX (pv 2) aB (fun _ _=>rfl)) au))))
    (aq (aX (PW.pt (m_ (aG qF (bZ cX (pv 2) aB (fun _ _=>rfl)) (bw rfl C.LA) (aL _)) (jV (aG qF (bZ cX (pv 2) aB (fun _ _=>rfl)) (bw rfl C.LA) (aL _)))))
      (ao (bO X.made X.cls X.ok hr rfl X.m X.b rfl bF)) aP)
    (ao (aM (gB PySem.F.plainAttrs_list PySem.F.slot_list_append PySem.F.type_list_append gq (aJ (pv 0) rfl) (aj (bI (aj bA (aj (pv 2) au))) au))))))),?_⟩
   intro H2 p v1 G sm hp ar
   have raise:∀H',aA H2 H'→¬qH t i→bz Ce (-6) H' E:=fun H' s' hn=>(kr hn).mono ((sm.trans (aU M H2)).trans s')
   refine⟨_,rfl,sc,dx,_,rfl,G.at_.obj,rfl,sc,dx,ls,lt,t,_,0,rfl,G.at_,?_⟩
   refine⟨_,rfl,p,_,_,_,rfl,rfl,cR.of hp,at_of (j:=1) rfl rfl,rfl,_,rfl,?_⟩
   have e0:decide (V.int ((bN t i).2.1:Nat)=V.int 0)=decide ((bN t i).2.1=0):=by
    rw[decide_eq_decide]
    exact⟨fun z=>by have:=V.int.inj z;omega,fun z=>by rw[z];rfl⟩
   rw[e0]
   by_cases h0:(bN t i).2.1=0
   ·rw[i8 h0]
    exact bh (bh (raise _ (aA.refl _) fun z=>z.1 (.inl h0)).go)
   rw[j4 h0]
   refine aQ ⟨_,rfl,_,rfl,_,rfl,?_⟩
   rw[Nat.add_zero]
   cases hl:letter (pk t (bN t i).2.2)with
   | true=>exact bh (bh (raise _ (aA.refl _) fun z=>z.1 (.inr (by unfold eQ;rw[hl];rfl))).go)
   | false =>
    refine aQ ⟨_,rfl,(by show 3≤sizeLine;decide),fun q hq=>⟨q,_,rfl,.inr (cR.of ak),rfl,rfl,_,rfl,?_⟩⟩
    have sq:aA H2 (L2.upd H2 q (.tup [.int 95,.int 46,.int 58])):=aA.upd hq
    have eb:inV (.int (pk t (bN t i).2.2)) [.int 95,.int 46,.int 58]=(pk t (bN t i).2.2==95||(pk t (bN t i).2.2==46||pk t (bN t i).2.2==58)):=by
     show(decide ((95:Int)=_)||(decide ((46:Int)=_)||(decide ((58:Int)=_)||false)))=_
     rw[Bool.or_false,Bool.beq_eq_decide_eq,Bool.beq_eq_decide_eq,Bool.beq_eq_decide_eq]
     congr 1
     ·exact decide_eq_decide.mpr eq_comm
     ·congr 1
      ·exact decide_eq_decide.mpr eq_comm
      ·exact decide_eq_decide.mpr eq_comm
    rw[show(if false=true then !inV (V.int (pk t (bN t i).2.2)) [.int 95,.int 46,.int 58]else inV (V.int (pk t (bN t i).2.2)) [.int 95,.int 46,.int 58])=inV (.int (pk t (bN t i).2.2)) [.int 95,.int 46,.int 58]from rfl,eb]
    cases hb:(pk t (bN t i).2.2==95||(pk t (bN t i).2.2==46||pk t (bN t i).2.2==58))with
    | true=>exact bh (raise _ sq fun z=>z.1 (.inr (by unfold eQ;rw[hl,hb];rfl))).go
    | false =>
     have af:¬((bN t i).2.1=0∨eQ (pk t (bN t i).2.2)=true):=by
      rintro(z | z)
      ·exact h0 z
      ·unfold eQ at z
       rw[hl,hb]at z
       cases z
     have O:=sq _ _ hp
     refine aQ ⟨_,rfl,p,_,_,_,rfl,rfl,cR.of O,at_of (j:=0) rfl rfl,_,rfl,p,_,_,_,rfl,rfl,cR.of O,at_of (j:=1) rfl rfl,((bN t i).1:Nat),(bN t i).2.1,rfl,by omega,ar,fun r aC=>?_⟩
     have aE:=Gf (n:=(bN t i).1) (d:=(bN t i).2.1) (by omega)
     generalize ax:frac ((bN t i).1:Nat) (bN t i).2.1=fr at *
     have sr:aA (L2.upd H2 q (.tup [.int 95,.int 46,.int 58])) (L2.upd (L2.upd H2 q (.tup [.int 95,.int 46,.int 58])) r (.tup [.int fr.1,.int (fr.2:Nat)])):=aA.upd aC
     have ai:(L2.upd (L2.upd H2 q (.tup [.int 95,.int 46,.int 58])) r (.tup [.int fr.1,.int (fr.2:Nat)])) r=some (.tup [.int fr.1,.int (fr.2:Nat)]):=ak
     refine⟨_,rfl,r,_,_,_,rfl,rfl,cR.of ai,at_of (j:=0) rfl rfl,_,_,rfl,rfl,_,rfl,?_⟩
     have ay:(¬fr.1≤1000000000000000000∨¬(fr.2:Int)≤1000000000000000000)→¬qH t i:=fun z y=>by
      have:=y.2
      rw[ax,aE,h9,jv,jv]at this
      omega
     by_cases g1:fr.1≤1000000000000000000
     ·rw[j4 (by omega)]
      refine aQ ⟨_,rfl,r,_,_,_,rfl,rfl,cR.of ai,at_of (j:=1) rfl rfl,_,_,rfl,rfl,_,rfl,?_⟩
      by_cases g2:(fr.2:Int)≤1000000000000000000
      ·rw[j4 (by omega)]
       refine aQ ?_
       have hok:qH t i:=⟨af,by rw[ax,aE,i8 g1,i8 g2];rfl⟩
       obtain⟨D3,aS⟩:=G.keep (sq.trans sr)
       refine⟨_,rfl,sc,Sc,dx,_,_,rfl,D3.at_.obj,T.cl,T.nT,rfl,.inl ⟨rfl,_,bV.of D3.tl⟩,_,rfl,(by show 2≤sizeLine;decide),fun a ha=>?_⟩
       obtain⟨Y,L⟩:=D3.keep (aA.upd (o:=.tup [.str "number",.ref r]) ha)
       have aI:cO (off M (L2.upd (L2.upd (L2.upd H2 q (.tup [.int 95,.int 46,.int 58])) r (.tup [.int fr.1,.int (fr.2:Nat)])) a (.tup [.str "number",.ref r]))) (.num fr) a:=by
        refine⟨r,lN D3.there ha,L _ _ (lN (G.keep sq).1.there aC)⟩
       obtain⟨D5,a6⟩:=Y.app aI
       refine⟨lt,_,_,rfl,rfl,Y.tl,?_,?_⟩
       ·rw[ap,←Paired.length Y.tks]
        exact iN av (by decide)
       ·refine k hok _ ⟨dx,ls,lt,tas++[a],?_⟩ ?_
        ·exact D5
        ·rw[a6];exact(sm.trans aS).trans L
      ·rw[i8 (by omega)]
       exact bh (raise _ (sq.trans sr) (ay (.inr g2))).go
     ·rw[i8 (by omega)]
      exact bh (bh (raise _ (sq.trans sr) (ay (.inl g1))).go)
  obtain⟨tr,ag,tail⟩:=tail
  refine⟨_,aq (bu (i:=1) je.nd rfl (Or.inl rfl) (bc (pv 0) T.cl FT.me GT S FT.b .nil passes (aj aB au)))
   (aq (bu (i:=2) je.nd rfl (Or.inl rfl) (bI (aj (pv 1) (aj aB au))))
   (aq (aX (eG (bc (pv 0) T.cl FB.me GB S FB.b .nil passes (aj (bw rfl C.PT) au)))
     (aq (cH (pv 0) aB gC) (ao (bu (i:=2) je.nd rfl (Or.inl rfl) (bc (pv 0) T.cl FU.me GU hr FU.b .nil passes (aj (pv 1) au)))))
     (ao (aX (eG (bc (pv 0) T.cl FB.me GB S FB.b .nil passes (aj (bw rfl C.CO) au)))
      (aq (cH (pv 0) aB gC) (ao (bu (i:=2) je.nd rfl (Or.inl rfl) (bI (aj (pv 1) (aj (bc (pv 0) T.cl FT.me GT S FT.b .nil passes (aj aB au)) au))))))
      aP))) ag)),?_⟩
  have hw:∀c∈aR digit t i,digit c=true:=lH
  have bf:=dH (p:=digit) (t:=t) (i:=i)
  have be:=D.at_.few
  have bb:=D.at_.le
  have aa:dv 0 (aR digit t i)=(digitsValue (aR digit t i):Nat):=xV _ 0 hw
  refine⟨_,rfl,sc,dx,_,rfl,D.at_.obj,rfl,sc,dx,ls,lt,t,i,0,rfl,D.at_,fun H1 a0 A1=>?_⟩
  obtain⟨D1,a4⟩:=D.step a0 A1
  refine⟨_,rfl,(by show 2≤sizeLine;decide),fun p hp=>?_⟩
  obtain⟨G,a8⟩:=D1.keep (aA.upd (o:=.tup [.int (dv 0 (aR digit t i)),.int 1]) hp)
  have a7:(L2.upd H1 p (.tup [.int (dv 0 (aR digit t i)),.int 1])) p=some (.tup [.int (dv 0 (aR digit t i)),.int 1]):=ak
  generalize bd:L2.upd H1 p (.tup [.int (dv 0 (aR digit t i)),.int 1])=H2 at *
  generalize ba:i+(aR digit t i).length=i1 at *
  have U:=a4.trans a8
  have J:bN t i=if(decide (pk t i1=46)&&digit (pk t (i1+1)))=true then(digitsValue (aR digit t i++aR digit t (i1+1)),10 ^ (aR digit t (i1+1)).length,i1+1+(aR digit t (i1+1)).length)
    else if(decide (pk t i1=58)&&digit (pk t (i1+1)))=true then(digitsValue (aR digit t i),digitsValue (aR digit t (i1+1)),i1+1+(aR digit t (i1+1)).length)
    else(digitsValue (aR digit t i),1,i1):=by
   unfold bN
   simp only[ba]
  have bg:=dH (p:=digit) (t:=t) (i:=i1+1)
  have hf:∀c∈aR digit t (i1+1),digit c=true:=lH
  refine⟨_,rfl,sc,dx,_,rfl,G.at_.obj,rfl,sc,dx,ls,lt,t,i1,46,rfl,G.at_,_,rfl,?_⟩
  have ah:digit (pk t (i1+1))=true→jJ K Sc (L2.upd H2 sc (.ins Sc dx (Gi ls (i1+1) lt))) sc dx ls lt t (i1+1)∧bC sc H2 (L2.upd H2 sc (.ins Sc dx (Gi ls (i1+1) lt)))∧i1+1<t.length:=fun hd=>by
   have:=(eF iR hd).2
   have sx:bC sc H2 (L2.upd H2 sc (.ins Sc dx (Gi ls (i1+1) lt))):=bC.wy fun _ _ q _=>q
   exact⟨G.at_.upd sx ak (by omega),sx,this⟩
  cases hA:(decide (pk t i1=46)&&digit (pk t (i1+1)))with
  | true =>
   rw[hA,jI rfl]at J
   have ae:digit (pk t (i1+1))=true:=by rw[h9]at hA;exact hA.2
   obtain⟨A3,ac,a5⟩:=ah ae
   refine bh ⟨_,rfl,sc,Sc,dx,_,_,rfl,G.at_.obj,T.cl,T.nA,rfl,_,_,rfl,rfl,dx,_,G.at_.obj,(by show 3<1000;decide),?_⟩
   refine⟨_,rfl,sc,dx,_,rfl,ak,rfl,_,rfl,sc,dx,ls,lt,t,i1+1,_,rfl,A3,fun p2 H4 O Z a3 A4=>?_⟩
   obtain⟨Y,L⟩:=G.step (ac.trans Z) A4
   refine tail H4 p2 _ (by rw[J];exact Y) (U.trans L) ?_ (by rw[J];exact Il (by omega))
   rw[a3,J,aa,xV _ _ hf]
   show some (HO.tup [.int _,_])=some (HO.tup [.int ((digitsValue (aR digit t i++aR digit t (i1+1)):Nat):Int),_])
   rw[show digitsValue (aR digit t i++aR digit t (i1+1))=(aR digit t (i1+1)).foldl (fun n c=>10*n+(c-48).toNat) (digitsValue (aR digit t i))from List.foldl_append ..]
  | false =>
   rw[hA]at J
   simp only[Bool.false_eq_true,if_false]at J
   refine aQ ⟨_,rfl,sc,dx,_,rfl,G.at_.obj,rfl,sc,dx,ls,lt,t,i1,58,rfl,G.at_,_,rfl,?_⟩
   cases hB:(decide (pk t i1=58)&&digit (pk t (i1+1)))with
   | true =>
    rw[hB,jI rfl]at J
    have ae:digit (pk t (i1+1))=true:=by rw[h9]at hB;exact hB.2
    obtain⟨A3,ac,a5⟩:=ah ae
    refine bh ⟨_,rfl,sc,Sc,dx,_,_,rfl,G.at_.obj,T.cl,T.nA,rfl,_,_,rfl,rfl,dx,_,G.at_.obj,(by show 3<1000;decide),?_⟩
    refine⟨_,rfl,_,rfl,sc,dx,_,rfl,ak,rfl,sc,dx,ls,lt,t,i1+1,0,rfl,A3,fun H4 Z A4=>⟨(by show 2≤sizeLine;decide),fun p2 O=>?_⟩⟩
    obtain⟨Y,L⟩:=G.step (ac.trans Z) A4
    obtain⟨D5,a9⟩:=Y.keep (aA.upd (o:=.tup [.int (dv 0 (aR digit t i)),.int (dv 0 (aR digit t (i1+1)))]) O)
    have aT:dv 0 (aR digit t (i1+1))=(digitsValue (aR digit t (i1+1)):Nat):=xV _ 0 hf
    refine tail _ p2 _ (by rw[J];exact D5) ((U.trans L).trans a9) ?_ ?_
    ·rw[ak,J,aa,aT]
    ·rw[J]
     have:=Er (aR digit t (i1+1)) 0 hf
     rw[Nat.zero_add,Nat.one_mul]at this
     exact Nat.lt_trans this (Il (by omega))
   | false =>
    rw[hB]at J
    simp only[Bool.false_eq_true,if_false]at J
    refine aQ ?_
    refine tail H2 p _ (by rw[J];exact G) U ?_ (by rw[J];exact Nat.one_lt_two_pow (by decide))
    rw[a7,J,aa]
    rfl
end
end SB
end
section
namespace SB
open PySem PySem.Spec PyProof.Rows L2 XL
open Vbdeaa (Text Exp Exps Un Bin Ins digit letter wordSign blank)
open TL (tl)
variable {P:Program} {w:World} {K:PySem.W.Frag} {mg:Str→Option Value} {base:Heap}
noncomputable abbrev ABC:Str:="abcdefghijklmnopqrstuvwxyz"
theorem QK{X:Cx}{x:Str}{n:Str}{pos:Pos}(z:Gl X x)(j:GC X.K X.mg x (.s n))(hd:(x==("__debug__" : Str))=false:=by decide):PE X (.Name x pos) (tC (.str n)):=by
 obtain⟨u,v,e,r,D⟩:=j
 cases D.str
 exact b_ z e r hd
theorem Mq:((List.range 10).all fun i=>decide (vf ((i:Nat):Int)=(⟨#[48+i]⟩:Str)))=true:=by decide +kernel
theorem Fi:((List.range 26).all fun i=>decide (ABC.cps.toList[i]?=some (97+i))&&decide (Txt.upper ⟨#[97+i]⟩=(⟨#[65+i]⟩:Str)))=true:=by decide +kernel
theorem Fj:ABC.length≤sizeLine:=by decide +kernel
theorem wA{c:Int}{n:Nat}(h:c=(n:Nat)):bD [c]=(⟨#[n]⟩:Str):=by
 subst h
 rfl
noncomputable def Dq:Sp:=fun vs H Q _=>∃c:Int,vs=[.int c]∧wordSign c=true∧Q (.str (bD [c])) H
noncomputable abbrev JV:Stmt:=top 64
theorem Dh:wordSign (-1)=false:=by decide
theorem yr{c:Int}(h:wordSign c=true):(digit c=true∧48≤c∧c≤57)∨(digit c=false∧c=95)∨(digit c=false∧c≠95∧97≤c∧c≤122)∨(digit c=false∧c≠95∧65≤c∧c≤90):=by
 unfold Vbdeaa.wordSign at h
 rw[vQ,digit_eq]at h
 rw[digit_eq]
 simp only[Bool.or_eq_true,h9,jv,beq_iff_eq,Bool.and_eq_false_iff,decide_eq_false_iff_not]at h ⊢
 omega
theorem join_one:∀(w:Text),tl (Txt.join "" (w.map fun c=>bD [c]))=w.map Int.toNat:=by
 intro w
 rw[TL.PJ,TL.Dl]
 have:∀(l:List (List Nat)),TL.zq (tl "") l=l.flatten:=by
  intro l
  induction l with
  | nil=>rfl
  | cons p r j =>
   cases r with
   | nil=>show p=[p].flatten;simp
   | cons q r=>show p++([]++TL.zq (tl "") (q::r))=_;rw[j];rfl
 rw[this,List.map_map]
 induction w with
 | nil=>rfl
 | cons c r j=>rw[i4,List.flatten_cons,j];rfl
theorem Ik{a b:Str}(h:tl a=tl b):a=b:=by
 obtain⟨⟨a⟩⟩:=a
 obtain⟨⟨b⟩⟩:=b
 have:a=b:=h
 rw[this]
theorem Pz(w:Text):Txt.join "" (w.map fun c=>bD [c])=bD w:=Ik (by rw[join_one,iZ])
noncomputable def Jb(K:PySem.W.Frag)(Sc:Addr):Sp:=fun vs H Q _=>∃(sc dx ls lt:Addr)(t:Text)(i:Nat),vs=[.ref sc]∧jJ K Sc H sc dx ls lt t i ∧
 ∀H',bC sc H H'→jJ K Sc H' sc dx ls lt t (i+(aR wordSign t i).length)→Q (.str (bD (aR wordSign t i))) H'
section
theorem Ua:aK ["sign"] ["sign"] (aD JV):=⟨rfl,rfl,rfl,by decide +kernel,rfl,by decide +kernel,by decide +kernel⟩
theorem RT{f J:Addr}{fd L:FuncData}(F:Fn K mg "name_sign_text" JV f fd ["sign"])(G:Fn K mg "is_digit" jg J L ["sign"])(C:CT K mg)(O:GC K mg "SMALL_LETTERS" (.s ABC))(D:mg "str"=none):aF P w K mg base (aW P w) 2 f fd ["sign"] Dq:=by
 have S:aF P w K mg base (aW P w) 1 J L ["sign"] lG:=j0 G
 refine d9 F.F Ua (fun vs H Q E h=>?_) (fun cdv A outer s H vs Q E U h=>?_)
 ·obtain⟨_,rfl,_⟩:=h
  rfl
 ·obtain⟨c,rfl,Y,k⟩:=h
  refine⟨_,aq (aX (eG (a_ S U rfl G.m G.F.kp G.b .nil passes (aj (pv 0) au))) (ao (aV (iI pB (by rfl) D (by decide +kernel) (aj (dM uA (pv 0) aB) au)))) aP)
   (aq (aX (aG cz (pv 0) (bw rfl C.UN) (aL _)) (ao (aV bA)) aP)
   (aq (aX (aG qG (pv 0) aB (aL _)) (ao (aV (bZ LK (QK rfl O) (dM uA (pv 0) aB) (fun _ _=>rfl)))) aP)
   (ao (aV (Bl PySem.F.plainAttrs_str PySem.F.slot_str_upper PySem.F.type_str_upper Li (bZ LK (QK rfl O) (dM uA (pv 0) aB) (fun _ _=>rfl))))))),?_⟩
  refine⟨_,rfl,c,rfl,_,rfl,?_⟩
  rcases yr Y with⟨hd,h1,h2⟩ | ⟨hd,h1⟩ | ⟨hd,h0,h1,h2⟩ | ⟨hd,h0,h1,h2⟩
  ·rw[hd]
   refine bh ⟨_,rfl,_,_,rfl,rfl,_,rfl,?_,?_⟩
   ·exact iN (Nat.log2_le_self _) (by omega)
   ·obtain⟨n,j⟩:=Int.eq_ofNat_of_zero_le (show 0≤c-48 by omega)
    have:=js (j5.mp Mq n (j'.mpr (by omega)))
    rw[wA (n:=48+n) (by omega),←this]at k
    rw[j]
    exact k
  ·rw[hd]
   subst h1
   exact aQ ⟨_,rfl,rfl,_,rfl,bh k⟩
  ·rw[hd]
   refine aQ ⟨_,rfl,rfl,_,rfl,?_⟩
   rw[j4 (fun z=>h0 (V.int.inj z))]
   refine aQ ⟨_,rfl,_,_,rfl,rfl,_,rfl,?_⟩
   rw[i8 h1]
   obtain⟨n,j⟩:=Int.eq_ofNat_of_zero_le (show 0≤c-97 by omega)
   have:=j5.mp Fi n (j'.mpr (by omega))
   rw[h9,jv,jv]at this
   refine bh ⟨_,rfl,_,_,rfl,rfl,ABC,_,97+n,rfl,rfl,Fj,?_,?_⟩
   ·rw[j]
    exact jw this.1
   ·rw[wA (n:=97+n) (by omega)]at k
    exact k
  ·rw[hd]
   refine aQ ⟨_,rfl,rfl,_,rfl,?_⟩
   rw[j4 (fun z=>h0 (V.int.inj z))]
   refine aQ ⟨_,rfl,_,_,rfl,rfl,_,rfl,?_⟩
   rw[j4 (by omega)]
   obtain⟨n,j⟩:=Int.eq_ofNat_of_zero_le (show 0≤c-65 by omega)
   have:=j5.mp Fi n (j'.mpr (by omega))
   rw[h9,jv,jv]at this
   refine aQ ⟨_,rfl,_,_,rfl,rfl,ABC,_,97+n,rfl,rfl,Fj,?_,?_⟩
   ·rw[j]
    exact jw this.1
   ·refine⟨rfl,_,rfl,rfl,(by show 1≤_;decide),?_⟩
    rw[this.2]
    rw[wA (n:=65+n) (by omega)]at k
    exact k
theorem Ds:aK ["self","start","sign"] ["self"] (aD (bM 7)):=⟨rfl,rfl,rfl,by decide +kernel,rfl,by decide +kernel,by decide +kernel⟩
theorem RM{f fP fN fS Sc:Addr}{fd dP dN dS:FuncData}(F:fc K "take_name_signs" "Scanner.take_name_signs" (bM 7) f fd)(T:jC K Sc)(FP:Fm K Sc "peek" "Scanner.peek" (bM 1) fP dP ["self","ahead"])(Y:mg "len"=none)
  (FN:Fn K mg "is_name_sign" ul fN dN ["sign"]) (GN:aF P w K mg base (aW P w) 2 fN dN ["sign"] wF) (FS:Fn K mg "name_sign_text" JV fS dS ["sign"]) (GS:aF P w K mg base (aW P w) 2 fS dS ["sign"] Dq):aF P w K mg base (aW P w) 3 f fd ["self"] (Jb K Sc):=by
 have GP:aF P w K mg base (aW P w) 1 fP dP ["self","ahead"] (jQ K Sc):=jj FP.F T Y
 refine d9 F Ds (fun vs H Q E h=>?_) (fun cdv A outer s H vs Q E hr h=>?_)
 ·obtain⟨_,_,_,_,_,_,rfl,_⟩:=h
  rfl
 ·obtain⟨sc,dx,ls,lt,t,i,rfl,D,k⟩:=h
  have aa:bG 1 _:=hr.mono (by omega)
  refine⟨_,aq (bu (i:=1) Ds.nd rfl (Or.inl rfl) (aJ (pv 0) rfl))
   (aq (gA rC (eG (a_ GN hr rfl FN.m FN.F.kp FN.b .nil passes (aj (bc (pv 0) T.cl FP.me GP aa FP.b .nil passes (aj aB au)) au)))
    (ao (cH (pv 0) aB gC)))
   (ao (aV (gB PySem.F.plainAttrs_str PySem.F.slot_str_join PySem.F.type_str_join Ph bA (aj (yU (own:=[("sign",2)]) (te:=qz Dq [] E0 (aZ (pP 2) cY)) rfl Ds.nd (ji (jZ rW (aJ (pv 0) rfl) (gR (pv 1)) (gR (aJ (pv 0) rfl)))) (iW (by kernel_rfl))
     (fun _ _ _ _ _=>by exact cW (i:=2) Ds.nd rfl (Or.inl rfl)) (fun _ _ _ _ _=>by exact lJ) (fun _ _ _ _ _=>by exact a_ GS hr rfl FS.m FS.F.kp FS.b .nil RG (aj (pv 2) au))) au))))),?_⟩
  refine⟨_,rfl,sc,Sc,dx,_,_,rfl,D.obj,T.cl,T.nA,rfl,?_⟩
  refine⟨fun m σ H'=>∃j:Nat,σ=[some (.ref sc),some (.int (i:Nat)),none]∧m=t.length-j∧bC sc H H'∧jJ K Sc H' sc dx ls lt t j∧i+(aR wordSign t i).length=j+(aR wordSign t j).length,
   ⟨_,i,rfl,rfl,fun _ _ q _=>q,D,rfl⟩,?_⟩
  rintro m σ H' ⟨j,rfl,rfl,sx,z,e2⟩
  refine⟨_,rfl,sc,dx,_,rfl,z.obj,rfl,sc,dx,ls,lt,t,j,0,rfl,z,_,rfl,_,rfl,?_⟩
  rw[Nat.add_zero]
  cases hd:wordSign (pk t j)with
  | true =>
   obtain⟨r1,r2⟩:=eF Dh hd
   refine bh ⟨fun σ' J=>∃Z:Nat,σ'=[some (.ref sc),some (.int (i:Nat)),none]∧t.length-Z<t.length-j∧bC sc H J∧jJ K Sc J sc dx ls lt t Z∧i+(aR wordSign t i).length=Z+(aR wordSign t Z).length,fun σ' J ⟨j,h1,h2,h3⟩=>⟨_,h2,j,h1,rfl,h3⟩,?_⟩
   refine⟨_,rfl,sc,Sc,dx,_,_,rfl,z.obj,T.cl,T.nA,rfl,_,_,rfl,rfl,dx,_,z.obj,(by show 3<1000;decide),?_⟩
   have U:bC sc H' (L2.upd H' sc (.ins Sc dx (Gi ls (j+1) lt))):=bC.wy fun _ _ q _=>q
   refine⟨j+1,rfl,by omega,sx.trans U,z.upd U ak r2,?_⟩
   rw[e2,r1,cr]
   omega
  | false =>
   have r0:=DG hd
   rw[r0]at e2
   have hj:j=i+(aR wordSign t i).length:=by simpa using e2.symm
   subst hj
   have ag:=dH (p:=wordSign) (t:=t) (i:=i)
   have af:=D.few
   have ac:=D.le
   refine aQ ⟨rfl,_,rfl,sc,Sc,dx,_,_,rfl,z.obj,T.cl,T.nS,rfl,_,rfl,_,rfl,_,rfl,sc,Sc,dx,_,_,rfl,z.obj,T.cl,T.nA,rfl,_,rfl,ls,_,rfl,z.sig,fun p hp=>⟨p,rfl,⟨_,bV.of ak⟩,fun L hL=>?_⟩⟩
   have S:nU (vI t) (some ((i:Nat):Int)) (some ((i+(aR wordSign t i).length:Nat):Int))=vI (aR wordSign t i):=by
    rw[Ew,Dj,Di]
    congr 1
    have:t.drop i=aR wordSign t i++(t.drop i).dropWhile wordSign:=List.takeWhile_append_dropWhile.symm
    rw[this,List.take_left]
   rw[S]at hL ⊢
   have sp:aA H' (L2.upd H' p (.lst (vI (aR wordSign t i)))):=aA.upd hp
   refine lV (K:=K) (a:=p) (xs:=vI (aR wordSign t i)) (fun m H2=>aA (L2.upd H' p (.lst (vI (aR wordSign t i)))) H2∧H2 L=some (.lst (((aR wordSign t i).take m).map fun c=>V.str (bD [c])))) ⟨aA.upd hL,ak⟩ (fun m H2 _ ⟨s1,_⟩=>bV.of (s1 _ _ ak)) ?_ ?_
   ·rintro m y H2 O ⟨s1,G⟩
    rw[Ig]at O
    obtain⟨c,hc,rfl⟩:∃c,(aR wordSign t i)[m]?=some c∧y=.int c:=by
     cases e:(aR wordSign t i)[m]? with
     | none=>rw[e]at O;cases O
     | some c=>rw[e]at O;exact⟨c,rfl,(Option.some.inj O).symm⟩
    have ae:=(hZ.mp hc).1
    refine⟨rfl,_,rfl,c,rfl,lH c (j6 hc),_,G,?_,?_,?_⟩
    ·rw[ap,ii]
     exact iN (Nat.min_le_left _ _) (ib (by omega:m<2000) (by decide))
    ·intro b o q
     rw[az (aH q hL)]
     exact s1 _ _ q
    ·rw[ak,List.take_succ,hc,ka]
     rfl
   ·rintro H2 ⟨s1,G⟩
    rw[dj,List.take_length]at G
    refine⟨"",L,(aR wordSign t i).map fun c=>bD [c],rfl,rfl,.inl ?_,?_,?_⟩
    ·rw[List.map_map]
     exact bV.of G
    ·have e1:(((aR wordSign t i).map fun c=>bD [c]).map (·.length)).sum≤2000:=by
      rw[List.map_map]
      have:∀l:Text,(l.map ((fun(x:Str)=>x.length) ∘ fun c=>bD [c])).sum=l.length:=by
       intro l
       induction l with
       | nil=>rfl
       | cons c r ih=>rw[i4,List.sum_cons,ih,cr];show 1+r.length=_;omega
      rw[this]
      omega
     rw[ap]
     show _+(aR wordSign t i).length*0≤_
     omega
    ·rw[Pz]
     have s2:=sp.trans s1
     exact k H2 (fun b o q hb=>s2 _ _ (sx _ _ q hb)) ⟨s2 _ _ z.obj,eE s2 z.sig,z.few,z.le⟩
end
theorem G8:letter (-1)=false:=by decide
noncomputable def j8(t:Text)(i:Nat):Text×Nat :=
 let w:=aR wordSign t i
 let i1:=i+w.length
 if(decide (pk t i1=46)&&letter (pk t (i1+1)))=true then(w++46::aR wordSign t (i1+1),i1+1+(aR wordSign t (i1+1)).length)else(w,i1)
theorem Ux(t:Text)(i:Nat):Vbdeaa.nameOf (t.drop i)=(j8 t i).1∧(j8 t i).2=i+(j8 t i).1.length:=by
 unfold Vbdeaa.nameOf j8
 simp only
 rw[uo]
 have F:(t.drop i).takeWhile wordSign=aR wordSign t i:=rfl
 rw[F]
 generalize D:i+(aR wordSign t i).length=i1
 have e1:((t.drop i1).drop 1)=t.drop (i1+1):=by rw[List.drop_drop]
 rw[e1,d_,d_,qw G8]
 have G:(t.drop (i1+1)).takeWhile wordSign=aR wordSign t (i1+1):=rfl
 rw[G]
 have j:(t[i1]?=some 46)↔pk t i1=46:=by
  have:=Ml (c:=46) (by decide) t i1
  rw[iX,beq_iff_eq,jv]at this
  exact this
 by_cases h:pk t i1=46∧letter (pk t (i1+1))=true
 ·rw[jI ⟨j.mpr h.1,h.2⟩,jI (by rw[h9,jv];exact h)]
  refine⟨rfl,?_⟩
  rw[gc,cr]
  omega
 ·rw[i9 (fun z=>h ⟨j.mp z.1,z.2⟩),i9 (by rw[h9,jv];exact h)]
  exact⟨rfl,D.symm⟩
theorem za{t:Text}{i:Nat}:∀c∈(j8 t i).1,wordSign c=true∨c=46:=by
 intro c j
 unfold j8 at j
 simp only at j
 split at j
 ·rcases List.mem_append.mp j with j | j
  ·exact .inl (lH c j)
  ·rcases hU.mp j with j | j
   ·exact .inr j
   ·exact .inl (lH c j)
 ·exact .inl (lH c j)
theorem HR{c:Int}(h:wordSign c=true∨c=46):(48≤c∧c≤57)∨(65≤c∧c≤90)∨c=95∨(97≤c∧c≤122)∨c=46:=by
 rcases h with h | h
 ·rcases yr h with⟨_,h⟩ | ⟨_,h⟩ | ⟨_,_,h⟩ | ⟨_,_,h⟩<;>omega
 ·omega
noncomputable abbrev u6:List Str:=["and","or","not","if","then","else","floor","ceil","abs","sign","num","den","min","max"]
theorem HY:u6.map Do=Vbdeaa.WORDS:=by decide +kernel
theorem HW:Vbdeaa.WORDS.map bD=u6:=by decide +kernel
theorem in_words{n:Text}(h:∀c∈n,0≤c):inV (.str (bD n)) (u6.map V.str)=decide (n∈Vbdeaa.WORDS):=by
 rw[iX,jv]
 unfold inV
 rw[List.any_eq_true]
 constructor
 ·rintro⟨v,D,e⟩
  obtain⟨s,j,rfl⟩:=List.mem_map.mp D
  have e:s=bD n:=js e
  rw[←HY]
  refine List.mem_map.mpr ⟨s,j,?_⟩
  rw[e,I_ h]
 ·intro z
  refine⟨.str (bD n),List.mem_map.mpr ⟨bD n,by rw[←HW];exact List.mem_map.mpr ⟨n,z,rfl⟩,rfl⟩,?_⟩
  exact i8 rfl
noncomputable def qI(n:Text):TK:=if n∈Vbdeaa.WORDS then .word n else .name n
noncomputable def tY(K:PySem.W.Frag)(Sc Ce:Addr):Sp:=fun vs H Q E=>∃(sc:Addr)(M:List Addr)(t:Text)(i:Nat)(tks:List TK),vs=[.ref sc]∧Ng K Sc H sc M t i tks∧tks.length≤2000 ∧
 ((j8 t i).1.length≤24→∀H',Ng K Sc H' sc M t (j8 t i).2 (tks++[qI (j8 t i).1])→aA (off M H) (off M H')→Q .non H')∧(24<(j8 t i).1.length→bz Ce (-6) (off M H) E)
section
theorem uf:aK ["self","name"] ["self"] (aD (bM 8)):=⟨rfl,rfl,rfl,by decide +kernel,rfl,by decide +kernel,by decide +kernel⟩
theorem Gy{f fP fL fT Sc Ce fI:Addr}{fd dP dL dT dI:FuncData}(F:fc K "scan_name" "Scanner.scan_name" (bM 8) f fd)(T:jC K Sc)(C:CT K mg)(hW:GC K mg "WORDS" (Ft u6))(X:XC P w K mg base "NoExpression" Ce fI dI (-6))
  (FP:Fm K Sc "peek" "Scanner.peek" (bM 1) fP dP ["self","ahead"]) (O:mg "len"=none) (FL:Fn K mg "is_letter" gP fL dL ["sign"])
  (FT:Fm K Sc "take_name_signs" "Scanner.take_name_signs" (bM 7) fT dT ["self"]) (GT:aF P w K mg base (aW P w) 3 fT dT ["self"] (Jb K Sc)):aF P w K mg base (aW P w) 4 f fd ["self"] (tY K Sc Ce):=by
 have GP:aF P w K mg base (aW P w) 1 fP dP ["self","ahead"] (jQ K Sc):=jj FP.F T O
 have GL:aF P w K mg base (aW P w) 1 fL dL ["sign"] jR:=lL FL
 refine d9 F uf (fun vs H Q E h=>?_) (fun cdv A outer s H vs Q E hr h=>?_)
 ·obtain⟨_,_,_,_,_,rfl,_⟩:=h
  rfl
 ·obtain⟨sc,M,t,i,tks,rfl,⟨dx,ls,lt,tas,D⟩,aa,k,kr⟩:=h
  have S:bG 1 _:=hr.mono (by omega)
  have nn:∀c∈(j8 t i).1,0≤c:=fun c hc=>by have:=HR (za c hc);omega
  have tail:∃tr,zX (eU (aW P w) P w K mg base ["self","name"] "Scanner.scan_name" (aD (bM 8)) f cdv A outer s H E) ((eO (bM 8)).drop 2) tr ∧
    ∀(H2:Hp),mX K Sc H2 sc M t (j8 t i).2 tks dx ls lt tas→aA (off M H) (off M H2)→(j8 t i).1.length≤3000→tr { nx:=fun _ H'=>Q .non H',rt:=Q } [some (.ref sc),some (.str (bD (j8 t i).1))] H2:=by
   refine⟨_,aq (aX (aG qF (b7 gm (by rfl) O (by decide +kernel) (aj (pv 1) au)) (bw rfl C.LN) (aL _)) (ao (bO X.made X.cls X.ok hr rfl X.m X.b rfl bF)) aP)
    (ao (aM (gB PySem.F.plainAttrs_list PySem.F.slot_list_append PySem.F.type_list_append gq (aJ (pv 0) rfl) (aj (bI (aj (uw (aG iM (pv 1) (Gu rfl hW) rfl) bA bA) (aj (pv 1) au))) au)))),?_⟩
   intro H2 D2 sm ax
   have hl:(bD (j8 t i).1).length=(j8 t i).1.length:=by rw[←h_,iZ,ap]
   refine⟨_,rfl,_,rfl,(by rw[hl];exact ip ax (by decide)),_,_,rfl,rfl,_,rfl,?_⟩
   rw[hl]
   by_cases ai:(j8 t i).1.length≤24
   ·rw[j4 (by omega)]
    refine aQ ⟨_,rfl,sc,Sc,dx,_,_,rfl,D2.at_.obj,T.cl,T.nT,rfl,.inl ⟨rfl,_,bV.of D2.tl⟩,_,rfl,fun v hv=>?_⟩
    obtain⟨wa,xs,rfl,ar,aC⟩:=jE.tup hv
    have af:=mF aC
    subst af
    refine⟨wa,_,rfl,.inr (ar _),rfl,rfl,_,rfl,?_⟩
    rw[show(if false=true then !inV (V.str (bD (j8 t i).1)) (u6.map V.str)else inV (V.str (bD (j8 t i).1)) (u6.map V.str))=decide ((j8 t i).1∈Vbdeaa.WORDS)from in_words nn]
    have fin:∀(z:Str),(∀G a,G a=some (.tup [.str z,.str (bD (j8 t i).1)])→cO G (qI (j8 t i).1) a)→∀a,H2 a=none→(∃l xs x,V.ref lt=V.ref l∧([V.ref a]:List V)=[x]∧(L2.upd H2 a (.tup [.str z,.str (bD (j8 t i).1)])) l=some (.lst xs)∧xs.length<sizeLine∧Q .non (L2.upd (L2.upd H2 a (.tup [.str z,.str (bD (j8 t i).1)])) l (.lst (xs++[x])))):=by
     intro z hz a ha
     obtain⟨Z,U⟩:=D2.keep (aA.upd (o:=.tup [.str z,.str (bD (j8 t i).1)]) ha)
     obtain⟨D5,al⟩:=Z.app (hz _ a (lN D2.there ha))
     refine⟨lt,_,_,rfl,rfl,Z.tl,?_,?_⟩
     ·rw[ap,←Paired.length Z.tks]
      exact iN aa (by decide)
     ·exact k ai _ ⟨dx,ls,lt,tas++[a],D5⟩ (by rw[al];exact sm.trans U)
    by_cases hw:(j8 t i).1∈Vbdeaa.WORDS
    ·rw[i8 hw]
     exact bh ⟨_,rfl,(by show 2≤sizeLine;decide),fin "word" fun G a h=>by unfold qI;rw[jI hw];exact h⟩
    ·rw[j4 hw]
     exact aQ ⟨_,rfl,(by show 2≤sizeLine;decide),fin "name" fun G a h=>by unfold qI;rw[i9 hw];exact h⟩
   ·rw[i8 (by omega)]
    exact bh ((kr (by omega)).mono (sm.trans (aU M H2))).go
  obtain⟨tr,Y,tail⟩:=tail
  refine⟨_,aq (bu (i:=1) uf.nd rfl (Or.inl rfl) (bQ (pv 0) T.cl FT.me GT hr FT.b .nil passes))
   (aq (aX (PW.pt (jW (aG cz (bc (pv 0) T.cl FP.me GP S FP.b .nil passes (aj aB au)) (bw rfl C.PT) (aL _)) (gQ (eG (a_ GL S rfl FL.m FL.F.kp FL.b .nil passes (aj (bc (pv 0) T.cl FP.me GP S FP.b .nil passes (aj aB au)) au))))))
    (aq (cH (pv 0) aB gC) (ao (bu (i:=1) uf.nd rfl (Or.inl rfl) (dM uB (dM uB (pv 1) bA) (bQ (pv 0) T.cl FT.me GT hr FT.b .nil passes))))) aP) Y),?_⟩
  have aT:=dH (p:=wordSign) (t:=t) (i:=i)
  have aI:=D.at_.few
  have aE:=D.at_.le
  refine⟨_,rfl,sc,dx,_,rfl,D.at_.obj,rfl,sc,dx,ls,lt,t,i,rfl,D.at_,fun H1 ag A1=>?_⟩
  obtain⟨L,ac⟩:=D.step ag A1
  generalize aw:i+(aR wordSign t i).length=i1 at *
  have J:j8 t i=if(decide (pk t i1=46)&&letter (pk t (i1+1)))=true then(aR wordSign t i++46::aR wordSign t (i1+1),i1+1+(aR wordSign t (i1+1)).length)else(aR wordSign t i,i1):=by
   unfold j8
   simp only[aw]
  have a0:=dH (p:=wordSign) (t:=t) (i:=i1+1)
  have no:(decide (pk t i1=46)&&letter (pk t (i1+1)))=false→tr { nx:=fun _ H'=>Q .non H',rt:=Q } [some (.ref sc),some (.str (bD (aR wordSign t i)))] H1:=fun e=>by
   rw[e]at J
   simp only[Bool.false_eq_true,if_false]at J
   have:=tail H1 (by rw[J];exact L) ac (by rw[J];show(aR wordSign t i).length≤3000;omega)
   rw[J]at this
   exact this
  refine⟨_,rfl,sc,dx,_,rfl,L.at_.obj,rfl,sc,dx,ls,lt,t,i1,0,rfl,L.at_,rfl,_,rfl,?_⟩
  have e1:decide (V.int (pk t (i1+0))=V.int 46)=decide (pk t i1=46):=by rw[decide_eq_decide];exact⟨fun z=>V.int.inj z,fun z=>by rw[Nat.add_zero,z]⟩
  rw[e1]
  cases h1:decide (pk t i1=46)with
  | false=>exact aQ (aQ (no (by rw[h1];rfl)))
  | true =>
   refine bh ⟨_,rfl,sc,dx,_,rfl,L.at_.obj,rfl,sc,dx,ls,lt,t,i1,1,rfl,L.at_,_,rfl,_,rfl,?_⟩
   cases h2:letter (pk t (i1+1))with
   | false=>exact aQ (no (by rw[h1,h2];rfl))
   | true =>
    rw[h1,h2,jI (show(true&&true)=true from rfl)]at J
    have ay:wordSign (pk t (i1+1))=true:=by unfold Vbdeaa.wordSign;rw[h2];rfl
    have aS:=(eF Dh ay).2
    have ae:bC sc H1 (L2.upd H1 sc (.ins Sc dx (Gi ls (i1+1) lt))):=bC.wy fun _ _ q _=>q
    have A3:=L.at_.upd ae (j:=i1+1) ak (by omega)
    refine bh ⟨_,rfl,sc,Sc,dx,_,_,rfl,L.at_.obj,T.cl,T.nA,rfl,_,_,rfl,rfl,dx,_,L.at_.obj,(by show 3<1000;decide),?_⟩
    have lw:∀u:Text,(bD u).length=u.length:=fun u=>by rw[←h_,iZ,ap]
    have hsz:(4000:Nat)≤sizeLine:=by decide
    refine⟨_,rfl,_,_,rfl,rfl,(by show(bD (aR wordSign t i)).length+1≤sizeLine;rw[lw];omega),_,rfl,sc,dx,_,rfl,ak,rfl,sc,dx,ls,lt,t,i1+1,rfl,A3,fun H4 ah A4=>?_⟩
    obtain⟨Z,U⟩:=L.step (ae.trans ah) A4
    have av:bD (aR wordSign t i) ++ "."++bD (aR wordSign t (i1+1))=bD (aR wordSign t i++46::aR wordSign t (i1+1)):=Ik (by
     rw[TL.iG,TL.iG,iZ,iZ,iZ,ka,i4,ij]
     rfl)
    refine⟨_,_,rfl,rfl,?_,?_⟩
    ·show(bD (aR wordSign t i) ++ ".").length+(bD (aR wordSign t (i1+1))).length≤sizeLine
     rw[←h_,TL.iG,gc,h_,h_,lw,lw]
     have:(("." : Str)).length=1:=rfl
     omega
    ·have:=tail H4 (by rw[J];exact Z) (ac.trans U) (by rw[J];simp only[gc,cr];omega)
     rw[J,←av]at this
     exact this
end
end SB
end
section
namespace SB
open PySem PySem.Spec PyProof.Rows L2 XL
open Vbdeaa (Text Exp Exps Un Bin Ins digit letter wordSign blank)
variable {P:Program} {w:World} {K:PySem.W.Frag} {mg:Str→Option Value} {base:Heap}
noncomputable def yo:List Text:=[[47,47],[60,61],[60,62],[62,61]]
noncomputable def zY:List Text:=[[43],[45],[42],[47],[37],[94],[61],[60],[62],[40],[41],[44]]
noncomputable def z7:List Text:=[[40],[41],[44]]
theorem Jr:Vbdeaa.SIGNS=yo++zY:=by decide +kernel
theorem vZ{α:Type}{l:List α}{p q:α→Bool}(h:∀u∈l,p u=q u):l.find? p=l.find? q:=by
 induction l with
 | nil=>rfl
 | cons a r j =>
  rw[List.find?_cons,List.find?_cons,h a b',j fun u z=>h u (am _ z)]
theorem xP{v:Text}:∀{l:List Text},l.find? (fun u=>v==u)=if v∈l then some v else none
 | []=>rfl
 | a::r=>by
  rw[List.find?_cons,xP (l:=r)]
  by_cases h:v=a
  ·subst h;simp
  ·rw[show(v==a)=false from beq_eq_false_iff_ne.mpr h]
   simp[h]
noncomputable def Vn(s:Text):Option Text:=if s.take 2∈yo then some (s.take 2)else if s.take 1∈zY then some (s.take 1)else none
theorem Ca(s:Text):(Vbdeaa.SIGNS.find? fun u=>s.take u.length==u)=Vn s:=by
 rw[Jr,List.find?_append]
 have h2:∀u∈yo,u.length=2:=by decide
 have h1:∀u∈zY,u.length=1:=by decide
 rw[vZ (l:=yo) (q:=fun u=>s.take 2==u) (fun u j=>by rw[h2 u j]),vZ (l:=zY) (q:=fun u=>s.take 1==u) (fun u j=>by rw[h1 u j]),xP,xP]
 unfold Vn
 by_cases h:s.take 2∈yo
 ·rw[jI h,jI h];rfl
 ·rw[i9 h,i9 h];rfl
noncomputable def Ay(s:Text):Option Text:=if s.take 1∈z7 then some (s.take 1)else if s.take 2∈dY then some (s.take 2)else if s.take 1∈dY then some (s.take 1)else none
theorem NK(s:Text):Ay s=Vn s:=by
 have f1:∀u∈dY,u∈yo∨(u.length=1∧u∈zY):=by decide
 have f2:∀u∈zY,u∈z7∨u∈dY:=by decide
 have G:∀u∈yo,u∈dY∧u.take 1∉z7:=by decide
 have F:∀u∈z7,u∈zY:=by decide
 have tk:(s.take 2).take 1=s.take 1:=by rw[List.take_take];rfl
 have one:(s.take 2).length=1→s.take 2=s.take 1:=fun h=>by
  rw[←tk]
  exact(List.take_of_length_le (by omega)).symm
 have len1:∀u∈yo,u.length=2:=by decide
 unfold Ay Vn
 by_cases h2:s.take 2∈yo
 ·obtain⟨a,b⟩:=G _ h2
  rw[tk]at b
  rw[jI h2,i9 b,jI a]
 ·rw[i9 h2]
  by_cases h1:s.take 1∈zY
  ·rw[jI h1]
   by_cases D:s.take 1∈z7
   ·rw[jI D]
   ·rw[i9 D]
    by_cases j:s.take 2∈dY
    ·rw[jI j]
     rcases f1 _ j with z | z
     ·exact absurd z h2
     ·rw[one z.1]
    ·rw[i9 j]
     rcases f2 _ h1 with z | z
     ·exact absurd z D
     ·rw[jI z]
  ·rw[i9 h1,i9 (fun z=>h1 (F _ z))]
   by_cases j:s.take 2∈dY
   ·rcases f1 _ j with z | z
    ·exact absurd z h2
    ·rw[one z.1]at z
     exact absurd z.2 h1
   ·rw[i9 j,i9 fun z=>?_]
    rcases f1 _ z with y | y
    ·have:=len1 _ y
     rw[ii]at this
     omega
    ·exact h1 y.2
noncomputable def lR:List (Key×V):=[(Sum.inl 40,.str "("),(Sum.inl 41,.str ")"),(Sum.inl 44,.str ",")]
structure GT (K:PySem.W.Frag) (mg:Str→Option Value) (x:Str) (l:List TV) (a:Addr) (xs:List V):Prop where
 m:mg x=some (.ref a)
 sq:∀H:Hp,cR K H a xs
 pr:Paired (jE K) l xs
 cl:∃o,K.lookup a=some o∧o.cls=.type "tuple"∧o.dict=none
theorem wB{K:PySem.W.Frag}{H:Hp}:∀{l:List (List Int)}{xs:List V},Paired (jE K) (l.map tvs) xs→qx K H l xs
 | [],_,.nil=>.nil
 | r::l,_,.cons h t=>by
  obtain⟨a,ys,rfl,j,z⟩:=jE.tup h
  have:=iT z
  subst this
  exact .cons ⟨a,rfl,j H⟩ (wB t)
noncomputable def wI(K:PySem.W.Frag)(Sc Ce:Addr):Sp:=fun vs H Q E=>∃(sc:Addr)(M:List Addr)(t:Text)(i:Nat)(tks:List TK),vs=[.ref sc]∧Ng K Sc H sc M t i tks∧i<t.length∧tks.length≤2000 ∧
 (∀u,Ay (t.drop i)=some u→∀H',Ng K Sc H' sc M t (i+u.length) (tks++[.sign u])→aA (off M H) (off M H')→Q .non H')∧(Ay (t.drop i)=none→bz Ce (-6) (off M H) E)
theorem Lk(c:Int):(pN lR (Sum.inl c)).isSome=decide ([c]∈z7):=by
 by_cases h1:c=40
 ·subst h1;rfl
 ·by_cases h2:c=41
  ·subst h2;rfl
  ·by_cases j:c=44
   ·subst j;rfl
   ·rw[j4 (by simp[z7,h1,h2,j])]
    unfold pN lR
    have e:∀n:Int,c≠n→decide ((Sum.inl n:Key)=Sum.inl c)=false:=fun n h=>j4 fun z=>h (Sum.inl.inj z).symm
    simp[List.find?_cons,e 40 h1,e 41 h2,e 44 j,h1,h2,j,eq_comm]
theorem Ln{c:Int}(h:[c]∈z7):pN lR (Sum.inl c)=some (.str (bD [c]))∧rB [c]=(("mark" : Str),V.str (bD [c])):=by
 have:c=40∨c=41∨c=44:=by simpa[z7]using h
 rcases this with rfl | rfl | rfl<;>exact⟨by decide +kernel,by decide +kernel⟩
theorem Dk{u:Text}(h:u∈dY):rB u=(("two" : Str),V.int (dY.idxOf u:Nat)):=by
 have f:∀u∈dY,¬(u=[40]∨u=[41]∨u=[44]):=by decide
 unfold rB
 rw[i9 (f u h)]
section
theorem wN:aK ["self","length","signs"] ["self"] (aD (bM 9)):=⟨rfl,rfl,rfl,by decide +kernel,rfl,by decide +kernel,by decide +kernel⟩
theorem K8{f fP Sc Ce fI dm ta:Addr}{Z:List V}{fd dP dI:FuncData}(F:fc K "scan_sign" "Scanner.scan_sign" (bM 9) f fd)(T:jC K Sc)(X:XC P w K mg base "NoExpression" Ce fI dI (-6))
  (FP:Fm K Sc "peek" "Scanner.peek" (bM 1) fP dP ["self","ahead"]) (S:mg "len"=none) (aw:mg "tuple"=none) (hm:mg "MARKS"=some (.ref dm)) (KD:KDict K w dm lR) (G2:GT K mg "TWO_SIGNS" (dY.map tvs) ta Z):aF P w K mg base (aW P w) 4 f fd ["self"] (wI K Sc Ce):=by
 have GP:aF P w K mg base (aW P w) 1 fP dP ["self","ahead"] (jQ K Sc):=jj FP.F T S
 refine d9 F wN (fun vs H Q E h=>?_) (fun cdv A outer s H vs Q E hr h=>?_)
 ·obtain⟨_,_,_,_,_,rfl,_⟩:=h
  rfl
 ·obtain⟨sc,M,t,i,tks,rfl,⟨dx,ls,lt,tas,D⟩,al,af,k,kr⟩:=h
  have ac:bG 1 _:=hr.mono (by omega)
  have hu:=vU hr
  refine⟨_,aq (aX (Bg (KJ rfl hm KD (bc (pv 0) T.cl FP.me GP ac FP.b .nil passes (aj aB au))))
    (aq (aM (gB PySem.F.plainAttrs_list PySem.F.slot_list_append PySem.F.type_list_append gq (aJ (pv 0) rfl) (aj (bI (aj bA (aj (KC rfl hm KD (bc (pv 0) T.cl FP.me GP ac FP.b .nil passes (aj aB au)) (fun _ _=>rfl)) au))) au)))
    (aq (cH (pv 0) aB gC) (ao DP))) aP)
   (aq (uq rC rfl (Ko (bI (aj aB (aj aB au)))) (cW (i:=1) wN.nd rfl (Or.inl rfl))
    (aq (bu (i:=2) wN.nd rfl (Or.inl rfl) (iI vo (by rfl) aw (by decide +kernel) (aj (jZ rW (aJ (pv 0) rfl) (gR (aJ (pv 0) rfl)) (gR (dM pZ (aJ (pv 0) rfl) (pv 1)))) au)))
    (ao (aX (aG (Bq hu) (pv 2) (b_ (v:=.ref ta) rfl G2.m rfl) rfl)
     (aq (aM (gB PySem.F.plainAttrs_list PySem.F.slot_list_append PySem.F.type_list_append gq (aJ (pv 0) rfl) (aj (bI (aj bA (aj (gB PySem.F.plainAttrs_tuple PySem.F.slot_tuple_index PySem.F.type_tuple_index (Bt hu) (b_ (v:=.ref ta) rfl G2.m rfl) (aj (pv 2) au)) au))) au)))
     (aq (cH (pv 0) (b7 bJ (by rfl) S (by decide +kernel) (aj (pv 2) au)) gC) (ao DP))) aP))))
   (ao (bO X.made X.cls X.ok hr rfl X.m X.b rfl bF))),?_⟩
  have a7:=D.at_.few
  have e1:(t.drop i).take 1=[pk t i]:=by
   unfold pk
   rw[ic al,List.drop_eq_getElem_cons al]
   rfl
  have ax:tas.length<sizeLine:=by
   rw[←Paired.length D.tks]
   exact iN af (by decide)
  have fin:∀(u:Text)(H1:Hp)(a:Addr),Ay (t.drop i)=some u→u.length≤t.length-i→aA H H1→H1 a=none→mX K Sc (L2.upd H1 a (.tup [.str (rB u).1,(rB u).2])) sc M t i tks dx ls lt tas ∧
    (L2.upd (L2.upd H1 a (.tup [.str (rB u).1,(rB u).2])) lt (.lst (tas.map V.ref++[V.ref a]))) sc=some (.ins Sc dx (Gi ls i lt))∧Q .non (L2.upd (L2.upd (L2.upd H1 a (.tup [.str (rB u).1,(rB u).2])) lt (.lst (tas.map V.ref++[V.ref a]))) sc (.ins Sc dx (Gi ls (i+u.length) lt))):=by
   intro u H1 a a3 ae s1 Y
   obtain⟨D1,ah⟩:=D.keep s1
   obtain⟨U,av⟩:=D1.keep (aA.upd (o:=.tup [.str (rB u).1,(rB u).2]) Y)
   have ay:cO (off M (L2.upd H1 a (.tup [.str (rB u).1,(rB u).2]))) (.sign u) a:=lN D1.there Y
   obtain⟨D3,aS⟩:=U.app ay
   have sx:bC sc (L2.upd (L2.upd H1 a (.tup [.str (rB u).1,(rB u).2])) lt (.lst (tas.map V.ref++[V.ref a]))) (L2.upd (L2.upd (L2.upd H1 a (.tup [.str (rB u).1,(rB u).2])) lt (.lst (tas.map V.ref++[V.ref a]))) sc (.ins Sc dx (Gi ls (i+u.length) lt))):=bC.wy fun _ _ q _=>q
   obtain⟨D4,ai⟩:=D3.step sx (D3.at_.upd sx ak (by omega))
   refine⟨U,D3.at_.obj,k u a3 _ ⟨dx,ls,lt,tas++[a],D4⟩ ?_⟩
   rw[aS]at ai
   exact(ah.trans av).trans ai
  refine⟨_,rfl,sc,dx,_,rfl,D.at_.obj,rfl,sc,dx,ls,lt,t,i,0,rfl,D.at_,Sum.inl (pk t (i+0)),rfl,_,rfl,?_⟩
  rw[Nat.add_zero,Lk]
  by_cases J:[pk t i]∈z7
  ·obtain⟨g1,g2⟩:=Ln J
   have hs:Ay (t.drop i)=some [pk t i]:=by unfold Ay;rw[e1,jI J]
   rw[i8 J]
   refine bh ⟨_,rfl,sc,Sc,dx,_,_,rfl,D.at_.obj,T.cl,T.nT,rfl,.inl ⟨rfl,_,bV.of D.tl⟩,_,rfl,sc,dx,_,rfl,D.at_.obj,rfl,sc,dx,ls,lt,t,i,0,rfl,D.at_,Sum.inl (pk t i),_,rfl,g1,(by show 2≤sizeLine;decide),fun a Y=>?_⟩
   have f3:=fin [pk t i] H a hs (by show 1≤_;omega) (aA.refl H) Y
   rw[g2]at f3
   obtain⟨U,L,hq⟩:=f3
   refine⟨lt,_,_,rfl,rfl,U.tl,(by rw[ap];exact ax),?_⟩
   exact⟨_,rfl,sc,Sc,dx,_,_,rfl,L,T.cl,T.nA,rfl,_,_,rfl,rfl,dx,_,L,(by show 3<1000;decide),hq⟩
  ·rw[j4 J]
   refine aQ ⟨(by show 2≤sizeLine;decide),fun p0 aC=>⟨p0,rfl,⟨_,cR.of ak⟩,?_⟩⟩
   have s0:aA H (L2.upd H p0 (.tup [.int 2,.int 1])):=aA.upd aC
   refine El (K:=K) (a:=p0) (xs:=[.int 2,.int 1]) (fun j σ H'=>∃v1 v2:Option V,σ=[some (.ref sc),v1,v2]∧aA (L2.upd H p0 (.tup [.int 2,.int 1])) H'∧(1≤j→(t.drop i).take 2∉dY)∧(2≤j→(t.drop i).take 1∉dY)) ⟨none,none,rfl,aA.refl _,fun z=>absurd z (by decide),fun z=>absurd z (by decide)⟩ (fun j σ H' _ ⟨_,_,_,s1,_⟩=>cR.of (s1 _ _ ak)) ?_ ?_
   ·rintro j x σ H' hj ⟨v1,v2,rfl,s1,n2,n1⟩
    obtain⟨m,aa,a6,rfl⟩:∃m:Nat,(j=0∧m=2∨j=1∧m=1)∧True∧x=.int m:=by
     match j,hj with
     | 0,hj=>cases hj;exact⟨2,.inl ⟨rfl,rfl⟩,trivial,rfl⟩
     | 1,hj=>cases hj;exact⟨1,.inr ⟨rfl,rfl⟩,trivial,rfl⟩
    obtain⟨D1,ah⟩:=D.keep (s0.trans s1)
    refine⟨_,rfl,sc,Sc,dx,_,_,rfl,D1.at_.obj,T.cl,T.nS,rfl,_,rfl,sc,Sc,dx,_,_,rfl,D1.at_.obj,T.cl,T.nA,rfl,_,rfl,_,rfl,sc,Sc,dx,_,_,rfl,D1.at_.obj,T.cl,T.nA,rfl,_,rfl,_,_,rfl,rfl,_,rfl,ls,_,rfl,D1.at_.sig,fun p1 a5=>?_⟩
    rw[show((i:Nat):Int)+(m:Nat)=((i+m:Nat):Int) by omega,Ew,Dj,Di]
    have s2:aA H' (L2.upd H' p1 (.lst (vI ((t.drop i).take m)))):=aA.upd a5
    refine⟨p1,_,rfl,.inl ⟨bV.of ak,fun q hq=>?_⟩⟩
    have s3:=s2.trans (aA.upd (o:=.tup (vI ((t.drop i).take m))) hq)
    have ag:=(s0.trans s1).trans s3
    obtain⟨U,av⟩:=D.keep ag
    have ar:cR K (L2.upd (L2.upd H' p1 (.lst (vI ((t.drop i).take m)))) q (.tup (vI ((t.drop i).take m)))) q (((t.drop i).take m).map V.int):=cR.of ak
    generalize aI:L2.upd (L2.upd H' p1 (.lst (vI ((t.drop i).take m)))) q (.tup (vI ((t.drop i).take m)))=H3 at *
    refine⟨_,rfl,q,ta,(t.drop i).take m,dY,Z,rfl,rfl,ar,G2.sq _,wB G2.pr,_,rfl,?_⟩
    by_cases G:(t.drop i).take m∈dY
    ·have hs:Ay (t.drop i)=some ((t.drop i).take m):=by
      unfold Ay
      rw[e1,i9 J]
      rcases aa with⟨_,rfl⟩ | ⟨rfl,rfl⟩
      ·rw[jI G]
      ·rw[i9 (n2 (by decide)),←e1,jI G]
     rw[i8 G]
     refine bh ⟨_,rfl,sc,Sc,dx,_,_,rfl,U.at_.obj,T.cl,T.nT,rfl,.inl ⟨rfl,_,bV.of U.tl⟩,.inr (.inl ⟨rfl,G2.cl⟩),_,rfl,ta,q,(t.drop i).take m,dY,Z,rfl,rfl,ar,G2.sq _,wB G2.pr,G,(by show 2≤sizeLine;decide),fun a Y=>?_⟩
     have ae:((t.drop i).take m).length≤t.length-i:=by rw[ii,ke];omega
     have f3:=fin _ H3 a hs ae ag Y
     rw[Dk G]at f3
     obtain⟨D4,L,aT⟩:=f3
     refine⟨lt,_,_,rfl,rfl,D4.tl,(by rw[ap];exact ax),?_⟩
     have a4:cR K (L2.upd (L2.upd H3 a (.tup [.str "two",.int (dY.idxOf ((t.drop i).take m):Nat)])) lt (.lst (tas.map V.ref++[V.ref a]))) q (((t.drop i).take m).map V.int):=by
      have O:H3 q=some (.tup (vI ((t.drop i).take m))):=by rw[←aI];exact ak
      have a0:q≠a:=fun z=>by rw[z,Y]at O;cases O
      have aE:q≠lt:=fun z=>by have:=U.tl;rw[←z,O]at this;cases this
      exact cR.of (by rw[az aE,az a0];exact O)
     refine⟨_,rfl,sc,Sc,dx,_,_,rfl,L,T.cl,T.nA,rfl,_,rfl,q,_,rfl,.inr a4,_,_,rfl,rfl,dx,_,L,(by show 3<1000;decide),?_⟩
     rw[ap]
     exact aT
    ·rw[j4 G]
     refine aQ ⟨_,_,rfl,s1.trans s3,fun _=>?_,fun z=>?_⟩
     ·rcases aa with⟨_,rfl⟩ | ⟨rfl,rfl⟩
      ·exact G
      ·exact n2 (by decide)
     ·rcases aa with⟨rfl,rfl⟩ | ⟨rfl,rfl⟩
      ·omega
      ·exact G
   ·rintro σ H' ⟨v1,v2,rfl,s1,n2,n1⟩
    have hs:Ay (t.drop i)=none:=by
     unfold Ay
     rw[i9 (by rw[e1];exact J),i9 (n2 (by decide)),i9 (n1 (by decide))]
    have bad:=(kr hs).mono ((aU M H).trans (s0.trans s1))
    exact fun e d H2 s' x1 x2=>bad e d H2 s' x1 x2
end
theorem vy{c:Int}(h:letter c=true):wordSign c=true:=by unfold Vbdeaa.wordSign;rw[h];rfl
noncomputable def mL(t:Text)(i:Nat):Option (List TK×Nat) :=
 if blank (pk t i)=true then some ([],i+1)
 else if digit (pk t i)=true then(if(decide ((bN t i).2.1=0)||eQ (pk t (bN t i).2.2))=false∧Vbdeaa.small (Vbdeaa.frac ((bN t i).1:Nat) (bN t i).2.1)=true then some ([.num (Vbdeaa.frac ((bN t i).1:Nat) (bN t i).2.1)],(bN t i).2.2)else none)
 else if letter (pk t i)=true then(if(j8 t i).1.length≤24 then some ([qI (j8 t i).1],(j8 t i).2)else none)
 else match Ay (t.drop i)with
  | some u=>some ([.sign u],i+u.length)
  | none=>none
theorem lO{t:Text}{i:Nat}:qH t i↔((decide ((bN t i).2.1=0)||eQ (pk t (bN t i).2.2))=false∧Vbdeaa.small (Vbdeaa.frac ((bN t i).1:Nat) (bN t i).2.1)=true):=by
 unfold qH
 rw[Bool.or_eq_false_iff,decide_eq_false_iff_not,not_or,Bool.not_eq_true]
theorem yz{t:Text}{i:Nat}(h:i<t.length):(blank (pk t i)=true→mL t i=some ([],i+1))∧(blank (pk t i)=false→match mL t i with
  | none=>(Vbdeaa.token (t.drop i)).1=.bad
  | some (l,j)=>∃x,l=[x]∧x≠.bad∧x≠.eof∧Vbdeaa.token (t.drop i)=(x,t.drop j)∧i<j∧j≤t.length):=by
 have hc:t.drop i=pk t i::t.drop (i+1):=by
  unfold pk
  rw[ic h,List.drop_eq_getElem_cons h]
  rfl
 refine⟨fun Z=>by unfold mL;rw[jI Z],fun Z=>?_⟩
 have et:Vbdeaa.token (t.drop i)=if digit (pk t i)=true then Vbdeaa.numberToken (t.drop i)
  else if letter (pk t i)=true then
   (if Vbdeaa.LONGNAME<(Vbdeaa.nameOf (t.drop i)).length then .bad else if Vbdeaa.nameOf (t.drop i)∈Vbdeaa.WORDS then .word (Vbdeaa.nameOf (t.drop i))else .name (Vbdeaa.nameOf (t.drop i)),(t.drop i).drop (Vbdeaa.nameOf (t.drop i)).length)
  else match Vbdeaa.SIGNS.find? fun s=>(t.drop i).take s.length==s with
   | some s=>(.sign s,(t.drop i).drop s.length)
   | none=>(.bad,[]):=by
  rw[hc]
  rfl
 rw[et]
 unfold mL
 rw[i9 (by rw[Z];exact io)]
 cases hd:digit (pk t i)with
 | true =>
  rw[jI rfl,jI rfl,O_]
  have J:i<(bN t i).2.2∧(bN t i).2.2≤t.length:=by
   have h1:=(eF iR hd).1
   have U:=dH (p:=digit) (t:=t) (i:=i)
   have S:1≤(aR digit t i).length:=by rw[h1,cr];omega
   have Y:=dH (p:=digit) (t:=t) (i:=i+(aR digit t i).length+1)
   unfold bN
   simp only
   split
   ·rename_i q
    rw[h9]at q
    have:=(eF iR q.2).2
    simp only
    omega
   ·split
    ·rename_i q
     rw[h9]at q
     have:=(eF iR q.2).2
     simp only
     omega
    ·simp only
     omega
  by_cases hok:qH t i
  ·rw[jI (lO.mp hok),i9 hok.1,jI hok.2]
   exact⟨_,rfl,by simp,by simp,rfl,J.1,J.2⟩
  ·rw[i9 (fun z=>hok (lO.mpr z))]
   simp only
   by_cases F:(bN t i).2.1=0∨eQ (pk t (bN t i).2.2)=true
   ·rw[jI F]
   ·rw[i9 F,i9 fun z=>hok ⟨F,z⟩]
 | false =>
  rw[i9 io,i9 io]
  cases U:letter (pk t i)with
  | true =>
   rw[jI rfl,jI rfl]
   obtain⟨n1,n2⟩:=Ux t i
   rw[n1,List.drop_drop,←n2]
   have G:Vbdeaa.LONGNAME=24:=rfl
   rw[G]
   have aa:wordSign (pk t i)=true:=vy U
   have h1:=(eF Dh aa).1
   have J:i<(j8 t i).2∧(j8 t i).2≤t.length:=by
    have U:=dH (p:=wordSign) (t:=t) (i:=i)
    have S:1≤(aR wordSign t i).length:=by rw[h1,cr];omega
    have Y:=dH (p:=wordSign) (t:=t) (i:=i+(aR wordSign t i).length+1)
    unfold j8
    simp only
    split
    ·rename_i q
     rw[h9]at q
     have L:wordSign (pk t (i+(aR wordSign t i).length+1))=true:=vy q.2
     have:=(eF Dh L).2
     simp only
     omega
    ·simp only
     omega
   by_cases O:(j8 t i).1.length≤24
   ·rw[jI O,i9 (by omega)]
    refine⟨_,rfl,?_,?_,?_,J.1,J.2⟩
    ·unfold qI;split<;>simp
    ·unfold qI;split<;>simp
    ·rfl
   ·rw[i9 O,jI (by omega)]
  | false =>
   rw[i9 io,i9 io,Ca,←NK]
   cases D:Ay (t.drop i)with
   | none=>rfl
   | some u =>
    simp only
    refine⟨_,rfl,by simp,by simp,by rw[List.drop_drop],?_⟩
    have hu:u=(t.drop i).take 1∨(u=(t.drop i).take 2):=by
     unfold Ay at D
     split at D
     ·cases D;exact .inl rfl
     ·split at D
      ·cases D;exact .inr rfl
      ·split at D
       ·cases D;exact .inl rfl
       ·cases D
    have:1≤u.length∧u.length≤t.length-i:=by
     rcases hu with rfl | rfl<;>rw[ii,ke]<;>omega
    omega
noncomputable def wH(K:PySem.W.Frag)(Sc Ce:Addr):Sp:=fun vs H Q E=>∃(sc:Addr)(M:List Addr)(t:Text)(i:Nat)(tks:List TK),vs=[.ref sc]∧Ng K Sc H sc M t i tks∧i<t.length∧tks.length≤2000 ∧
 (∀l j,mL t i=some (l,j)→∀H',Ng K Sc H' sc M t j (tks++l)→aA (off M H) (off M H')→Q .non H')∧(mL t i=none→bz Ce (-6) (off M H) E)
section
theorem Dt:aK ["self","sign"] ["self"] (aD (bM 2)):=⟨rfl,rfl,rfl,by decide +kernel,rfl,by decide +kernel,by decide +kernel⟩
theorem K7{f fP fD fL f1 f2 f3 Sc Ce:Addr}{fd dP dD dL d1 d2 d3:FuncData}(F:fc K "scan_token" "Scanner.scan_token" (bM 2) f fd)(T:jC K Sc)(C:CT K mg)
  (FP:Fm K Sc "peek" "Scanner.peek" (bM 1) fP dP ["self","ahead"]) (U:mg "len"=none) (FD:Fn K mg "is_digit" jg fD dD ["sign"]) (Z:Fn K mg "is_letter" gP fL dL ["sign"])
  (F1:Fm K Sc "scan_number" "Scanner.scan_number" (bM 6) f1 d1 ["self"]) (G1:aF P w K mg base (aW P w) 4 f1 d1 ["self"] (wJ K Sc Ce))
  (F2:Fm K Sc "scan_name" "Scanner.scan_name" (bM 8) f2 d2 ["self"]) (G2:aF P w K mg base (aW P w) 4 f2 d2 ["self"] (tY K Sc Ce))
  (F3:Fm K Sc "scan_sign" "Scanner.scan_sign" (bM 9) f3 d3 ["self"]) (G3:aF P w K mg base (aW P w) 4 f3 d3 ["self"] (wI K Sc Ce)):aF P w K mg base (aW P w) 5 f fd ["self"] (wH K Sc Ce):=by
 have GP:aF P w K mg base (aW P w) 1 fP dP ["self","ahead"] (jQ K Sc):=jj FP.F T U
 have GD:aF P w K mg base (aW P w) 1 fD dD ["sign"] lG:=j0 FD
 have GL:aF P w K mg base (aW P w) 1 fL dL ["sign"] jR:=lL Z
 refine d9 F Dt (fun vs H Q E h=>?_) (fun cdv A outer s H vs Q E hr h=>?_)
 ·obtain⟨_,_,_,_,_,rfl,_⟩:=h
  rfl
 ·obtain⟨sc,M,t,i,tks,rfl,G,L,j,k,kr⟩:=h
  obtain⟨dx,ls,lt,tas,D⟩:=id G
  have J:bG 1 _:=hr.mono (by omega)
  refine⟨_,aq (bu (i:=1) Dt.nd rfl (Or.inl rfl) (bc (pv 0) T.cl FP.me GP J FP.b .nil passes (aj aB au)))
   (ao (aX (aG iM (pv 1) (Gu rfl C.BL) rfl) (ao (cH (pv 0) aB gC))
    (ao (aX (eG (a_ GD J rfl FD.m FD.F.kp FD.b .nil passes (aj (pv 1) au))) (ao (aM (bQ (pv 0) T.cl F1.me G1 hr F1.b .nil passes)))
     (ao (aX (eG (a_ GL J rfl Z.m Z.F.kp Z.b .nil passes (aj (pv 1) au))) (ao (aM (bQ (pv 0) T.cl F2.me G2 hr F2.b .nil passes)))
      (ao (aM (bQ (pv 0) T.cl F3.me G3 hr F3.b .nil passes))))))))),?_⟩
  refine⟨_,rfl,sc,dx,_,rfl,D.at_.obj,rfl,sc,dx,ls,lt,t,i,0,rfl,D.at_,?_⟩
  rw[Nat.add_zero]
  refine⟨_,rfl,fun v hv=>?_⟩
  obtain⟨wa,xs,rfl,ae,af⟩:=jE.tup hv
  have aa:=iT af
  subst aa
  refine⟨wa,_,rfl,.inr (ae _),rfl,rfl,_,rfl,?_⟩
  have eb:inV (.int (pk t i)) ([32,9,10,13].map V.int)=blank (pk t i):=by
   show(((32:Int)==_)||(((9:Int)==_)||(((10:Int)==_)||(((13:Int)==_)||false))))=_
   unfold Vbdeaa.blank
   rw[Bool.or_false,show((32:Int)==pk t i)=(pk t i==32)from BEq.comm,show((9:Int)==pk t i)=(pk t i==9)from BEq.comm,show((10:Int)==pk t i)=(pk t i==10)from BEq.comm,show((13:Int)==pk t i)=(pk t i==13)from BEq.comm]
  rw[show(if false=true then !inV (.int (pk t i)) ([32,9,10,13].map V.int)else inV (.int (pk t i)) ([32,9,10,13].map V.int))=blank (pk t i)from eb]
  cases hb:blank (pk t i)with
  | true =>
   have e:=(yz L).1 hb
   refine bh ⟨_,rfl,sc,Sc,dx,_,_,rfl,D.at_.obj,T.cl,T.nA,rfl,_,_,rfl,rfl,dx,_,D.at_.obj,(by show 3<1000;decide),?_⟩
   have sx:bC sc H (L2.upd H sc (.ins Sc dx (Gi ls (i+1) lt))):=bC.wy fun _ _ q _=>q
   obtain⟨D4,ac⟩:=D.step sx (D.at_.upd sx ak L)
   exact k [] (i+1) e _ ⟨dx,ls,lt,tas,by rw[i6];exact D4⟩ ac
  | false =>
   have O:¬blank (pk t i)=true:=by rw[hb];exact io
   refine aQ ⟨_,rfl,_,rfl,_,rfl,?_⟩
   cases hd:digit (pk t i)with
   | true =>
    refine bh ⟨_,rfl,sc,dx,_,rfl,D.at_.obj,rfl,sc,M,t,i,tks,rfl,G,j,fun hok H' S Y=>?_,fun hok=>kr ?_⟩
    ·exact k _ _ (by unfold mL;rw[i9 O,jI hd,jI (lO.mp hok)]) H' S Y
    ·unfold mL;rw[i9 O,jI hd,i9 fun z=>hok (lO.mpr z)]
   | false =>
    have nd:¬digit (pk t i)=true:=by rw[hd];exact io
    refine aQ ⟨_,rfl,_,rfl,_,rfl,?_⟩
    cases hl:letter (pk t i)with
    | true =>
     refine bh ⟨_,rfl,sc,dx,_,rfl,D.at_.obj,rfl,sc,M,t,i,tks,rfl,G,j,fun hok H' S Y=>?_,fun hok=>kr ?_⟩
     ·exact k _ _ (by unfold mL;rw[i9 O,i9 nd,jI hl,jI hok]) H' S Y
     ·unfold mL;rw[i9 O,i9 nd,jI hl,i9 (by omega)]
    | false =>
     have nl:¬letter (pk t i)=true:=by rw[hl];exact io
     refine aQ ⟨_,rfl,sc,dx,_,rfl,D.at_.obj,rfl,sc,M,t,i,tks,rfl,G,L,j,fun u hu H' S Y=>?_,fun hu=>kr ?_⟩
     ·exact k _ _ (by unfold mL;rw[i9 O,i9 nd,i9 nl,hu]) H' S Y
     ·unfold mL;rw[i9 O,i9 nd,i9 nl,hu]
end
noncomputable def eV:TK→Prop
 | .name n=>HB n
 | .word n=>n∈Vbdeaa.WORDS
 | .sign s=>s∈z7∨s∈dY
 | .bad=>False
 | _=>True
theorem Q5{t:Text}{i j:Nat}{l:List TK}(h:mL t i=some (l,j)):∀x∈l,eV x∧x≠.eof:=by
 unfold mL at h
 split at h
 ·cases h
  intro x hx
  cases hx
 ·split at h
  ·split at h
   ·cases h
    intro x hx
    rw[List.mem_singleton.mp hx]
    exact⟨trivial,by simp⟩
   ·cases h
  ·split at h
   ·split at h
    ·rename_i D
     cases h
     intro x hx
     rw[List.mem_singleton.mp hx]
     unfold qI
     split
     ·exact⟨‹_›,by simp⟩
     ·exact⟨⟨D,fun c F=>HR (za c F)⟩,by simp⟩
    ·cases h
   ·split at h
    ·rename_i u z
     cases h
     intro x hx
     rw[List.mem_singleton.mp hx]
     refine⟨?_,by simp⟩
     unfold Ay at z
     split at z
     ·cases z;exact .inl ‹_›
     ·split at z
      ·cases z;exact .inr ‹_›
      ·split at z
       ·cases z;exact .inr ‹_›
       ·cases z
    ·cases h
noncomputable def gJ(t:Text):List TK:=(Vbdeaa.tokensOf t).map Prod.fst
theorem Fz{t:Text}{i k p:Nat}(h:i<t.length)(O:t.length-i<k):match mL t i with
  | none=>(Vbdeaa.tokens k p (t.drop i)).map Prod.fst=[.bad]
  | some (l,j)=>i<j∧j≤t.length∧l.length≤1∧∃k' F,t.length-j<k'∧(Vbdeaa.tokens k p (t.drop i)).map Prod.fst=l++(Vbdeaa.tokens k' F (t.drop j)).map Prod.fst:=by
 have J:t.drop i=pk t i::t.drop (i+1):=by
  unfold pk
  rw[ic h,List.drop_eq_getElem_cons h]
  rfl
 obtain⟨t1,t2⟩:=yz h
 cases k with
 | zero=>omega
 | succ k =>
  have G:Vbdeaa.tokens (k+1) p (t.drop i)=if blank (pk t i)=true then Vbdeaa.tokens k (p+1) (t.drop (i+1))else match Vbdeaa.token (t.drop i)with
   | (.bad,_)=>[(.bad,p)]
   | (x,s)=>(x,p)::Vbdeaa.tokens k (p+((t.drop i).length-s.length)) s:=by
   rw[J]
   rfl
  rw[G]
  cases D:blank (pk t i)with
  | true =>
   rw[t1 D,jI rfl]
   exact⟨by omega,by omega,by decide,k,p+1,by omega,rfl⟩
  | false =>
   have:=t2 D
   rw[i9 io]
   revert this
   cases mL t i with
   | none =>
    intro e
    simp only at e ⊢
    revert e
    cases Vbdeaa.token (t.drop i)with
    | mk a b =>
     intro e
     have e:a=.bad:=e
     subst e
     rfl
   | some z =>
    obtain⟨l,j⟩:=z
    rintro⟨x,rfl,L,ne,e,h1,h2⟩
    rw[e]
    refine⟨h1,h2,f' _,k,p+((t.drop i).length-(t.drop j).length),by omega,?_⟩
    cases x with
    | bad=>exact absurd rfl L
    | _=>rfl
noncomputable def Ah(K:PySem.W.Frag)(Ce:Addr):Sp:=fun vs H Q E=>∃(l:Addr)(t:Text),vs=[.ref l]∧bV K H l (vI t)∧t.length≤2000 ∧
 (∀tks,gJ t=tks++[.eof]→tks.length≤2000→(∀x∈tks,eV x∧x≠.eof)→∀L tas H',H L=none→aA H H'→H' L=some (.lst (tas.map V.ref))→Paired (cO H') (tks++[.eof]) tas→Q (.ref L) H')∧(∀tks,gJ t=tks++[.bad]→(∀x∈tks,x≠.eof)→bz Ce (-6) H E)
noncomputable abbrev yM:Stmt:=top 66
section
theorem Jw:aK ["text","scanner"] ["text"] (aD yM):=⟨rfl,rfl,rfl,by decide +kernel,rfl,by decide +kernel,by decide +kernel⟩
theorem Ol{f fI fT Sc Ce:Addr}{fd dI dT:FuncData}(F:Fn K mg "tokens_of" yM f fd ["text"])(T:jC K Sc)(ay:Mk K Sc fI)(GI:aF P w K mg base (aW P w) 1 fI dI ["self","signs"] (Jd Sc))(BI:Binds K dI ["self","signs"] [])(al:mg "Scanner"=some (.ref Sc))
  (ac:mg "len"=none) (FT:Fm K Sc "scan_token" "Scanner.scan_token" (bM 2) fT dT ["self"]) (a0:aF P w K mg base (aW P w) 5 fT dT ["self"] (wH K Sc Ce)):aF P w K mg base (aW P w) 6 f fd ["text"] (Ah K Ce):=by
 refine d9 F.F Jw (fun vs H Q E h=>?_) (fun cdv A outer s H vs Q E hr h=>?_)
 ·obtain⟨_,_,rfl,_⟩:=h
  rfl
 ·obtain⟨l,t,rfl,hl,ar,k,kr⟩:=h
  have av:bG 2 _:=hr.mono (by omega)
  refine⟨_,aq (bu (i:=1) Jw.nd rfl (Or.inl rfl) (sO ay GI av rfl al BI .nil passes (aj (pv 0) au)))
   (aq (gA rC (aG Eb (aJ (pv 1) rfl) (b7 bJ (by rfl) ac (by decide +kernel) (aj (pv 0) au)) (aL _)) (ao (aM (bQ (pv 1) T.cl FT.me a0 hr FT.b .nil passes))))
   (ao (aV (dM Br (aJ (pv 1) rfl) (bT (aj (bI (aj bA (aj bA au))) au)))))),?_⟩
  refine⟨_,rfl,?_⟩
  intro x dx hx ag a4
  refine⟨x,dx,l,rfl,ak,fun lt G U H1 sx af ai=>⟨rfl,?_⟩⟩
  have ax:lt≠dx:=fun z=>by rw[az U,z,ak]at G;cases G
  rw[az U,az ax]at G
  have out:aA H (off [x,lt] H1):=fun b o q=>by
   have bx:=aH q hx
   refine gk (sx b o (by rw[az bx,az (aH q ag)];exact q) bx) ?_
   simp only[hU,iL,or_false,not_or]
   exact⟨bx,aH q G⟩
  have D0:mX K Sc H1 x [x,lt] t 0 [] dx l lt []:=⟨rfl,Ne.symm U,⟨ai,eE (out.trans (aU _ _)) hl,ar,Nat.zero_le _⟩,eE out hl,af,.nil⟩
  refine⟨fun m σ H'=>∃(i:Nat)(tks:List TK)(k' p':Nat),σ=[some (.ref l),some (.ref x)]∧m=t.length-i∧i≤t.length∧tks.length≤i∧(∀x∈tks,eV x∧x≠.eof)∧Ng K Sc H' x [x,lt] t i tks∧aA (off [x,lt] H1) (off [x,lt] H')∧t.length-i<k'∧gJ t=tks++(Vbdeaa.tokens k' p' (t.drop i)).map Prod.fst,
   ⟨_,0,[],t.length+1,0,rfl,rfl,Nat.zero_le _,Nat.zero_le _,fun _ z=>(by cases z),⟨dx,l,lt,[],D0⟩,aA.refl _,by omega,rfl⟩,?_⟩
  rintro m σ H' ⟨i,tks,k',p',rfl,rfl,hi,a5,S,ae,so,hk,hT⟩
  obtain⟨Y,a3,lt',tas,D⟩:=id ae
  have aE:bV K H' l (vI t):=eE ((out.trans so).trans (aU _ _)) hl
  refine⟨_,rfl,x,Sc,Y,_,_,rfl,D.at_.obj,T.cl,T.nA,rfl,_,rfl,l,_,rfl,.inl aE,_,_,rfl,rfl,_,rfl,?_⟩
  rw[dj]
  by_cases J:i<t.length
  ·rw[i8 (by omega)]
   refine bh ⟨fun σ' Z=>∃(j:Nat)(tks:List TK)(k' p':Nat),σ'=[some (.ref l),some (.ref x)]∧t.length-j<t.length-i∧j≤t.length∧tks.length≤j∧(∀x∈tks,eV x∧x≠.eof)∧Ng K Sc Z x [x,lt] t j tks∧aA (off [x,lt] H1) (off [x,lt] Z)∧t.length-j<k'∧gJ t=tks++(Vbdeaa.tokens k' p' (t.drop j)).map Prod.fst,fun σ' Z ⟨j,tk,k2,p2,h1,h2,h3⟩=>⟨_,h2,j,tk,k2,p2,h1,rfl,h3⟩,?_⟩
   have st:=Fz (p:=p') J hk
   refine⟨_,rfl,x,Y,_,rfl,D.at_.obj,rfl,x,[x,lt],t,i,tks,rfl,ae,J,by omega,fun tl j hj H2 aT aC=>?_,fun aS=>?_⟩
   ·rw[hj]at st
    obtain⟨h1,h2,h3,k2,p2,h4,h5⟩:=st
    refine⟨j,tks++tl,k2,p2,rfl,by omega,h2,by rw[gc];omega,fun y O=>(by
     rcases List.mem_append.mp O with O | O
     ·exact S y O
     ·exact Q5 hj y O),aT,so.trans aC,h4,?_⟩
    rw[hT,h5,ij]
   ·rw[aS]at st
    refine(kr tks (by rw[hT,st]) fun y O=>(S y O).2).mono (out.trans so)
  ·rw[j4 (by omega)]
   have aw:i=t.length:=by omega
   subst aw
   have aI:gJ t=tks++[.eof]:=by
    rw[hT,List.drop_length]
    cases k'<;>rfl
   have aa:lt'=lt:=by have:=D.mem;simpa using this.symm
   subst aa
   refine aQ ⟨_,rfl,x,Sc,Y,_,_,rfl,D.at_.obj,T.cl,T.nT,rfl,(by show 2≤sizeLine;decide),fun e he=>⟨(by show 1≤sizeLine;decide),fun q hq=>?_⟩⟩
   have s1:aA H' (L2.upd H' e (.tup [.str "end",.str ""])):=aA.upd he
   have s2:=s1.trans (aA.upd (o:=.lst [V.ref e]) hq)
   have ah:(L2.upd (L2.upd H' e (.tup [.str "end",.str ""])) q (.lst [V.ref e])) e=some (.tup [.str "end",.str ""]):=(aA.upd (o:=.lst [V.ref e]) hq) _ _ ak
   refine⟨lt',q,_,_,rfl,rfl,s2 _ _ D.tl,ak,?_,fun L hL=>?_⟩
   ·rw[ap,←Paired.length D.tks]
    exact ip (show tks.length+1≤3000 by omega) (by decide)
   ·have s3:=s2.trans (aA.upd (o:=.lst (tas.map V.ref++[V.ref e])) hL)
    have sH:aA H H':=(out.trans so).trans (aU _ _)
    refine k tks aI (by omega) S L (tas++[e]) _ (same_none (sH.trans s2) hL) (sH.trans s3) (by rw[ak,ka];rfl) ?_
    exact cu (iD D.tks ((aU _ _).trans s3)) ((aA.upd (o:=.lst (tas.map V.ref++[V.ref e])) hL) _ _ ah)
end
end SB
end
section
set_option maxRecDepth 10000
namespace PM
open Vbdeaa (Exp Exps Un Bin Tok Toks Text text sg wd peek place then_ give isTok must opens joiner oneOf exp joins atom args wrong)
open MX (my o9 mz o8 mj mq gr jN Nb)
inductive Jn where
 | bin (o:Bin) | and | or
 deriving DecidableEq
noncomputable def Fb:Bin→Nat
 | .add=>5 | .sub=>5 | .mul=>6 | .div=>6 | .quo=>6 | .rem=>6 | .pow=>8 | .eq=>4 | .ne=>4 | .lt=>4 | .le=>4 | .gt=>4 | .ge=>4
noncomputable def nJ:Un→Nat
 | .neg=>7 | .not=>3 | .floor=>9 | .ceil=>9 | .abs=>9 | .sign=>9 | .num=>9 | .den=>9
noncomputable def Jn.kind:Jn→Nat
 | .bin o=>Fb o
 | .and=>2
 | .or=>1
noncomputable def ig(k:Nat):Nat:=if k=4 then 5 else if k=8 then 9 else k
noncomputable def e_(k:Nat):Nat:=if k=8 then 7 else k+1
noncomputable def Jn.make:Jn→Exp→Exp→Exp
 | .bin o,a,b=>.bin o a b
 | .and,a,b=>.and a b
 | .or,a,b=>.or a b
inductive Hd where
 | best (g:Bool) | call (n:Text)
noncomputable def app:List Exp→Exps→Exps
 | [],l=>l
 | e::r,l=>.cons e (app r l)
noncomputable def Hd.make:Hd→Exps→Exp
 | .best g,l=>.best g l
 | .call n,l=>.use n l
inductive Fr where
 | grp | un (o:Un) | lst (h:Hd) (l:List Exp) | if0 | if1 (c:Exp) | if2 (c a:Exp) | jn (j:Jn) (a:Exp)
noncomputable def Fr.place:Fr→Nat
 | .grp=>0
 | .un .neg=>7
 | .un .not=>3
 | .un _=>0
 | .lst _ _=>0
 | .if0=>0
 | .if1 _=>0
 | .if2 _ _=>0
 | .jn j _=>e_ j.kind
noncomputable def Fr.around:Fr→Nat
 | .jn j _=>if j.kind=8 then 1 else 0
 | _=>1
noncomputable def Fr.close:Fr→Exp→Exp×Nat
 | .grp,e=>(e,9)
 | .un o,e=>(.un o e,nJ o)
 | .lst h l,e=>(h.make (app l (.cons e .nil)),9)
 | .if0,e=>(e,0)
 | .if1 _,e=>(e,0)
 | .if2 c a,e=>(.cond c a e,0)
 | .jn j a,e=>(j.make a e,j.kind)
noncomputable def Fr.ends:Fr→Bool
 | .un .neg=>true
 | .un .not=>true
 | .if2 _ _=>true
 | .jn _ _=>true
 | _=>false
noncomputable def Fr.brk:Fr→Bool
 | .grp=>true
 | .un .neg=>false
 | .un .not=>false
 | .un _=>true
 | .lst _ _=>true
 | _=>false
noncomputable def nest:List Fr→Nat
 | []=>0
 | f::r=>f.around+nest r
noncomputable def top:List Fr→Nat
 | []=>0
 | f::_=>f.place
inductive Md where
 | beg | nm (n:Text) | br (f:Fr) | en (e:Exp) (k:Nat)
noncomputable def push(fs:List Fr)(f:Fr):Option (List Fr×Md):=if 32<nest fs+f.around then none else some (f::fs,.beg)
noncomputable def fj(k:Nat):List Fr→Exp→Nat→List Fr×Exp×Nat
 | [],e,c=>([],e,c)
 | f::r,e,c=>if k<f.place then fj k r (f.close e).1 (f.close e).2 else(f::r,e,c)
noncomputable def cD:List Fr→Exp→Nat→List Fr×Exp×Nat
 | [],e,c=>([],e,c)
 | f::r,e,c=>if f.ends=true then cD r (f.close e).1 (f.close e).2 else(f::r,e,c)
noncomputable def bU(x:Tok):Option Jn :=
 if x=wd "and" then some .and else if x=wd "or" then some .or else if x=sg "^" then some (.bin .pow)else match joiner 4 x with
  | some o=>some (.bin o)
  | none=>match joiner 5 x with
   | some o=>some (.bin o)
   | none=>(joiner 6 x).map .bin
noncomputable def around(x:Tok)(fs:List Fr)(e:Exp):Option (List Fr×Md) :=
 if x=wd "then" then(match fs with
  | .if0::r=>some (.if1 e::r,.beg)
  | _=>none)
 else if x=wd "else" then(match fs with
  | .if1 c::r=>some (.if2 c e::r,.beg)
  | _=>none)
 else if x=sg "," then(match fs with
  | .lst h l::r=>some (.lst h (l++[e])::r,.beg)
  | _=>none)
 else if x=sg ")" then(match fs with
  | f::r=>if f.brk=true then some (r,.en (f.close e).1 (f.close e).2)else none
  | []=>none)
 else none
noncomputable def goOn(x:Tok)(fs:List Fr)(e:Exp)(k:Nat):Option (List Fr×Md):=match bU x with
 | some j=>if(fj j.kind fs e k).2.2<ig j.kind then none else push (fj j.kind fs e k).1 (.jn j (fj j.kind fs e k).2.1)
 | none=>around x (cD fs e k).1 (cD fs e k).2.1
noncomputable def du(w:Text)(fs:List Fr):Option (List Fr×Md) :=
 if w=text "if"∧top fs=0 then push fs .if0
 else if w=text "not"∧top fs≤3 then push fs (.un .not)
 else match oneOf (.word w)with
  | some o=>some (fs,.br (.un o))
  | none=>if w=text "min" then some (fs,.br (.lst (.best false) []))else if w=text "max" then some (fs,.br (.lst (.best true) []))else none
noncomputable def step(x:Tok)(fs:List Fr):Md→Option (List Fr×Md)
 | .beg=>(match x with
  | .num q=>some (fs,.en (.num q) 9)
  | .name n=>some (fs,.nm n)
  | .word w=>du w fs
  | x=>if x=sg "(" then push fs .grp else if x=sg "-" then push fs (.un .neg)else none)
 | .nm n=>if x=sg "(" then push fs (.lst (.call n) [])else goOn x fs (.name n) 9
 | .br f=>if x=sg "(" then push fs f else none
 | .en e k=>goOn x fs e k
noncomputable def fin(fs:List Fr):Md→Option Exp
 | .en e k=>(match(cD fs e k).1 with
  | []=>some (cD fs e k).2.1
  | _=>none)
 | .nm n=>(match(cD fs (.name n) 9).1 with
  | []=>some (cD fs (.name n) 9).2.1
  | _=>none)
 | _=>none
noncomputable def run:List Tok→List Fr→Md→Option Exp
 | [],_,_=>none
 | x::t,fs,m=>if x=.eof then fin fs m else match step x fs m with
  | none=>none
  | some s=>run t s.1 s.2
noncomputable def R(t:Toks)(fs:List Fr)(m:Md):Option Exp:=run (t.map Prod.fst) fs m
noncomputable def Q(t:Toks):Prop:=∃x p,t.getLast?=some (x,p)∧(x=.eof∨x=.bad)
theorem Q.tail{x:Tok}{p:Nat}{t:Toks}(h:Q ((x,p)::t))(h1:x≠.eof)(h2:x≠.bad):Q t:=by
 cases t with
 | nil =>
  obtain⟨y,q,e,h⟩:=h
  cases e
  cases h with
  | inl h=>exact absurd h h1
  | inr h=>exact absurd h h2
 | cons y t =>
  obtain⟨z,q,e,h⟩:=h
  exact⟨z,q,by rw[List.getLast?_cons_cons]at e;exact e,h⟩
theorem Q.cons{t:Toks}(h:Q t):∃x p r,t=(x,p)::r:=by
 cases t with
 | nil=>obtain⟨_,_,e,_⟩:=h;cases e
 | cons y t=>exact⟨y.1,y.2,t,rfl⟩
theorem n_{x:Tok}{p:Nat}{t:Toks}{fs:List Fr}{m:Md}(h:x≠.eof):R ((x,p)::t) fs m=match step x fs m with
  | none=>none
  | some s=>R t s.1 s.2:=by
 unfold R
 rw[i4,run,i9 h]
theorem lD{x:Tok}{p:Nat}{t:Toks}{fs j:List Fr}{m n:Md}(h:x≠.eof)(e:step x fs m=some (j,n)):R ((x,p)::t) fs m=R t j n:=by rw[n_ h,e]
theorem jy{x:Tok}{p:Nat}{t:Toks}{fs:List Fr}{m:Md}(h:x≠.eof)(e:step x fs m=none):R ((x,p)::t) fs m=none:=by rw[n_ h,e]
theorem qZ{p:Nat}{t:Toks}{fs:List Fr}{m:Md}:R ((.eof,p)::t) fs m=fin fs m:=by
 unfold R
 rw[i4,run,jI rfl]
theorem Gs{x:Tok}{p:Nat}{t:Toks}:peek ((x,p)::t)=x:=rfl
noncomputable def Hx(k L:Nat)(t:Toks):Prop:=∀j,bU (peek t)=some j→j.kind<L∨(j.kind=4∧k≤4)
theorem oX{k:Nat}{fs:List Fr}{e:Exp}{c:Nat}(h:top fs≤k):fj k fs e c=(fs,e,c):=by
 cases fs with
 | nil=>rfl
 | cons f r=>rw[fj,i9 (show ¬k<f.place from Nat.not_lt.mpr h)]
theorem Lz:bU .eof=none:=by decide
theorem four{j:Jn}(h:j.kind=4):ig j.kind=5:=by rw[h];rfl
theorem xm{f:Fr}{fs:List Fr}{e:Exp}{k:Nat}{r:Toks}(D:f.ends=true)
  (h:∀j,bU (peek r)=some j→j.kind<f.place∨(j.kind=4∧k≤4∧f.place≤4∧(f.close e).2≤4∧top fs≤4)) :
  R r (f::fs) (.en e k)=R r fs (.en (f.close e).1 (f.close e).2):=by
 have z:∀c,cD (f::fs) e c=cD fs (f.close e).1 (f.close e).2:=fun c=>by rw[cD,jI D]
 cases r with
 | nil=>rfl
 | cons x r =>
  obtain⟨x,p⟩:=x
  by_cases hx:x=.eof
  ·subst hx
   rw[qZ,qZ]
   unfold fin
   simp only[z]
  ·rw[n_ hx,n_ hx]
   have e2:step x (f::fs) (.en e k)=step x fs (.en (f.close e).1 (f.close e).2):=by
    unfold step
    simp only
    unfold goOn
    cases F:bU x with
    | none=>simp only[z]
    | some j =>
     simp only
     cases h j F with
     | inl h=>rw[fj,jI h]
     | inr h =>
      obtain⟨h1,h2,J,L,G⟩:=h
      rw[oX (fs:=f::fs) (by show f.place≤_;omega),oX (by omega),four h1,jI (by show k<5;omega),jI (by show(f.close e).2<5;omega)]
   rw[e2]
theorem Dc{x:Tok}{p:Nat}{r:Toks}{fs:List Fr}{e:Exp}{k:Nat}{j:Jn}(hx:x≠.eof)(z:bU x=some j)(D:top fs≤j.kind)(F:ig j.kind≤k)(G:nest fs+(Fr.jn j e).around≤32):R ((x,p)::r) fs (.en e k)=R r (.jn j e::fs) .beg:=by
 refine lD hx ?_
 show goOn x fs e k=_
 unfold goOn
 rw[z]
 simp only[oX D]
 rw[i9 (by omega)]
 unfold push
 rw[i9 (by omega)]
theorem Hw{x:Tok}{p:Nat}{r:Toks}{fs:List Fr}{e:Exp}{k:Nat}{j:Jn}(hx:x≠.eof)(z:bU x=some j)(F:top fs≤j.kind)(D:32<nest fs+(Fr.jn j e).around):R ((x,p)::r) fs (.en e k)=none:=by
 refine jy hx ?_
 show goOn x fs e k=_
 unfold goOn
 rw[z]
 simp only[oX F]
 unfold push
 rw[jI D,ite_self]
theorem zT{x:Tok}{j:Jn}{fs:List Fr}{e:Exp}(h:bU x=some j):around x fs e=none:=by
 unfold around
 rw[i9,i9,i9,i9]
 all_goals(rintro rfl;revert h;generalize z:bU _=g;have:g=none:=by rw[←z];decide)
 all_goals(subst this;intro h;cases h)
theorem CQ{fs:List Fr}{e:Exp}:around .eof fs e=none:=by
 unfold around
 rw[i9 (by decide),i9 (by decide),i9 (by decide),i9 (by decide)]
theorem shut{f:Fr}{fs:List Fr}{e:Exp}{k:Nat}{x:Tok}{p:Nat}{r:Toks}(F:f.ends=false)(L:f.place=0)(J:Hx k 0 ((x,p)::r)):R ((x,p)::r) (f::fs) (.en e k)=match around x (f::fs) e with
  | none=>none
  | some s=>R r s.1 s.2:=by
 have z:cD (f::fs) e k=(f::fs,e,k):=by rw[cD,i9 (by rw[F];exact io)]
 by_cases hx:x=.eof
 ·subst hx
  rw[qZ,CQ]
  unfold fin
  simp only[z]
 ·rw[n_ hx]
  unfold step
  simp only
  unfold goOn
  cases D:bU x with
  | none=>simp only[z]
  | some j =>
   have G:around x (f::fs) e=none:=zT D
   cases J j D with
   | inl h=>exact absurd h (Nat.not_lt_zero _)
   | inr h =>
    simp only
    rw[G,oX (fs:=f::fs) (by show f.place≤_;omega),four h.1,jI (by show k<5;omega)]
theorem bB{α β:Type}{p:Vbdeaa.P α}{f:α→Vbdeaa.P β}{t:Toks}{l:Nat}(h:p t=.error l):then_ p f t=.error l:=by unfold then_;rw[h]
theorem bK{α β:Type}{p:Vbdeaa.P α}{f:α→Vbdeaa.P β}{t r:Toks}{a:α}(h:p t=.ok (a,r)):then_ p f t=f a r:=by unfold then_;rw[h]
theorem iK{d:Nat}{t:Toks}(h:d≠0):opens d t=.ok (d-1,t.drop 1):=by unfold opens;rw[i9 h]
theorem gn{d:Nat}{t:Toks}(h:d=0):opens d t=.error (place t):=by unfold opens;rw[jI h]
theorem sW{x:Tok}{p:Nat}{t:Toks}:must x ((x,p)::t)=.ok ((),t):=by unfold must;rw[jI (jN Gs)];rfl
theorem o5{x:Tok}{t:Toks}(h:peek t≠x):must x t=.error (place t):=by unfold must;rw[gr h];rfl
noncomputable def MN(n L:Nat)(fs:List Fr)(m:Md)(t:Toks):Except Nat (Exp×Toks)→Prop
 | .error _=>R t fs m=none
 | .ok (e,r)=>Q r∧r.length<n∧∃k,L≤k∧Hx k L r∧R t fs m=R r fs (.en e k)
noncomputable def yp(n:Nat)(fs:List Fr)(m:Md)(t:Toks):Except Nat (Exp×Toks)→Prop
 | .error _=>R t fs m=none
 | .ok (e,r)=>Q r∧r.length<n∧R t fs m=R r fs (.en e 9)
noncomputable def Cd(p L:Nat)(x:Tok):Prop:=(0<L→p=0→x≠wd "if")∧(3<L→p≤3→x≠wd "not")∧(7<L→x≠sg "-")
noncomputable def ES(k:Nat):Prop:=∀L d fs t,L≤8→d+nest fs=32→top fs≤L→Cd (top fs) L (peek t)→Q t→16*t.length+10≤k+L→MN t.length L fs .beg t (exp k d L t)
noncomputable def JS(k:Nat):Prop:=∀L d fs t a c,Nb L→d+nest fs=32→top fs≤L→Q t→16*t.length+1≤k→L≤c→Hx c (L+1) t→MN (t.length+1) L fs (.en a c) t (joins k d L a t)
noncomputable def AS(k:Nat):Prop:=∀d fs t,d+nest fs=32→top fs≤8→Cd (top fs) 8 (peek t)→Q t→16*t.length+1≤k→yp t.length fs .beg t (atom k d t)
noncomputable def Td(n:Nat)(h:Hd)(l:List Exp)(fs:List Fr)(t:Toks):Except Nat (Exps×Toks)→Prop
 | .error _=>R t (.lst h l::fs) .beg=none
 | .ok (es,r)=>Q r∧r.length<n∧R t (.lst h l::fs) .beg=R r fs (.en (h.make (app l es)) 9)
noncomputable def GS(k:Nat):Prop:=∀d fs h l t,d+nest (.lst h l::fs)=32→Q t→16*t.length+11≤k→Td t.length h l fs t (args k d t)
theorem MJ{l:List Exp}{e:Exp}{es:Exps}:app (l++[e]) es=app l (.cons e es):=by
 induction l with
 | nil=>rfl
 | cons a l j=>show Exps.cons a (app (l++[e]) es)=_;rw[j];rfl
theorem zR{fs:List Fr}{m:Md}:step .bad fs m=none:=by
 have j:bU .bad=none:=by decide
 have z:∀D e,around .bad D e=none:=by
  intro D e
  unfold around
  rw[i9 (by decide),i9 (by decide),i9 (by decide),i9 (by decide)]
 cases m with
 | beg=>rfl
 | nm n =>
  show(if Tok.bad=sg "(" then push fs (.lst (.call n) [])else goOn .bad fs (.name n) 9)=none
  rw[i9 (by decide)]
  unfold goOn
  rw[j]
  exact z _ _
 | br f=>rfl
 | en e k =>
  show goOn .bad fs e k=none
  unfold goOn
  rw[j]
  exact z _ _
theorem sJ{fs:List Fr}{f:Fr}{d:Nat}(h:d+nest fs=32)(hd:d≠0)(j:f.around=1):push fs f=some (f::fs,.beg)∧d-1+nest (f::fs)=32:=by
 unfold push
 rw[j]
 refine⟨i9 (by omega),?_⟩
 rw[nest,j]
 omega
theorem xf{fs:List Fr}{f:Fr}{d:Nat}(h:d+nest fs=32)(hd:d=0)(j:f.around=1):push fs f=none:=by
 unfold push
 rw[j]
 exact jI (by omega)
theorem due{k c:Nat}{f:Fr}{fs:List Fr}{e:Exp}{x:Tok}{r:Toks}(z:f.ends=false)(F:f.place=0)(G:Q r)(D:Hx c 0 r)(hx:x≠.eof∧x≠.bad)(J:∀y,y≠x→around y (f::fs) e=none) :
  (∃p j,r=(x,p)::j∧Q j∧R r (f::fs) (.en e c)=match around x (f::fs) e with
   | none=>none
   | some s=>R j s.1 s.2)∨(peek r≠x∧R r (f::fs) (.en e c)=none):=by
 obtain⟨y,p,j,rfl⟩:=G.cons
 by_cases h:y=x
 ·subst h
  exact .inl ⟨p,j,rfl,G.tail hx.1 hx.2,shut z F D⟩
 ·exact .inr ⟨h,by rw[shut z F D,J y h]⟩
end PM
end
section
set_option maxRecDepth 10000
namespace PM
open Vbdeaa (Exp Exps Un Bin Tok Toks Text text sg wd peek place then_ give isTok must opens joiner oneOf exp joins atom args wrong)
open MX (my o9 mz o8 mj mq gr jN Nb)
theorem CK{y:Tok}{fs:List Fr}{e:Exp}(h:y≠wd "then"):around y (.if0::fs) e=none:=by
 unfold around
 rw[i9 h]
 split
 ·rfl
 ·split
  ·rfl
  ·split<;>rfl
theorem CJ{y:Tok}{fs:List Fr}{c e:Exp}(h:y≠wd "else"):around y (.if1 c::fs) e=none:=by
 unfold around
 rw[i9 h]
 split
 ·rfl
 ·split
  ·rfl
  ·split<;>rfl
theorem CV{y:Tok}{f:Fr}{fs:List Fr}{e:Exp}(j:f=.grp∨∃o,f=.un o)(h:y≠sg ")"):around y (f::fs) e=none:=by
 unfold around
 rw[i9 h]
 rcases j with rfl | ⟨o,rfl⟩
 ·split
  ·rfl
  ·split
   ·rfl
   ·split<;>rfl
 ·split
  ·rfl
  ·split
   ·rfl
   ·split<;>rfl
theorem qY{f:Fr}{fs:List Fr}{e:Exp}(h:f.brk=true):around (sg ")") (f::fs) e=some (fs,.en (f.close e).1 (f.close e).2):=by
 unfold around
 rw[i9 (by decide),i9 (by decide),i9 (by decide),jI rfl]
 simp only[h]
 rfl
theorem yj{h:Hd}{l:List Exp}{fs:List Fr}{e:Exp}:around (sg ",") (.lst h l::fs) e=some (.lst h (l++[e])::fs,.beg):=by
 unfold around
 rw[i9 (by decide),i9 (by decide),jI rfl]
theorem Cz{y:Tok}{h:Hd}{l:List Exp}{fs:List Fr}{e:Exp}(h1:y≠sg ",")(h2:y≠sg ")"):around y (.lst h l::fs) e=none:=by
 unfold around
 rw[i9 h1,i9 h2]
 split
 ·rfl
 ·split<;>rfl
theorem Qe{k:Nat}(hE:ES k)(U:GS k):GS (k+1):=by
 intro d fs h l t O hQ hk
 have h0:=hE 0 d (.lst h l::fs) t (by omega) O (f' _) ⟨fun z=>absurd z (by omega),fun z=>absurd z (by omega),fun z=>absurd z (by omega)⟩ hQ (by omega)
 have Z:args (k+1) d t=then_ (exp k d 0) (fun a=>fun t=>if isTok t (sg ",")=true then then_ (args k d) (fun l=>give (.cons a l)) (t.drop 1)else then_ (must (sg ")")) (fun _=>give (.cons a .nil)) t) t:=by rw[Vbdeaa.args]
 rw[Z]
 show Td t.length h l fs t (then_ (exp k d 0) (fun a=>fun t=>if isTok t (sg ",")=true then then_ (args k d) (fun l=>give (.cons a l)) (t.drop 1)else then_ (must (sg ")")) (fun _=>give (.cons a .nil)) t) t)
 cases G:exp k d 0 t with
 | error p =>
  rw[G]at h0
  rw[bB G]
  exact h0
 | ok a =>
  obtain⟨a,r⟩:=a
  rw[G]at h0
  obtain⟨L,J,c,q3,q4,D⟩:=h0
  rw[bK G]
  obtain⟨y,p,j,rfl⟩:=L.cons
  rw[shut rfl rfl q4]at D
  by_cases h1:y=sg ","
  ·subst h1
   simp only[jN (x:=sg ",") (t:=(sg ",",p)::j) rfl,if_true]
   rw[yj]at D
   have qr:Q j:=L.tail (by decide) (by decide)
   have Y:(j:Toks).length<t.length:=by simp only[cr]at J;omega
   have h2:=U d fs h (l++[a]) j O qr (by simp only[cr]at J;omega)
   show Td t.length h l fs t (then_ (args k d) (fun l=>give (.cons a l)) j)
   cases F:args k d j with
   | error p2 =>
    rw[F]at h2
    rw[bB F]
    exact D.trans h2
   | ok es =>
    obtain⟨es,r2⟩:=es
    rw[F]at h2
    rw[bK F]
    obtain⟨w1,w2,S⟩:=h2
    refine⟨w1,Nat.lt_trans w2 Y,D.trans ?_⟩
    rw[MJ]at S
    exact S
  ·rw[gr (x:=sg ",") (t:=(y,p)::j) h1]
   simp only[Bool.false_eq_true,if_false]
   by_cases h2:y=sg ")"
   ·subst h2
    rw[bK sW]
    rw[qY rfl]at D
    exact⟨L.tail (by decide) (by decide),by simp only[cr]at J;omega,D⟩
   ·rw[bB (o5 (t:=(y,p)::j) h2)]
    rw[Cz h1 h2]at D
    exact D
theorem LR{k d:Nat}{f:Fr}{fs:List Fr}{t:Toks}{g:Exp→Exp}(J:f=.grp∨∃o,f=.un o)(hb:f.brk=true)(G:f.ends=false)(O:f.place=0)(hc:∀e,f.close e=(g e,9))(U:ES k)(L:d+nest (f::fs)=32)(Y:Q t)(hk:16*t.length+10≤k) :
  match then_ (exp k d 0) (fun a=>then_ (must (sg ")")) fun _=>give (g a)) t with
  | .error _=>R t (f::fs) .beg=none
  | .ok (e,r)=>Q r∧r.length<t.length∧R t (f::fs) .beg=R r fs (.en e 9):=by
 have h0:=U 0 d (f::fs) t (by omega) L (by show f.place≤0;omega) ⟨fun z=>absurd z (by omega),fun z=>absurd z (by omega),fun z=>absurd z (by omega)⟩ Y (by omega)
 cases D:exp k d 0 t with
 | error p =>
  rw[D]at h0
  rw[bB D]
  exact h0
 | ok a =>
  obtain⟨a,r⟩:=a
  rw[D]at h0
  obtain⟨F,S,c,q3,q4,j⟩:=h0
  rw[bK D]
  obtain⟨y,p,Z,rfl⟩:=F.cons
  rw[shut G O q4]at j
  by_cases h2:y=sg ")"
  ·subst h2
   rw[bK sW]
   rw[qY hb,hc]at j
   exact⟨F.tail (by decide) (by decide),by simp only[cr]at S;omega,j⟩
  ·rw[bB (o5 (t:=(y,p)::Z) h2)]
   rw[CV J h2]at j
   exact j
theorem Nv{x:Tok}{fs:List Fr}{n:Text}:step x fs (.nm n)=if x=sg "(" then push fs (.lst (.call n) [])else goOn x fs (.name n) 9:=rfl
theorem Ny{x:Tok}{fs:List Fr}{f:Fr}:step x fs (.br f)=if x=sg "(" then push fs f else none:=rfl
theorem IW{fs:List Fr}:step (sg "-") fs .beg=push fs (.un .neg):=rfl
theorem Gw{w:Text}{o:Un}(h:oneOf (.word w)=some o):(Fr.un o).brk=true∧(Fr.un o).ends=false∧(Fr.un o).place=0∧nJ o=9∧w≠text "if"∧w≠text "not"∧w≠text "min"∧w≠text "max":=by
 have hw:w≠text "if"∧w≠text "not"∧w≠text "min"∧w≠text "max":=by
  refine⟨?_,?_,?_,?_⟩
  all_goals(rintro rfl;revert h;generalize j:oneOf _=g;have:g=none:=by rw[←j];decide)
  all_goals(subst this;intro h;cases h)
 have z:o=.floor∨o=.ceil∨o=.abs∨o=.sign∨o=.num∨o=.den:=by
  unfold oneOf at h
  repeat' split at h
  all_goals(first | cases h | skip)
  all_goals simp
 refine⟨?_,?_,?_,?_,hw⟩<;>rcases z with rfl | rfl | rfl | rfl | rfl | rfl<;>rfl
theorem uz{fs:List Fr}{f:Fr}{x:Tok}{p:Nat}{r:Toks}{d:Nat}(z:d+nest fs=32)(j:f.around=1)(m:Md)(D:step (sg "(") fs m=push fs f) :
  (d=0→R ((sg "(",p)::r) fs m=none)∧(d≠0→R ((sg "(",p)::r) fs m=R r (f::fs) .beg∧d-1+nest (f::fs)=32):=by
 constructor
 ·intro h
  exact jy (by decide) (by rw[D];exact xf z h j)
 ·intro h
  exact⟨lD (by decide) (by rw[D];exact(sJ z h j).1),(sJ z h j).2⟩
theorem Qt{k:Nat}(hE:ES k)(hG:GS k):AS (k+1):=by
 intro d fs t hn ht hc hQ hk
 obtain⟨x,p,t',rfl⟩:=hQ.cons
 rw[cr]at hk
 have G:x≠.eof→x≠.bad→Q t':=fun h1 h2=>hQ.tail h1 h2
 rw[Vbdeaa.atom]
 have lst:∀(h:Hd)(m:Md),Q t'→R ((x,p)::t') fs .beg=R t' fs m→step (sg "(") fs m=push fs (.lst h [])→isTok t' (sg "(")=true→yp ((x,p)::t').length fs .beg ((x,p)::t') ((then_ (opens d) fun e=>then_ (args k e) fun l=>give (h.make l)) t'):=by
  intro h m D e1 F j
  obtain⟨y,p2,r,rfl⟩:=D.cons
  have L:y=sg "(":=beq_iff_eq.mp j
  subst L
  have od:=uz (p:=p2) (r:=r) (x:=.eof) hn (f:=.lst h []) rfl m F
  by_cases hd:d=0
  ·rw[bB (gn hd)]
   exact e1.trans (od.1 hd)
  ·rw[bK (iK hd)]
   obtain⟨J,S⟩:=od.2 hd
   have g:=hG (d-1) fs h [] r S (D.tail (by decide) (by decide)) (by simp only[cr]at hk;omega)
   show yp _ fs .beg _ (then_ (args k (d-1)) (fun l=>give (h.make l)) r)
   cases U:args k (d-1) r with
   | error q=>rw[U]at g;rw[bB U];exact e1.trans (J.trans g)
   | ok es =>
    obtain⟨es,r2⟩:=es
    rw[U]at g
    rw[bK U]
    obtain⟨g1,g2,g3⟩:=g
    exact⟨g1,by simp only[cr];omega,e1.trans (J.trans g3)⟩
 have brk:∀(o:Un)(m:Md),(Fr.un o).brk=true→(Fr.un o).ends=false→(Fr.un o).place=0→nJ o=9→Q t'→R ((x,p)::t') fs .beg=R t' fs m→step (sg "(") fs m=push fs (.un o)→isTok t' (sg "(")=true→yp ((x,p)::t').length fs .beg ((x,p)::t') ((then_ (opens d) fun e=>then_ (exp k e 0) fun a=>then_ (must (sg ")")) fun _=>give (.un o a)) t'):=by
  intro o m b1 b2 b3 Z D e1 F j
  obtain⟨y,p2,r,rfl⟩:=D.cons
  have L:y=sg "(":=beq_iff_eq.mp j
  subst L
  have od:=uz (p:=p2) (r:=r) (x:=.eof) hn (f:=.un o) (by rfl) m F
  by_cases hd:d=0
  ·rw[bB (gn hd)]
   exact e1.trans (od.1 hd)
  ·rw[bK (iK hd)]
   obtain⟨J,S⟩:=od.2 hd
   have g:=LR (g:=fun a=>.un o a) (t:=r) (.inr ⟨o,rfl⟩) b1 b2 b3 (fun e=>by show(Exp.un o e,nJ o)=_;rw[Z]) hE S (D.tail (by decide) (by decide)) (by simp only[cr]at hk;omega)
   show yp _ fs .beg _ (then_ (exp k (d-1) 0) (fun a=>then_ (must (sg ")")) fun _=>give (.un o a)) r)
   revert g
   cases(then_ (exp k (d-1) 0) (fun a=>then_ (must (sg ")")) fun _=>give (Exp.un o a)) r)with
   | error q=>intro g;exact e1.trans (J.trans g)
   | ok es =>
    obtain⟨es,r2⟩:=es
    intro g
    obtain⟨g1,g2,g3⟩:=g
    exact⟨g1,by simp only[cr];omega,e1.trans (J.trans g3)⟩
 cases x with
 | num q=>exact⟨G (by simp) (by simp),by simp,lD (by simp) rfl⟩
 | name n =>
  show yp _ fs .beg _ (if isTok t' (sg "(")=true then(then_ (opens d) fun e=>then_ (args k e) fun l=>give (.use n l)) t' else .ok (.name n,t'))
  have D:=G (by simp) (by simp)
  have e1:R ((Tok.name n,p)::t') fs .beg=R t' fs (.nm n):=lD (by simp) rfl
  by_cases j:isTok t' (sg "(")=true
  ·rw[jI j]
   exact lst (.call n) (.nm n) D e1 (by rw[Nv,jI rfl]) j
  ·rw[i9 j]
   refine⟨D,by simp,e1.trans ?_⟩
   obtain⟨y,p2,r,rfl⟩:=D.cons
   have L:y≠sg "(":=fun z=>j (by rw[z];rfl)
   by_cases O:y=.eof
   ·subst O
    rw[qZ,qZ]
    rfl
   ·rw[n_ O,n_ O]
    have:step y fs (.nm n)=step y fs (.en (.name n) 9):=by
     show(if y=sg "(" then _ else goOn y fs (.name n) 9)=goOn y fs (.name n) 9
     rw[i9 L]
    rw[this]
 | sign s =>
  show yp _ fs .beg _ (if s=text "(" then(then_ (opens d) fun e=>then_ (exp k e 0) fun a=>then_ (must (sg ")")) fun _=>give a) ((Tok.sign s,p)::t')else .error (place ((Tok.sign s,p)::t')))
  by_cases Y:s=text "("
  ·subst Y
   rw[jI rfl]
   have od:=uz (p:=p) (r:=t') (x:=.eof) hn (f:=.grp) rfl .beg rfl
   by_cases hd:d=0
   ·rw[bB (gn hd)]
    exact od.1 hd
   ·rw[bK (iK hd)]
    obtain⟨J,S⟩:=od.2 hd
    have g:=LR (g:=fun a=>a) (t:=t') (f:=.grp) (.inl rfl) rfl rfl rfl (fun e=>rfl) hE S (G (by simp) (by simp)) (by omega)
    show yp _ fs .beg _ (then_ (exp k (d-1) 0) (fun a=>then_ (must (sg ")")) fun _=>give a) t')
    revert g
    cases(then_ (exp k (d-1) 0) (fun a=>then_ (must (sg ")")) fun _=>give a) t')with
    | error q=>intro g;exact Eq.trans J g
    | ok es =>
     obtain⟨es,r2⟩:=es
     intro g
     obtain⟨g1,g2,g3⟩:=g
     exact⟨g1,by simp only[cr];omega,Eq.trans J g3⟩
  ·rw[i9 Y]
   have h1:Tok.sign s≠sg "(":=fun z=>Y (by injection z)
   have h2:Tok.sign s≠sg "-":=hc.2.2 (by omega)
   refine jy (by simp) ?_
   show(if Tok.sign s=sg "(" then push fs .grp else if Tok.sign s=sg "-" then push fs (.un .neg)else none)=none
   rw[i9 h1,i9 h2]
 | word w =>
  show yp _ fs .beg _ (if w=text "min"∨w=text "max" then
    (if isTok t' (sg "(")=true then(then_ (opens d) fun e=>then_ (args k e) fun l=>give (.best (decide (w=text "max")) l)) t' else .error (place t'))
   else match oneOf (.word w)with
    | some o=>if isTok t' (sg "(")=true then(then_ (opens d) fun e=>then_ (exp k e 0) fun a=>then_ (must (sg ")")) fun _=>give (.un o a)) t' else .error (place t')
    | none=>.error (place ((Tok.word w,p)::t')))
  have D:=G (by simp) (by simp)
  have ni:¬(w=text "if"∧top fs=0):=by
   rintro⟨rfl,h⟩
   exact hc.1 (by omega) h rfl
  have nn:¬(w=text "not"∧top fs≤3):=by
   rintro⟨rfl,h⟩
   exact hc.2.1 (by omega) h rfl
  have sb:step (.word w) fs .beg=match oneOf (.word w)with
    | some o=>some (fs,.br (.un o))
    | none=>if w=text "min" then some (fs,.br (.lst (.best false) []))else if w=text "max" then some (fs,.br (.lst (.best true) []))else none:=by
   show du w fs=_
   unfold du
   rw[i9 ni,i9 nn]<;>rfl
  have nb:∀f,isTok t' (sg "(")≠true→R t' fs (.br f)=none:=by
   intro f j
   obtain⟨y,p2,r,rfl⟩:=D.cons
   have L:y≠sg "(":=fun z=>j (by rw[z];rfl)
   by_cases O:y=.eof
   ·subst O
    rw[qZ]
    rfl
   ·exact jy O (by show(if y=sg "(" then _ else _)=_;rw[i9 L])
  have br:∀f,step (sg "(") fs (.br f)=push fs f:=fun f=>by rw[Ny,jI rfl]
  by_cases F:w=text "min"∨w=text "max"
  ·rw[jI F]
   have e1:R ((Tok.word w,p)::t') fs .beg=R t' fs (.br (.lst (.best (decide (w=text "max"))) [])):=by
    refine lD (by simp) (sb.trans ?_)
    rcases F with rfl | rfl<;>rfl
   by_cases j:isTok t' (sg "(")=true
   ·rw[jI j]
    exact lst (.best (decide (w=text "max"))) _ D e1 (br _) j
   ·rw[i9 j]
    exact e1.trans (nb _ j)
  ·rw[i9 F]
   cases ho:oneOf (.word w)with
   | none =>
    refine jy (by simp) (sb.trans ?_)
    rw[ho]
    simp only
    rw[i9 fun z=>F (.inl z),i9 fun z=>F (.inr z)]
   | some o =>
    simp only
    obtain⟨b1,b2,b3,Z,_⟩:=Gw ho
    have e1:R ((Tok.word w,p)::t') fs .beg=R t' fs (.br (.un o)):=by
     refine lD (by simp) (sb.trans ?_)
     rw[ho]
    by_cases j:isTok t' (sg "(")=true
    ·rw[jI j]
     exact brk o _ b1 b2 b3 Z D e1 (br _) j
    ·rw[i9 j]
     exact e1.trans (nb _ j)
 | eof=>exact qZ
 | bad=>exact jy (by simp) zR
end PM
end
section
set_option maxRecDepth 10000
namespace PM
open Vbdeaa (Exp Exps Un Bin Tok Toks Text text sg wd peek place then_ give isTok must opens joiner oneOf exp joins atom args wrong)
open MX (my o9 mz o8 mj mq gr jN Nb)
noncomputable def rm:List (Tok×Jn):=[(wd "and",.and),(wd "or",.or),(sg "^",.bin .pow),(sg "=",.bin .eq),(sg "<>",.bin .ne),(sg "<",.bin .lt),(sg "<=",.bin .le),(sg ">",.bin .gt),(sg ">=",.bin .ge),(sg "+",.bin .add),(sg "-",.bin .sub),(sg "*",.bin .mul),(sg "/",.bin .div),(sg "//",.bin .quo),(sg "%",.bin .rem)]
noncomputable def PQ(L:Nat)(x:Tok):Option Jn:=if L=1 then(if x=wd "or" then some .or else none)else if L=2 then(if x=wd "and" then some .and else none)else(joiner L x).map .bin
theorem sZ{x:Tok}(h:∀p∈rm,x≠p.1):bU x=none∧∀L,PQ L x=none:=by
 have g:∀i (hi:i<rm.length),x≠rm[i].1:=fun i hi=>h _ (List.getElem_mem hi)
 have h0:x≠wd "and":=g 0 (by decide)
 have h1:x≠wd "or":=g 1 (by decide)
 have h2:x≠sg "^":=g 2 (by decide)
 have Y:x≠sg "=":=g 3 (by decide)
 have h4:x≠sg "<>":=g 4 (by decide)
 have U:x≠sg "<":=g 5 (by decide)
 have h6:x≠sg "<=":=g 6 (by decide)
 have h7:x≠sg ">":=g 7 (by decide)
 have h8:x≠sg ">=":=g 8 (by decide)
 have Z:x≠sg "+":=g 9 (by decide)
 have z:x≠sg "-":=g 10 (by decide)
 have D:x≠sg "*":=g 11 (by decide)
 have F:x≠sg "/":=g 12 (by decide)
 have j:x≠sg "//":=g 13 (by decide)
 have G:x≠sg "%":=g 14 (by decide)
 have J:joiner 4 x=none:=by unfold joiner;rw[jI rfl,i9 Y,i9 h4,i9 U,i9 h6,i9 h7,i9 h8]
 have O:joiner 5 x=none:=by unfold joiner;rw[i9 (by decide),jI rfl,i9 Z,i9 z]
 have S:∀L,L≠4→L≠5→joiner L x=none:=fun L a b=>by unfold joiner;rw[i9 a,i9 b,i9 D,i9 F,i9 j,i9 G]
 constructor
 ·unfold bU
  rw[i9 h0,i9 h1,i9 h2,J,O,S 6 (by decide) (by decide)]
  rfl
 ·intro L
  unfold PQ
  split
  ·rfl
  ·split
   ·rfl
   ·by_cases a:L=4
    ·subst a;rw[J];rfl
    ·by_cases b:L=5
     ·subst b;rw[O];rfl
     ·rw[S L a b];rfl
theorem zp:∀p∈rm,bU p.1=some p.2∧p.1≠.eof∧p.1≠.bad∧(p.2.kind=1∨p.2.kind=2∨p.2.kind=4∨p.2.kind=5∨p.2.kind=6∨p.2.kind=8)∧(∀L∈[1,2,4,5,6],PQ L p.1=if p.2.kind=L then some p.2 else none)∧(p.1=sg "^"↔p.2.kind=8):=by decide
theorem lX{x:Tok}{j:Jn}(h:bU x=some j):x≠.eof∧x≠.bad∧(j.kind=1∨j.kind=2∨j.kind=4∨j.kind=5∨j.kind=6∨j.kind=8)∧(∀L∈[1,2,4,5,6],PQ L x=if j.kind=L then some j else none)∧(x=sg "^"↔j.kind=8):=by
 by_cases hx:∃p∈rm,x=p.1
 ·obtain⟨p,z,rfl⟩:=hx
  obtain⟨a,b⟩:=zp p z
  rw[a]at h
  cases h
  exact b
 ·rw[(sZ fun p z e=>hx ⟨p,z,e⟩).1]at h
  cases h
theorem Fe{x:Tok}{L:Nat}{j:Jn}(D:L∈[1,2,4,5,6])(h:PQ L x=some j):bU x=some j∧j.kind=L:=by
 by_cases hx:∃p∈rm,x=p.1
 ·obtain⟨p,z,rfl⟩:=hx
  obtain⟨a,b,c,d,e,f⟩:=zp p z
  rw[e L D]at h
  split at h
  ·cases h
   exact⟨a,by assumption⟩
  ·cases h
 ·rw[(sZ fun p z e=>hx ⟨p,z,e⟩).2]at h
  cases h
theorem Lx{k d L:Nat}{a:Exp}{t:Toks}(z:Nb L):joins (k+1) d L a t=match PQ L (peek t)with
  | some j=>then_ (exp k d (L+1)) (fun b=>joins k d L (j.make a b)) (t.drop 1)
  | none=>.ok (a,t):=by
 rw[Vbdeaa.joins]
 unfold PQ
 by_cases h1:L=1
 ·subst h1
  simp only[if_true]
  by_cases h:peek t=wd "or"
  ·rw[jN h,jI rfl,jI h];rfl
  ·rw[gr h,i9 h];rfl
 ·simp only[h1,if_false]
  by_cases h2:L=2
  ·subst h2
   simp only[if_true]
   by_cases h:peek t=wd "and"
   ·rw[jN h,jI rfl,jI h];rfl
   ·rw[gr h,i9 h];rfl
  ·simp only[h2,if_false]
   cases joiner L (peek t)<;>rfl
theorem Ez{L:Nat}(h:Nb L):L∈[1,2,4,5,6]∧L≤6∧L≠4∧1≤L:=by
 rcases h with rfl | rfl | rfl | rfl<;>decide
theorem uv{j:Jn}{a b:Exp}{fs:List Fr}{c:Nat}{r:Toks}(G:top fs≤j.kind)(F:e_ j.kind≤c)(D:Hx c (e_ j.kind) r)(z:j.kind≤2∨5≤e_ j.kind):R r (.jn j a::fs) (.en b c)=R r fs (.en (j.make a b) j.kind):=by
 refine xm (f:=.jn j a) rfl fun i hi=>?_
 cases D i hi with
 | inl h=>exact .inl h
 | inr h =>
  refine .inr ⟨h.1,h.2,?_⟩
  have:(Fr.jn j a).place=e_ j.kind:=rfl
  have e:((Fr.jn j a).close b).2=j.kind:=rfl
  rw[this,e]
  rcases z with z | z
  ·have:e_ j.kind=j.kind+1:=by unfold e_;rw[i9 (by omega)]
   omega
  ·omega
theorem Py{k:Nat}(hE:ES k)(hJ:JS k):JS (k+1):=by
 intro L d fs t a c J hn ht O hk hc hP
 obtain⟨U,m2,m3,m4⟩:=Ez J
 rw[Lx J]
 cases Z:PQ L (peek t)with
 | none =>
  refine⟨O,Nat.lt_succ_self _,c,hc,?_,rfl⟩
  intro j h
  cases hP j h with
  | inl g =>
   have:=(lX h).2.2.2.1 L U
   rw[Z]at this
   by_cases e:j.kind=L
   ·rw[jI e]at this;cases this
   ·exact .inl (by omega)
  | inr g=>exact .inr g
 | some j =>
  simp only
  obtain⟨y,p,r,rfl⟩:=O.cons
  obtain⟨Y,G⟩:=Fe U Z
  have S:=lX Y
  have ks:e_ j.kind=L+1:=by unfold e_;rw[G,i9 (by omega)]
  have kf:ig j.kind=L:=by unfold ig;rw[G,i9 m3,i9 (by omega)]
  have ar:(Fr.jn j a).around=0:=by show(if j.kind=8 then 1 else 0)=0;rw[G,i9 (by omega)]
  have e1:R ((y,p)::r) fs (.en a c)=R r (.jn j a::fs) .beg:=Dc S.1 Y (by omega) (by omega) (by rw[ar];omega)
  have qr:Q r:=O.tail S.1 S.2.1
  have tp:top (.jn j a::fs)=L+1:=ks
  have g:=hE (L+1) d (.jn j a::fs) r (by omega) (by rw[nest,ar];omega) (by omega) ⟨fun _ z=>by omega,fun _ z=>by omega,fun z=>by omega⟩ qr (by simp only[cr]at hk;omega)
  show MN _ L fs _ _ (then_ (exp k d (L+1)) (fun b=>joins k d L (j.make a b)) r)
  cases F:exp k d (L+1) r with
  | error q=>rw[F]at g;rw[bB F];exact e1.trans g
  | ok b =>
   obtain⟨b,D⟩:=b
   rw[F]at g
   rw[bK F]
   obtain⟨g1,g2,c2,g3,g4,g5⟩:=g
   have e2:=uv (a:=a) (b:=b) (fs:=fs) (j:=j) (c:=c2) (r:=D) (by omega) (by omega) (by rw[ks];exact g4) (by omega)
   have P2:Hx j.kind (L+1) D:=by
    intro i hi
    cases g4 i hi with
    | inl h=>exact .inl h
    | inr h=>exact .inr ⟨h.1,by omega⟩
   have g':=hJ L d fs D (j.make a b) j.kind J hn ht g1 (by simp only[cr]at hk;omega) (by omega) P2
   have e3:R ((y,p)::r) fs (.en a c)=R D fs (.en (j.make a b) j.kind):=e1.trans (g5.trans e2)
   revert g'
   cases joins k d L (j.make a b) D with
   | error q=>intro g';exact e3.trans g'
   | ok z =>
    obtain⟨z,r3⟩:=z
    intro g'
    obtain⟨w1,w2,c3,w3,w4,w5⟩:=g'
    exact⟨w1,by simp only[cr];omega,c3,w3,w4,e3.trans w5⟩
theorem MN.Vw{n L:Nat}{fs:List Fr}{m:Md}{t:Toks}{x:Except Nat (Exp×Toks)}(h:MN n (L+1) fs m t x)(G:L=0∨L=3∨L=7):MN n L fs m t x:=by
 cases x with
 | error p=>exact h
 | ok z =>
  obtain⟨e,r⟩:=z
  obtain⟨h1,h2,k,J,F,D⟩:=h
  refine⟨h1,h2,k,by omega,?_,D⟩
  intro j g
  have:=(lX g).2.2.1
  cases F j g with
  | inl z=>exact .inl (by omega)
  | inr z=>exact .inr z
theorem yX{n k d L:Nat}{f:Fr}{fs:List Fr}{x:Tok}{p:Nat}{r:Toks}{o:Un}(hE:ES k)(hf:f=.un o)(ho:(o=.not∧L=3)∨(o=.neg∧L=7))(hx:x≠.eof∧x≠.bad)(S:step x fs .beg=push fs f)(U:d+nest fs=32)(ht:top fs≤L)(hQ:Q ((x,p)::r))(hk:16*r.length+10≤k+L)(hl:r.length<n) :
  MN n L fs .beg ((x,p)::r) ((then_ (opens d) fun e=>then_ (exp k e L) fun a=>give (.un o a)) ((x,p)::r)):=by
 subst hf
 have F:(Fr.un o).around=1:=rfl
 have D:(Fr.un o).place=L∧(Fr.un o).ends=true∧nJ o=L:=by rcases ho with⟨rfl,rfl⟩ | ⟨rfl,rfl⟩<;>exact⟨rfl,rfl,rfl⟩
 by_cases hd:d=0
 ·rw[bB (gn hd)]
  exact jy hx.1 (by rw[S];exact xf U hd F)
 ·rw[bK (iK hd)]
  obtain⟨o1,o2⟩:=sJ U hd F
  have e1:R ((x,p)::r) fs .beg=R r (.un o::fs) .beg:=lD hx.1 (by rw[S];exact o1)
  have tp:top (.un o::fs)=L:=D.1
  have g:=hE L (d-1) (.un o::fs) r (by omega) o2 (by omega) ⟨fun _ z=>by omega,fun z1 z2=>by omega,fun z=>by omega⟩ (hQ.tail hx.1 hx.2) hk
  show MN n L fs _ _ (then_ (exp k (d-1) L) (fun a=>give (.un o a)) r)
  cases G:exp k (d-1) L r with
  | error q=>rw[G]at g;rw[bB G];exact e1.trans g
  | ok b =>
   obtain⟨b,J⟩:=b
   rw[G]at g
   rw[bK G]
   obtain⟨g1,g2,Z,g3,Y,g5⟩:=g
   have e2:R J (.un o::fs) (.en b Z)=R J fs (.en (.un o b) L):=by
    have:=xm (f:=.un o) (fs:=fs) (e:=b) (k:=Z) (r:=J) D.2.1 fun j O=>by
     have ec:((Fr.un o).close b).2=L:=D.2.2
     rw[D.1,ec]
     cases Y j O with
     | inl z=>exact .inl z
     | inr z=>exact .inr ⟨z.1,z.2,by omega,by omega,by omega⟩
    rw[this]
    show R J fs (.en (.un o b) (nJ o))=_
    rw[D.2.2]
   refine⟨g1,by omega,L,f' _,?_,e1.trans (g5.trans e2)⟩
   intro j O
   cases Y j O with
   | inl z=>exact .inl z
   | inr z=>exact .inr ⟨z.1,by omega⟩
theorem Qk{k:Nat}(J:ES k)(hJ:JS k)(hA:AS k):ES (k+1):=by
 intro L d fs t hL O ht hc S hk
 have Z:L=0∨L=3∨L=4∨L=7∨L=8∨Nb L:=by unfold Nb;omega
 obtain⟨x,p,r,rfl⟩:=S.cons
 have ac:((x,p)::r).length=r.length+1:=rfl
 rcases Z with rfl | rfl | rfl | rfl | rfl | U
 ·by_cases hx:x=wd "if"
  ·subst hx
   have ee:exp (k+1) d 0 ((wd "if",p)::r)=(then_ (opens d) fun e=>then_ (exp k e 0) fun c=>then_ (must (wd "then")) fun _=>then_ (exp k e 0) fun a=>then_ (must (wd "else")) fun _=>then_ (exp k e 0) fun b=>give (.cond c a b)) ((wd "if",p)::r):=by rw[Vbdeaa.exp.eq_2];rfl
   rw[ee]
   have t0:top fs=0:=by omega
   have hs:step (wd "if") fs .beg=push fs .if0:=by
    show du (text "if") fs=_
    unfold du
    rw[jI ⟨rfl,t0⟩]
   have no:∀(f:Fr),Cd (top (f::fs)) 0 (peek r):=fun f=>⟨fun z=>absurd z (by omega),fun z=>absurd z (by omega),fun z=>absurd z (by omega)⟩
   by_cases hd:d=0
   ·rw[bB (gn hd)]
    exact jy (by decide) (by rw[hs];exact xf O hd rfl)
   ·rw[bK (iK hd)]
    obtain⟨o1,o2⟩:=sJ (f:=.if0) O hd rfl
    have e1:R ((wd "if",p)::r) fs .beg=R r (.if0::fs) .beg:=lD (by decide) (by rw[hs];exact o1)
    have g:=J 0 (d-1) (.if0::fs) r (by omega) o2 (f' _) ⟨fun z=>absurd z (by omega),fun z=>absurd z (by omega),fun z=>absurd z (by omega)⟩ (S.tail (by decide) (by decide)) (by omega)
    show MN _ 0 fs _ _ (then_ (exp k (d-1) 0) (fun c=>then_ (must (wd "then")) fun _=>then_ (exp k (d-1) 0) fun a=>then_ (must (wd "else")) fun _=>then_ (exp k (d-1) 0) fun b=>give (.cond c a b)) r)
    cases D:exp k (d-1) 0 r with
    | error q=>rw[D]at g;rw[bB D];exact e1.trans g
    | ok c =>
     obtain⟨c,Y⟩:=c
     rw[D]at g
     rw[bK D]
     obtain⟨g1,g2,c2,g3,g4,G⟩:=g
     rcases due (k:=0) (f:=.if0) (fs:=fs) (e:=c) (x:=wd "then") rfl rfl g1 g4 (by decide) (fun y hy=>CK hy)with⟨p2,F,rfl,q3,e3⟩ | ⟨aa,e3⟩
     ·rw[bK sW]
      have e4:R r (.if0::fs) .beg=R F (.if1 c::fs) .beg:=G.trans e3
      simp only[cr]at g2
      have g:=J 0 (d-1) (.if1 c::fs) F (by omega) o2 (f' _) ⟨fun z=>absurd z (by omega),fun z=>absurd z (by omega),fun z=>absurd z (by omega)⟩ q3 (by omega)
      cases D:exp k (d-1) 0 F with
      | error q=>rw[D]at g;rw[bB D];exact e1.trans (e4.trans g)
      | ok a =>
       obtain⟨a,r4⟩:=a
       rw[D]at g
       rw[bK D]
       obtain⟨f1,f2,c3,f3,f4,f5⟩:=g
       rcases due (k:=0) (f:=.if1 c) (fs:=fs) (e:=a) (x:=wd "else") rfl rfl f1 f4 (by decide) (fun y hy=>CJ hy)with⟨p3,r5,rfl,q5,e5⟩ | ⟨aa,e5⟩
       ·rw[bK sW]
        have e6:R F (.if1 c::fs) .beg=R r5 (.if2 c a::fs) .beg:=f5.trans e5
        simp only[cr]at f2
        have g:=J 0 (d-1) (.if2 c a::fs) r5 (by omega) o2 (f' _) ⟨fun z=>absurd z (by omega),fun z=>absurd z (by omega),fun z=>absurd z (by omega)⟩ q5 (by omega)
        cases D:exp k (d-1) 0 r5 with
        | error q=>rw[D]at g;rw[bB D];exact e1.trans (e4.trans (e6.trans g))
        | ok b =>
         obtain⟨b,r6⟩:=b
         rw[D]at g
         rw[bK D]
         obtain⟨w1,w2,c4,w3,w4,w5⟩:=g
         have e7:R r6 (.if2 c a::fs) (.en b c4)=R r6 fs (.en (.cond c a b) 0):=xm (f:=.if2 c a) rfl fun j hj=>by
          cases w4 j hj with
          | inl z=>exact .inl z
          | inr z=>exact .inr ⟨z.1,z.2,Nat.zero_le _,Nat.zero_le _,by omega⟩
         refine⟨w1,by simp only[cr];omega,0,f' _,?_,e1.trans (e4.trans (e6.trans (w5.trans e7)))⟩
         intro j hj
         cases w4 j hj with
         | inl z=>exact .inl z
         | inr z=>exact .inr ⟨z.1,Nat.zero_le _⟩
       ·rw[bB (o5 aa)]
        exact e1.trans (e4.trans (f5.trans e5))
     ·rw[bB (o5 aa)]
      exact e1.trans (G.trans e3)
  ·rw[o8 (t:=(x,p)::r) hx]
   exact(J 1 d fs ((x,p)::r) (by omega) O (by omega) ⟨fun _ _=>hx,fun z=>absurd z (by omega),fun z=>absurd z (by omega)⟩ S (by omega)).Vw (.inl rfl)
 ·by_cases hx:x=wd "not"
  ·subst hx
   have ee:exp (k+1) d 3 ((wd "not",p)::r)=(then_ (opens d) fun e=>then_ (exp k e 3) fun a=>give (.un .not a)) ((wd "not",p)::r):=by rw[Vbdeaa.exp.eq_2];rfl
   rw[ee]
   refine yX J rfl (.inl ⟨rfl,rfl⟩) (by decide) ?_ O ht S (by omega) (by omega)
   show du (text "not") fs=_
   unfold du
   rw[i9 (fun z=>absurd z.1 (by decide)),jI ⟨rfl,ht⟩]
  ·rw[mj (t:=(x,p)::r) hx]
   exact(J 4 d fs ((x,p)::r) (by omega) O (by omega) ⟨fun _=>hc.1 (by omega),fun _ _=>hx,fun z=>absurd z (by omega)⟩ S (by omega)).Vw (.inr (.inl rfl))
 ·rw[o9]
  have g:=J 5 d fs ((x,p)::r) (by omega) O (by omega) ⟨fun _=>hc.1 (by omega),fun _=>hc.2.1 (by omega),fun z=>absurd z (by omega)⟩ S (by omega)
  cases D:exp k d 5 ((x,p)::r)with
  | error q=>rw[D]at g;rw[bB D];exact g
  | ok a =>
   obtain⟨a,Y⟩:=a
   rw[D]at g
   rw[bK D]
   obtain⟨g1,g2,c2,g3,g4,G⟩:=g
   have ja:PQ 4 (peek Y)=(joiner 4 (peek Y)).map .bin:=rfl
   cases hj:joiner 4 (peek Y)with
   | none =>
    refine⟨g1,g2,c2,by omega,?_,G⟩
    intro j h
    cases g4 j h with
    | inl z =>
     have:=(lX h).2.2.2.1 4 (by decide)
     rw[ja,hj]at this
     by_cases e:j.kind=4
     ·rw[jI e]at this;cases this
     ·exact .inl (by omega)
    | inr z=>exact .inr z
   | some o =>
    rw[hj]at ja
    obtain⟨j1,j2⟩:=Fe (by decide) ja
    obtain⟨y,p2,F,rfl⟩:=g1.cons
    have j3:=lX j1
    simp only[cr]at g2
    have e1:R ((y,p2)::F) fs (.en a c2)=R F (.jn (.bin o) a::fs) .beg:=Dc j3.1 j1 (by omega) (by rw[j2];show 5≤c2;omega) (by show nest fs+(if(Jn.bin o).kind=8 then 1 else 0)≤32;rw[j2,i9 (by omega)];omega)
    have ks:e_ (Jn.bin o).kind=5:=by rw[j2];rfl
    have tp:top (.jn (.bin o) a::fs)=5:=ks
    have g:=J 5 d (.jn (.bin o) a::fs) F (by omega) (by show d+((if(Jn.bin o).kind=8 then 1 else 0)+nest fs)=32;rw[j2,i9 (by omega)];omega) (by omega) ⟨fun _ z=>by omega,fun _ z=>by omega,fun z=>by omega⟩ (g1.tail j3.1 j3.2.1) (by omega)
    show MN _ 4 fs _ _ (then_ (exp k d 5) (fun b=>give (.bin o a b)) F)
    cases D:exp k d 5 F with
    | error q=>rw[D]at g;rw[bB D];exact G.trans (e1.trans g)
    | ok b =>
     obtain⟨b,r4⟩:=b
     rw[D]at g
     rw[bK D]
     obtain⟨f1,f2,c3,f3,f4,f5⟩:=g
     have e2:=uv (a:=a) (b:=b) (fs:=fs) (j:=.bin o) (c:=c3) (r:=r4) (by omega) (by omega) (by rw[ks];exact f4) (by omega)
     refine⟨f1,by simp only[cr];omega,4,f' _,?_,G.trans (e1.trans (f5.trans (e2.trans (by rw[j2];rfl))))⟩
     intro j h
     cases f4 j h with
     | inl z =>
      by_cases e:j.kind=4
      ·exact .inr ⟨e,f' _⟩
      ·exact .inl (by omega)
     | inr z=>exact .inr ⟨z.1,f' _⟩
 ·by_cases hx:x=sg "-"
  ·subst hx
   have ee:exp (k+1) d 7 ((sg "-",p)::r)=(then_ (opens d) fun e=>then_ (exp k e 7) fun a=>give (.un .neg a)) ((sg "-",p)::r):=by rw[Vbdeaa.exp.eq_2];rfl
   rw[ee]
   exact yX J rfl (.inr ⟨rfl,rfl⟩) (by decide) IW O ht S (by omega) (by omega)
  ·rw[mq (t:=(x,p)::r) hx]
   exact(J 8 d fs ((x,p)::r) (by omega) O (by omega) ⟨fun _=>hc.1 (by omega),fun _=>hc.2.1 (by omega),fun _=>hx⟩ S (by omega)).Vw (.inr (.inr rfl))
 ·rw[mz]
  have g:=hA d fs _ O ht hc S (by omega)
  cases D:atom k d ((x,p)::r)with
  | error q=>rw[D]at g;rw[bB D];exact g
  | ok a =>
   obtain⟨a,Y⟩:=a
   rw[D]at g
   rw[bK D]
   obtain⟨g1,g2,G⟩:=g
   by_cases hb:peek Y=sg "^"
   ·rw[jN hb]
    obtain⟨y,p2,F,rfl⟩:=g1.cons
    have hy:y=sg "^":=hb
    subst hy
    have j1:bU (sg "^")=some (.bin .pow):=by decide
    have j2:(Jn.bin .pow).kind=8:=rfl
    simp only[cr]at g2
    simp only[if_true]
    by_cases hd:d=0
    ·rw[bB (gn hd)]
     exact G.trans (Hw (by decide) j1 (by omega) (by show 32<nest fs+1;omega))
    ·rw[bK (iK hd)]
     have e1:R ((sg "^",p2)::F) fs (.en a 9)=R F (.jn (.bin .pow) a::fs) .beg:=Dc (by decide) j1 (by omega) (f' _) (by show nest fs+1≤32;omega)
     have tp:top (.jn (.bin .pow) a::fs)=7:=rfl
     have g:=J 7 (d-1) (.jn (.bin .pow) a::fs) F (by omega) (by show d-1+(1+nest fs)=32;omega) (by omega) ⟨fun _ z=>by omega,fun _ z=>by omega,fun z=>by omega⟩ (g1.tail (by decide) (by decide)) (by omega)
     show MN _ 8 fs _ _ (then_ (exp k (d-1) 7) (fun b=>give (.bin .pow a b)) F)
     cases D:exp k (d-1) 7 F with
     | error q=>rw[D]at g;rw[bB D];exact G.trans (e1.trans g)
     | ok b =>
      obtain⟨b,r4⟩:=b
      rw[D]at g
      rw[bK D]
      obtain⟨f1,f2,c3,f3,f4,f5⟩:=g
      have e2:=uv (a:=a) (b:=b) (fs:=fs) (j:=.bin .pow) (c:=c3) (r:=r4) (by omega) f3 f4 (.inr (by decide))
      refine⟨f1,by simp only[cr];omega,8,f' _,?_,G.trans (e1.trans (f5.trans e2))⟩
      intro j h
      cases f4 j h with
      | inl z=>exact .inl (by omega)
      | inr z=>omega
   ·rw[gr hb]
    refine⟨g1,g2,9,by omega,?_,G⟩
    intro j h
    have:=lX h
    have h8:j.kind≠8:=fun z=>hb (this.2.2.2.2.mpr z)
    exact .inl (by omega)
 ·rw[my U]
  obtain⟨m1,m2,m3,m4⟩:=Ez U
  have g:=J (L+1) d fs ((x,p)::r) (by omega) O (by omega) ⟨fun _=>hc.1 (by omega),fun z=>by
   by_cases e:L=2
   ·omega
   ·exact hc.2.1 (by unfold Nb at U;omega),fun z=>absurd z (by omega)⟩ S (by omega)
  cases D:exp k d (L+1) ((x,p)::r)with
  | error q=>rw[D]at g;rw[bB D];exact g
  | ok a =>
   obtain⟨a,Y⟩:=a
   rw[D]at g
   rw[bK D]
   obtain⟨g1,g2,c2,g3,g4,G⟩:=g
   have g':=hJ L d fs Y a c2 U O ht g1 (by omega) (by omega) g4
   revert g'
   cases joins k d L a Y with
   | error q=>intro g';exact G.trans g'
   | ok z =>
    obtain⟨z,F⟩:=z
    intro g'
    obtain⟨w1,w2,c3,w3,w4,w5⟩:=g'
    exact⟨w1,by omega,c3,w3,w4,G.trans w5⟩
theorem Fg:∀k,ES k∧JS k∧AS k∧GS k
 | 0=>⟨fun L d fs t h1 h2 j z D F=>by omega,fun L d fs t a c h1 h2 j z D=>by omega,fun d fs t h1 h2 j z D=>by omega,fun d fs h l t h1 h2 j=>by omega⟩
 | k+1=>by
  obtain⟨a,b,c,d⟩:=Fg k
  exact⟨Qk a b c,Py a b,Qt a d,Qe a d⟩
theorem Ka{t:Toks}(D:Q t):run (t.map Prod.fst) [] .beg=match exp (Vbdeaa.enough t) 32 0 t with
  | .error _=>none
  | .ok (e,r)=>if peek r=.eof then some e else none:=by
 have g:=(Fg (Vbdeaa.enough t)).1 0 32 [] t (by omega) rfl (f' _) ⟨fun z=>absurd z (by omega),fun z=>absurd z (by omega),fun z=>absurd z (by omega)⟩ D (by unfold Vbdeaa.enough;omega)
 revert g
 cases exp (Vbdeaa.enough t) 32 0 t with
 | error q=>intro g;exact g
 | ok z =>
  obtain⟨e,r⟩:=z
  intro g
  obtain⟨g1,g2,c,g3,J,F⟩:=g
  refine Eq.trans F ?_
  obtain⟨x,p,L,rfl⟩:=g1.cons
  by_cases hx:x=.eof
  ·subst hx
   rw[qZ]
   show some e=if Tok.eof=Tok.eof then some e else none
   rw[jI rfl]
  ·show _=if x=Tok.eof then some e else none
   rw[i9 hx]
   refine jy hx ?_
   show goOn x [] e c=none
   unfold goOn
   cases G:bU x with
   | none =>
    simp only
    show around x [] e=none
    unfold around
    split
    ·rfl
    ·split
     ·rfl
     ·split
      ·rfl
      ·split<;>rfl
   | some j =>
    simp only
    cases J j G with
    | inl z=>exact absurd z (Nat.not_lt_zero _)
    | inr z =>
     show(if c<ig j.kind then none else push [] (.jn j e))=none
     rw[four z.1,jI (by omega)]
end PM
end
section
namespace SB
open PySem PySem.Spec PyProof.Rows L2 XL
open Vbdeaa (Text Exp Exps Un Bin Ins)
open PM (Fr Jn Hd Md nest)
variable {P:Program} {w:World} {K:PySem.W.Frag} {mg:Str→Option Value} {base:Heap}
noncomputable def bH:Fr→Int
 | .grp=>9
 | .un _=>2
 | .lst (.best _) _=>7
 | .lst (.call _) _=>8
 | .if0=>6
 | .if1 _=>6
 | .if2 _ _=>6
 | .jn (.bin _) _=>3
 | .jn .and _=>4
 | .jn .or _=>5
noncomputable def jA:Fr→V
 | .un o=>.int (wz o)
 | .lst (.best g) _=>.int (if g=true then 1 else 0)
 | .lst (.call n) _=>.str (bD n)
 | .jn (.bin o) _=>.int (qW o)
 | _=>.int 0
noncomputable def bj:Fr→List Exp
 | .lst _ l=>l
 | .if1 c=>[c]
 | .if2 c a=>[c,a]
 | .jn _ a=>[a]
 | _=>[]
noncomputable def Sw(f:Fr)(lp:Addr):List (Str×V):=[("form",.int (bH f)),("detail",jA f),("parts",.ref lp),("place",.int (f.place:Nat)),("around",.int (f.around:Nat)),("bracket",.bl f.brk)]
noncomputable def rP(C FC:Addr)(G H:Hp)(f:Fr)(fa lp:Addr):Prop:=∃dx as,H fa=some (.ins FC dx (Sw f lp))∧H lp=some (.lst (as.map V.ref))∧Paired (cF C G) (bj f) as
inductive g8 (C FC:Addr) (G H:Hp):List Fr→List Addr→List Addr→Prop
 | nil:g8 C FC G H [] [] []
 | cons {f:Fr} {r:List Fr} {fa lp:Addr} {fas ads:List Addr}:rP C FC G H f fa lp→g8 C FC G H r fas ads→g8 C FC G H (f::r) (fa::fas) (fa::lp::ads)
theorem rP.mono{C FC:Addr}{G j H H':Hp}{f:Fr}{fa lp:Addr}(s:aA G j)(h1:H' fa=H fa)(h2:H' lp=H lp)(h:rP C FC G H f fa lp):rP C FC j H' f fa lp:=by
 obtain⟨dx,as,a,b,c⟩:=h
 exact⟨dx,as,by rw[h1];exact a,by rw[h2];exact b,fH s c⟩
theorem g8.mono{C FC:Addr}{G j H H':Hp}(s:aA G j):∀{fs:List Fr}{fas ads:List Addr},(∀b∈ads,H' b=H b)→g8 C FC G H fs fas ads→g8 C FC j H' fs fas ads
 | _,_,_,_,.nil=>.nil
 | _,_,_,k,.cons h t=>.cons (h.mono s (k _ (by simp)) (k _ (by simp))) (g8.mono s (fun b z=>k b (by simp[z])) t)
theorem g8.there{C FC:Addr}{G H:Hp}:∀{fs:List Fr}{fas ads:List Addr},g8 C FC G H fs fas ads→∀b∈ads,∃o,H b=some o
 | _,_,_,.nil,b,j=>by cases j
 | _,_,_,.cons ⟨dx,as,h1,h2,_⟩ t,b,j=>by
  rcases hU.mp j with rfl | j
  ·exact⟨_,h1⟩
  ·rcases hU.mp j with rfl | j
   ·exact⟨_,h2⟩
   ·exact t.there b j
theorem g8.len{C FC:Addr}{G H:Hp}:∀{fs:List Fr}{fas ads:List Addr},g8 C FC G H fs fas ads→fas.length=fs.length
 | _,_,_,.nil=>rfl
 | _,_,_,.cons _ t=>congrArg (·+1) t.len
noncomputable def ie(lt:Addr)(i:Nat)(lf:Addr)(n:Nat)(ev:V)(k:Int):List (Str×V):=[("tokens",.ref lt),("at",.int (i:Nat)),("frames",.ref lf),("nesting",.int (n:Nat)),("ended",ev),("kind",.int k)]
noncomputable def M4(C:Addr)(G:Hp):Md→V→Int→Prop
 | .beg,ev,_=>ev=.non
 | .en e k,ev,k0=>(∃a,ev=.ref a∧cF C G e a)∧k0=(k:Nat)
 | _,_,_=>False
theorem M4.same{C:Addr}{G j:Hp}(s:aA G j):∀{m:Md}{ev:V}{k:Int},M4 C G m ev k→M4 C j m ev k
 | .beg,_,_,h=>h
 | .en e k,_,_,⟨⟨a,h1,h2⟩,z⟩=>⟨⟨a,h1,h2.same s⟩,z⟩
structure jz (C FC PC:Addr) (H:Hp) (p:Addr) (M:List Addr) (ts:List TK) (i:Nat) (fs:List Fr) (md:Md) (dx lt lf:Addr) (ev:V) (k0:Int) (tas fas ads:List Addr):Prop where
 mem:M=p::lf::ads
 nd:M.Nodup
 obj:H p=some (.ins PC dx (ie lt i lf (nest fs) ev k0))
 tl:off M H lt=some (.lst (tas.map V.ref))
 tks:Paired (cO (off M H)) ts tas
 fl:H lf=some (.lst (fas.reverse.map V.ref))
 frs:g8 C FC (off M H) H fs fas ads
 md:M4 C (off M H) md ev k0
noncomputable def jK(C FC PC:Addr)(H:Hp)(p:Addr)(M:List Addr)(ts:List TK)(i:Nat)(fs:List Fr)(md:Md):Prop:=∃dx lt lf ev k0 tas fas ads,jz C FC PC H p M ts i fs md dx lt lf ev k0 tas fas ads
section
variable {C FC PC:Addr} {H H':Hp} {p:Addr} {M:List Addr} {ts:List TK} {i:Nat} {fs:List Fr} {md:Md} {dx lt lf:Addr} {ev:V} {k0:Int} {tas fas ads:List Addr}
theorem jz.there(h:jz C FC PC H p M ts i fs md dx lt lf ev k0 tas fas ads):∀b∈M,∃o,H b=some o:=by
 intro b j
 rw[h.mem]at j
 rcases hU.mp j with rfl | j
 ·exact⟨_,h.obj⟩
 ·rcases hU.mp j with rfl | j
  ·exact⟨_,h.fl⟩
  ·exact h.frs.there b j
theorem jz.keep(h:jz C FC PC H p M ts i fs md dx lt lf ev k0 tas fas ads)(k:rO M H H'):jz C FC PC H' p M ts i fs md dx lt lf ev k0 tas fas ads:=by
 have D:p∈M:=by rw[h.mem];simp
 have j:lf∈M:=by rw[h.mem];simp
 exact⟨h.mem,h.nd,by rw[k.ins _ D];exact h.obj,k.out _ _ h.tl,iD h.tks k.out,by rw[k.ins _ j];exact h.fl,h.frs.mono k.out (fun b z=>k.ins b (by rw[h.mem];simp[z])),h.md.same k.out⟩
theorem jz.pM(h:jz C FC PC H p M ts i fs md dx lt lf ev k0 tas fas ads):p∈M∧lf∈M∧p≠lf∧(∀b∈ads,b≠p∧b≠lf):=by
 have:=h.nd
 rw[h.mem,List.nodup_cons,List.nodup_cons]at this
 obtain⟨a,b,_⟩:=this
 refine⟨by rw[h.mem];simp,by rw[h.mem];simp,fun z=>a (by rw[z];simp),fun x hx=>⟨fun z=>a (by rw[←z];simp[hx]),fun z=>b (by rw[←z];exact hx)⟩⟩
theorem jz.set(h:jz C FC PC H p M ts i fs md dx lt lf ev k0 tas fas ads){i':Nat}{md':Md}{ev':V}{k':Int}(z:M4 C (off M H) md' ev' k'):jz C FC PC (L2.upd H p (.ins PC dx (ie lt i' lf (nest fs) ev' k'))) p M ts i' fs md' dx lt lf ev' k' tas fas ads∧off M (L2.upd H p (.ins PC dx (ie lt i' lf (nest fs) ev' k')))=off M H:=by
 obtain⟨G,L,D,J⟩:=h.pM
 have j:off M (L2.upd H p (.ins PC dx (ie lt i' lf (nest fs) ev' k')))=off M H:=sV G
 exact⟨⟨h.mem,h.nd,ak,by rw[j];exact h.tl,by rw[j];exact h.tks,by rw[az (Ne.symm D)];exact h.fl,by rw[j];exact h.frs.mono (aA.refl _) (fun b F=>az (J b F).1),by rw[j];exact z⟩,j⟩
end
structure gb (K:PySem.W.Frag) (FC:Addr):Prop where
 cl:Dg K FC
 nF:aO K FC "form"
 nD:aO K FC "detail"
 nP:aO K FC "parts"
 nL:aO K FC "place"
 nA:aO K FC "around"
 nB:aO K FC "bracket"
structure iY (K:PySem.W.Frag) (PC:Addr):Prop where
 cl:Dg K PC
 nT:aO K PC "tokens"
 nA:aO K PC "at"
 nF:aO K PC "frames"
 nN:aO K PC "nesting"
 nE:aO K PC "ended"
 nK:aO K PC "kind"
structure CG (K:PySem.W.Frag) (mg:Str→Option Value):Prop where
 ST:GC K mg "STRONGEST" (.i 9)
 DE:GC K mg "DEEPEST" (.i 32)
 GR:GC K mg "GROUP" (.i 9)
 NE:GC K mg "NEGATIVE" (.i 0)
 NT:GC K mg "NEGATION" (.i 1)
 len:mg "len"=none
noncomputable abbrev wY(i:Nat):Stmt:=inClass (top 73) i
noncomputable abbrev aY(i:Nat):Stmt:=inClass (top 74) i
noncomputable def uD:Fr→Prop
 | .if1 _=>False
 | .if2 _ _=>False
 | .lst _ l=>l=[]
 | _=>True
theorem lW{f:Int}{v:V}(h:f=7∨f=8∨f=9):lE f v ((9:Nat):Int):=.else_ (by omega) (by omega) (by omega) (by omega) (by omega)
theorem Px(f:Fr):∃k:Nat,lE (bH f) (jA f) (k:Nat)∧(uD f→Qw oh 0 (k:Nat) ((bj f).length:Nat) (f.place:Nat)∧Qw pL 1 (k:Nat) ((bj f).length:Nat) (f.around:Nat))∧(decide ((k:Int)=9))=f.brk:=by
 cases f with
 | grp=>exact⟨9,.else_ (by decide) (by decide) (by decide) (by decide) (by decide),fun _=>⟨.inl ⟨rfl,rfl⟩,.inl ⟨rfl,rfl⟩⟩,rfl⟩
 | un o=>cases o with
  | neg=>exact⟨7,.one rfl,fun _=>⟨.inr ⟨by decide,_,rfl,rfl⟩,.inr ⟨by decide,_,rfl,rfl⟩⟩,rfl⟩
  | not=>exact⟨3,.one rfl,fun _=>⟨.inr ⟨by decide,_,rfl,rfl⟩,.inr ⟨by decide,_,rfl,rfl⟩⟩,rfl⟩
  | _=>exact⟨9,.one rfl,fun _=>⟨.inl ⟨rfl,rfl⟩,.inl ⟨rfl,rfl⟩⟩,rfl⟩
 | lst h l=>cases h with
  | best g=>exact⟨9,lW (.inl rfl),fun _=>⟨.inl ⟨rfl,rfl⟩,.inl ⟨rfl,rfl⟩⟩,rfl⟩
  | call n=>exact⟨9,lW (.inr (.inl rfl)),fun _=>⟨.inl ⟨rfl,rfl⟩,.inl ⟨rfl,rfl⟩⟩,rfl⟩
 | if0=>exact⟨0,.if_,fun _=>⟨.inr ⟨by decide,_,rfl,rfl⟩,.inr ⟨by decide,_,rfl,rfl⟩⟩,rfl⟩
 | if1 c=>exact⟨0,.if_,fun z=>z.elim,rfl⟩
 | if2 c a=>exact⟨0,.if_,fun z=>z.elim,rfl⟩
 | jn j a=>cases j with
  | and=>exact⟨2,.and_,fun _=>⟨.inr ⟨by decide,_,rfl,rfl⟩,.inr ⟨by decide,_,rfl,rfl⟩⟩,rfl⟩
  | or=>exact⟨1,.or_,fun _=>⟨.inr ⟨by decide,_,rfl,rfl⟩,.inr ⟨by decide,_,rfl,rfl⟩⟩,rfl⟩
  | bin o=>cases o with
   | add=>exact⟨5,.two rfl,fun _=>⟨.inr ⟨by decide,_,rfl,rfl⟩,.inr ⟨by decide,_,rfl,rfl⟩⟩,rfl⟩
   | sub=>exact⟨5,.two rfl,fun _=>⟨.inr ⟨by decide,_,rfl,rfl⟩,.inr ⟨by decide,_,rfl,rfl⟩⟩,rfl⟩
   | mul=>exact⟨6,.two rfl,fun _=>⟨.inr ⟨by decide,_,rfl,rfl⟩,.inr ⟨by decide,_,rfl,rfl⟩⟩,rfl⟩
   | div=>exact⟨6,.two rfl,fun _=>⟨.inr ⟨by decide,_,rfl,rfl⟩,.inr ⟨by decide,_,rfl,rfl⟩⟩,rfl⟩
   | quo=>exact⟨6,.two rfl,fun _=>⟨.inr ⟨by decide,_,rfl,rfl⟩,.inr ⟨by decide,_,rfl,rfl⟩⟩,rfl⟩
   | rem=>exact⟨6,.two rfl,fun _=>⟨.inr ⟨by decide,_,rfl,rfl⟩,.inr ⟨by decide,_,rfl,rfl⟩⟩,rfl⟩
   | pow=>exact⟨8,.two rfl,fun _=>⟨.inr ⟨by decide,_,rfl,rfl⟩,.inr ⟨by decide,_,rfl,rfl⟩⟩,rfl⟩
   | _=>exact⟨4,.two rfl,fun _=>⟨.inr ⟨by decide,_,rfl,rfl⟩,.inr ⟨by decide,_,rfl,rfl⟩⟩,rfl⟩
noncomputable def Aq(FC:Addr):Sp:=fun vs H Q _=>∃(x dx lp:Addr)(f:Fr)(as:List Addr),vs=[.ref x,.int (bH f),jA f,.ref lp]∧H x=some (.ins FC dx [])∧uD f∧H lp=some (.lst (as.map V.ref))∧as.length=(bj f).length ∧
 ∀H',bC x H H'→H' x=some (.ins FC dx (Sw f lp))→Q .non H'
section
theorem JH:aK ["self","form","detail","parts","kind"] ["self","form","detail","parts"] (aD (wY 0)):=⟨rfl,rfl,rfl,by decide +kernel,rfl,by decide +kernel,by decide +kernel⟩
theorem O1{f FC fK fP fA:Addr}{fd dK dP dA:FuncData}(F:fc K "__init__" "Frame.__init__" (wY 0) f fd)(T:gb K FC)(N:CN K mg)(G:CG K mg)(Z:Fn K mg "kind_of" qC fK dK ["form","detail"])(U:Fn K mg "place_of" pU fP dP ["kind","position"])(Y:Fn K mg "around_of" oU fA dA ["kind","position"]):aF P w K mg base (aW P w) 2 f fd ["self","form","detail","parts"] (Aq FC):=by
 have GK:aF P w K mg base (aW P w) 1 fK dK ["form","detail"] t7:=sU Z N
 have GP:aF P w K mg base (aW P w) 1 fP dP ["kind","position"] (yK oh 0):=yZ U N
 have GA:aF P w K mg base (aW P w) 1 fA dA ["kind","position"] (yK pL 1):=GX Y N
 refine d9 F JH (fun vs H Q E h=>?_) (fun cdv A outer s H vs Q E hr h=>?_)
 ·obtain⟨_,_,_,_,_,rfl,_⟩:=h
  rfl
 ·obtain⟨x,dx,lp,fr,as,rfl,hx,O,D,S,k⟩:=h
  refine⟨_,aq (bu (i:=4) JH.nd rfl (Or.inl rfl) (a_ GK hr rfl Z.m Z.F.kp Z.b .nil passes (aj (pv 1) (aj (pv 2) au))))
   (aq (b8 (pv 0) (pv 1) rfl) (aq (b8 (pv 0) (pv 2) rfl) (aq (b8 (pv 0) (pv 3) rfl)
   (aq (b8 (pv 0) (a_ GP hr rfl U.m U.F.kp U.b .nil passes (aj (pv 4) (aj (b7 bJ (by rfl) G.len (by decide +kernel) (aj (pv 3) au)) au))) rfl)
   (aq (b8 (pv 0) (a_ GA hr rfl Y.m Y.F.kp Y.b .nil passes (aj (pv 4) (aj (b7 bJ (by rfl) G.len (by decide +kernel) (aj (pv 3) au)) au))) rfl)
   (ao (b8 (pv 0) (sS cz (pv 4) (bw rfl G.ST) (aL _)) rfl))))))),?_⟩
  obtain⟨kd,hk,ht,hb⟩:=Px fr
  obtain⟨aa,ac⟩:=ht O
  have j:lp≠x:=fun z=>by rw[z,hx]at D;cases D
  refine⟨_,rfl,_,rfl,_,_,_,rfl,hk,?_⟩
  refine⟨_,rfl,_,rfl,x,FC,dx,[],rfl,hx,T.cl,T.nF,(by decide),?_⟩
  refine⟨_,rfl,_,rfl,x,FC,dx,_,rfl,ak,T.cl,T.nD,(by show 1<1000;decide),?_⟩
  refine⟨_,rfl,_,rfl,x,FC,dx,_,rfl,ak,T.cl,T.nP,(by show 2<1000;decide),?_⟩
  have L:∀{H1:Hp},H1 lp=some (.lst (as.map V.ref))→bV K H1 lp (as.map V.ref):=fun h=>bV.of h
  have el:(((as.map V.ref).length:Nat):Int)=((bj fr).length:Nat):=by rw[ap,S]
  refine⟨_,rfl,_,rfl,lp,_,rfl,.inl (L (by rw[az j,az j,az j];exact D)),_,_,_,rfl,(by rw[el];exact aa),_,rfl,x,FC,dx,_,rfl,ak,T.cl,T.nL,(by show 3<1000;decide),?_⟩
  refine⟨_,rfl,_,rfl,lp,_,rfl,.inl (L (by rw[az j,az j,az j,az j];exact D)),_,_,_,rfl,(by rw[el];exact ac),_,rfl,x,FC,dx,_,rfl,ak,T.cl,T.nA,(by show 4<1000;decide),?_⟩
  refine⟨_,rfl,rfl,_,rfl,x,FC,dx,_,rfl,ak,T.cl,T.nB,(by show 5<1000;decide),?_⟩
  refine k _ (fun y o q J=>?_) ?_
  ·rw[az J,az J,az J,az J,az J,az J]
   exact q
  ·rw[ak]
   have:decide (V.int (kd:Nat)=V.int 9)=fr.brk:=by rw[←hb,decide_eq_decide];exact⟨fun z=>V.int.inj z,fun z=>by rw[z]⟩
   rw[this]
   rfl
end
theorem Bb(b:Addr)(r:List Addr):((b::r).reverse.map V.ref)=r.reverse.map V.ref++[V.ref b]:=by rw[List.reverse_cons,ka];rfl
theorem Uz{xs:List V}{y:V}:(xs++[y])[(xs++[y]).length-1]?=some y:=by simp
noncomputable def uG:Exp→Nat
 | .un o _=>PM.nJ o
 | .bin o _ _=>PM.Fb o
 | .and _ _=>2
 | .or _ _=>1
 | .cond _ _ _=>0
 | _=>9
theorem Sd(G:Hp){e:Exp}{D:V}(h:pK G e D):lE (gW e) D (uG e:Nat):=by
 cases e with
 | num q=>exact .else_ (by show(0:Int)≠2;decide) (by show(0:Int)≠3;decide) (by show(0:Int)≠4;decide) (by show(0:Int)≠5;decide) (by show(0:Int)≠6;decide)
 | name n=>exact .else_ (by show(1:Int)≠2;decide) (by show(1:Int)≠3;decide) (by show(1:Int)≠4;decide) (by show(1:Int)≠5;decide) (by show(1:Int)≠6;decide)
 | un o a=>have h:D=.int (wz o):=h;subst h;cases o<;>exact .one rfl
 | bin o a b=>have h:D=.int (qW o):=h;subst h;cases o<;>exact .two rfl
 | and a b=>exact .and_
 | or a b=>exact .or_
 | cond c a b=>exact .if_
 | best g l=>exact lW (.inl rfl)
 | use n l=>exact lW (.inr (.inl rfl))
noncomputable def fX:Fr→Prop
 | .if0=>False
 | .if1 _=>False
 | _=>True
theorem ym:∀(l:List Exp)(e:Exp),tH (PM.app l (.cons e .nil))=l++[e]
 | [],e=>rfl
 | a::l,e=>by show a::tH (PM.app l _)=_;rw[ym l e];rfl
theorem uT{f:Fr}{e:Exp}(z:fX f)(D:f≠.grp)(G:Hp):gW (f.close e).1=bH f∧pK G (f.close e).1 (jA f)∧kids (f.close e).1=bj f++[e]∧uG (f.close e).1=(f.close e).2:=by
 cases f with
 | grp=>exact absurd rfl D
 | un o=>exact⟨rfl,rfl,rfl,rfl⟩
 | lst h l=>cases h with
  | best g=>exact⟨rfl,rfl,ym l e,rfl⟩
  | call n=>exact⟨rfl,rfl,ym l e,rfl⟩
 | if0=>exact z.elim
 | if1 c=>exact z.elim
 | if2 c a=>exact⟨rfl,rfl,rfl,rfl⟩
 | jn j a=>cases j with
  | bin o=>exact⟨rfl,rfl,rfl,rfl⟩
  | and=>exact⟨rfl,rfl,rfl,rfl⟩
  | or=>exact⟨rfl,rfl,rfl,rfl⟩
theorem Lf{C:Addr}{M:List Addr}{H1:Hp}{e:Exp}{D:V}{l:Addr}{as:List Addr}{R:Hp→Prop}{E:XK}(U:∀b∈M,∃o,H1 b=some o)(J:pK (off M H1) e D)(L:off M H1 l=some (.lst (as.map V.ref)))(O:Paired (cF C (off M H1)) (kids e) as)(j:as.length<2000)
  {x dx:Addr} (hx:H1 x=none) (F:H1 dx=none) (Y:dx≠x) (k:∀H2,rO M H1 H2→cF C (off M H2) e x→R H2):Al C [.ref x,.int (gW e),D,.ref l] (L2.upd (L2.upd H1 dx (.own x)) x (.ins C dx [])) (fun v H2=>v=.non∧R H2) E:=by
 have s1:=aA.Wb (C:=C) hx F
 have s0:=(aU M H1).trans s1
 refine⟨x,dx,l,e,D,as,rfl,ak,nR (fun b xs q=>s0 b _ q) J,s0 _ _ L,fH s0 O,j,fun H' sx G=>⟨rfl,?_⟩⟩
 have s2:aA H1 H':=fun b o q=>sx b o (s1 b o q) (aH q hx)
 have kp:=rO.of_same U s2
 have Z:x∉M:=fun z=>by
  obtain⟨o,S⟩:=U x z
  rw[hx]at S
  cases S
 exact k H' kp (.mk (gk G Z) (nR (fun b xs q=>kp.out b _ q) J) (kp.out _ _ L) (fH kp.out O))
noncomputable def Jm(C FC:Addr):Sp:=fun vs H Q _=>∃(G:Hp)(fa lp:Addr)(f:Fr),vs=[.ref fa]∧rP C FC G H f fa lp∧Q (.bl f.ends) H
noncomputable def Je(PC:Addr):Sp:=fun vs H Q _=>∃(x dx lt:Addr),vs=[.ref x,.ref lt]∧H x=some (.ins PC dx [])∧∀lf,H lf=none→lf≠x→∀H',bC x H H'→H' lf=some (.lst [])→H' x=some (.ins PC dx (ie lt 0 lf 0 .non 9))→Q .non H'
noncomputable def Aj(PC:Addr):Sp:=fun vs H Q _=>∃(p dx lt lf a:Addr)(i n:Nat)(ev:V)(k0:Int)(tas:List Addr),vs=[.ref p]∧H p=some (.ins PC dx (ie lt i lf n ev k0))∧H lt=some (.lst (tas.map V.ref))∧tas[i]?=some a∧Q (.ref a) (L2.upd H p (.ins PC dx (ie lt (i+1) lf n ev k0)))
noncomputable def t8(C FC PC:Addr):Sp:=fun vs H Q _=>∃(p:Addr)(M:List Addr)(ts:List TK)(i:Nat)(fs:List Fr)(md:Md)(e:Exp)(D:V)(l:Addr)(as:List Addr),vs=[.ref p,.int (gW e),D,.ref l]∧jK C FC PC H p M ts i fs md∧pK (off M H) e D∧off M H l=some (.lst (as.map V.ref))∧Paired (cF C (off M H)) (kids e) as∧as.length<2000 ∧
 ∀H',jK C FC PC H' p M ts i fs (.en e (uG e))→aA (off M H) (off M H')→Q .non H'
section
theorem Ug:aK ["self"] ["self"] (aD (wY 1)):=⟨rfl,rfl,rfl,by decide +kernel,rfl,by decide +kernel,by decide +kernel⟩
theorem R3{f C FC:Addr}{fd:FuncData}(F:fc K "ends_with_part" "Frame.ends_with_part" (wY 1) f fd)(T:gb K FC)(N:CN K mg)(G:CG K mg):aF P w K mg base (aW P w) 1 f fd ["self"] (Jm C FC):=by
 refine d9 F Ug (fun vs H Q E h=>?_) (fun cdv A outer s H vs Q E Y h=>?_)
 ·obtain⟨_,_,_,_,rfl,_⟩:=h
  rfl
 ·obtain⟨Z,fa,lp,fr,rfl,⟨dx,as,h1,h2,O⟩,k⟩:=h
  refine⟨_,aq (aX (aG cz (aJ (pv 0) rfl) (bw rfl N.IF) (aL _)) (ao (aV (sS cz (b7 bJ (by rfl) G.len (by decide +kernel) (aj (aJ (pv 0) rfl) au)) aB (aL _)))) aP)
   (ao (aV (Rx (aJ (pv 0) rfl)))),?_⟩
  refine⟨_,rfl,fa,FC,dx,_,_,rfl,h1,T.cl,T.nF,rfl,rfl,_,rfl,?_⟩
  have S:(as.map V.ref).length=(bj fr).length:=by rw[ap,←Paired.length O]
  have L:bH fr=6→(decide (V.int (((as.map V.ref).length:Nat):Int)=V.int 2))=fr.ends:=fun h=>by
   rw[S]
   cases fr with
   | if0=>rfl
   | if1 c=>rfl
   | if2 c a=>rfl
   | lst U l=>cases U<;>cases h
   | jn j a=>cases j<;>cases h
   | _=>cases h
  have J:bH fr≠6→(!fr.brk)=fr.ends:=fun h=>by
   cases fr with
   | un o=>cases o<;>rfl
   | if0=>exact absurd rfl h
   | if1 c=>exact absurd rfl h
   | if2 c a=>exact absurd rfl h
   | _=>rfl
  by_cases D:bH fr=6
  ·rw[i8 (by rw[D])]
   refine bh ⟨_,rfl,fa,FC,dx,_,_,rfl,h1,T.cl,T.nP,rfl,lp,_,rfl,.inl (bV.of h2),rfl,?_⟩
   rw[←L D]at k
   exact k
  ·rw[j4 (fun z=>D (V.int.inj z))]
   refine aQ ⟨_,rfl,fa,FC,dx,_,_,rfl,h1,T.cl,T.nB,rfl,_,rfl,?_⟩
   rw[←J D]at k
   exact k
theorem Rn:aK ["self","tokens"] ["self","tokens"] (aD (aY 0)):=⟨rfl,rfl,rfl,by decide +kernel,rfl,by decide +kernel,by decide +kernel⟩
theorem Ow{f PC:Addr}{fd:FuncData}(F:fc K "__init__" "Parser.__init__" (aY 0) f fd)(T:iY K PC)(G:CG K mg):aF P w K mg base (aW P w) 1 f fd ["self","tokens"] (Je PC):=by
 refine d9 F Rn (fun vs H Q E h=>?_) (fun cdv A outer s H vs Q E O h=>?_)
 ·obtain⟨_,_,_,rfl,_⟩:=h
  rfl
 ·obtain⟨x,dx,lt,rfl,hx,k⟩:=h
  refine⟨_,aq (b8 (pv 0) (pv 1) rfl) (aq (b8 (pv 0) aB rfl) (aq (b8 (pv 0) (bT au) rfl) (aq (b8 (pv 0) aB rfl) (aq (b8 (pv 0) Bk rfl) (ao (b8 (pv 0) (bw rfl G.ST) rfl)))))),?_⟩
  refine⟨_,rfl,_,rfl,x,PC,dx,[],rfl,hx,T.cl,T.nT,(by decide),?_⟩
  refine⟨_,rfl,x,PC,dx,_,rfl,ak,T.cl,T.nA,(by show 1<1000;decide),?_⟩
  refine⟨(by show 0≤sizeLine;decide),fun lf D=>?_⟩
  have j:lf≠x:=fun z=>by rw[z,ak]at D;cases D
  rw[az j,az j]at D
  refine⟨_,rfl,x,PC,dx,_,rfl,(by rw[az (Ne.symm j)];exact ak),T.cl,T.nF,(by show 2<1000;decide),?_⟩
  refine⟨_,rfl,x,PC,dx,_,rfl,ak,T.cl,T.nN,(by show 3<1000;decide),?_⟩
  refine⟨_,rfl,x,PC,dx,_,rfl,ak,T.cl,T.nE,(by show 4<1000;decide),?_⟩
  refine⟨_,rfl,x,PC,dx,_,rfl,ak,T.cl,T.nK,(by show 5<1000;decide),?_⟩
  refine k lf D j _ (fun y o q J=>?_) (by rw[az j,az j,az j,az j];exact ak) ak
  have L:y≠lf:=fun z=>by rw[z,D]at q;cases q
  rw[az J,az J,az J,az J,az L,az J,az J]
  exact q
theorem Jy:aK ["self","token"] ["self"] (aD (aY 1)):=⟨rfl,rfl,rfl,by decide +kernel,rfl,by decide +kernel,by decide +kernel⟩
theorem Ec{f PC:Addr}{fd:FuncData}(F:fc K "take" "Parser.take" (aY 1) f fd)(T:iY K PC):aF P w K mg base (aW P w) 1 f fd ["self"] (Aj PC):=by
 refine d9 F Jy (fun vs H Q E h=>?_) (fun cdv A outer s H vs Q E G h=>?_)
 ·obtain⟨_,_,_,_,_,_,_,_,_,_,rfl,_⟩:=h
  rfl
 ·obtain⟨p,dx,lt,lf,a,i,n,ev,k0,tas,rfl,j,z,D,k⟩:=h
  refine⟨_,aq (bu (i:=1) Jy.nd rfl (Or.inl rfl) (bZ dh (aJ (pv 0) rfl) (aJ (pv 0) rfl) (fun _ _=>rfl))) (aq (cH (pv 0) aB gC) (ao (aV (pv 1)))),?_⟩
  refine⟨_,rfl,p,PC,dx,_,_,rfl,j,T.cl,T.nT,rfl,_,rfl,p,PC,dx,_,_,rfl,j,T.cl,T.nA,rfl,lt,_,_,V.ref a,rfl,rfl,bV.of z,jw (by rw[iA,D];rfl),?_⟩
  refine⟨_,rfl,p,PC,dx,_,_,rfl,j,T.cl,T.nA,rfl,_,_,rfl,rfl,dx,_,j,(by show 6<1000;decide),?_⟩
  exact⟨_,rfl,k⟩
theorem Rp:aK ["self","form","detail","parts"] ["self","form","detail","parts"] (aD (aY 13)):=⟨rfl,rfl,rfl,by decide +kernel,rfl,by decide +kernel,by decide +kernel⟩
theorem O3{f C FC PC fN fK:Addr}{fd dN dK:FuncData}(F:fc K "end_with" "Parser.end_with" (aY 13) f fd)(T:iY K PC)(N:CN K mg)(G:Mk K C fN)(S:aF P w K mg base (aW P w) 1 fN dN ["self","form","detail","parts"] (Al C))(z:Binds K dN ["self","form","detail","parts"] [])(O:mg "Node"=some (.ref C))(Y:Fn K mg "kind_of" qC fK dK ["form","detail"]):aF P w K mg base (aW P w) 3 f fd ["self","form","detail","parts"] (t8 C FC PC):=by
 have GK:aF P w K mg base (aW P w) 1 fK dK ["form","detail"] t7:=sU Y N
 refine d9 F Rp (fun vs H Q E h=>?_) (fun cdv A outer s H vs Q E hr h=>?_)
 ·obtain⟨_,_,_,_,_,_,_,_,_,_,rfl,_⟩:=h
  rfl
 ·obtain⟨p,M,ts,i,fs,md,e,D,l,as,rfl,⟨dx,lt,lf,ev,k0,tas,fas,ads,Dp⟩,hD,hl,hp,L,k⟩:=h
  have aa:bG 1 _:=hr.mono (by omega)
  refine⟨_,aq (b8 (pv 0) (sO G S hr rfl O z .nil passes (aj (pv 1) (aj (pv 2) (aj (pv 3) au)))) rfl)
   (ao (b8 (pv 0) (a_ GK aa rfl Y.m Y.F.kp Y.b .nil passes (aj (pv 1) (aj (pv 2) au))) rfl)),?_⟩
  refine⟨_,rfl,_,rfl,_,rfl,?_⟩
  intro x ae hx J j
  refine Lf Dp.there hD hl hp L hx J j fun H1 kp hn=>?_
  have D1:=Dp.keep kp
  refine⟨_,rfl,p,PC,dx,_,rfl,D1.obj,T.cl,T.nE,(by show 6<1000;decide),?_⟩
  obtain⟨D2,ac⟩:=D1.set (i':=i) (md':=.en e k0.toNat) (ev':=.ref x) (k':=k0.toNat) ⟨⟨x,rfl,hn⟩,rfl⟩
  refine⟨_,rfl,_,rfl,_,_,_,rfl,Sd (off M H) hD,_,rfl,p,PC,dx,_,rfl,ak,T.cl,T.nK,(by show 6<1000;decide),?_⟩
  obtain⟨D3,Z⟩:=D1.set (i':=i) (md':=.en e (uG e)) (ev':=.ref x) (k':=(uG e:Nat)) ⟨⟨x,rfl,hn⟩,rfl⟩
  have eu:L2.upd (L2.upd H1 p (.ins PC dx (ie lt i lf (nest fs) (.ref x) k0))) p (.ins PC dx (ie lt i lf (nest fs) (.ref x) (uG e:Nat)))=L2.upd H1 p (.ins PC dx (ie lt i lf (nest fs) (.ref x) (uG e:Nat))):=by
   funext b
   by_cases U:b=p
   ·subst U;rw[ak,ak]
   ·rw[az U,az U,az U]
  have:=k _ ⟨dx,lt,lf,_,_,tas,fas,ads,D3⟩ (by rw[Z];exact kp.out)
  rw[←eu]at this
  exact this
end
theorem Mh{f:Fr}(h:f≠.grp):bH f≠9:=by
 cases f with
 | grp=>exact absurd rfl h
 | lst z l=>cases z<;>simp[bH]
 | jn j a=>cases j<;>simp[bH]
 | _=>simp[bH]
noncomputable def jc(C FC PC Ce:Addr):Sp:=fun vs H Q E=>∃(p lp:Addr)(M:List Addr)(ts:List TK)(i:Nat)(fs:List Fr)(md:Md)(f:Fr)(as:List Addr)(H0:Hp),vs=[.ref p,.int (bH f),jA f,.ref lp]∧jK C FC PC H0 p M ts i fs md∧H0 lp=none∧H=L2.upd H0 lp (.lst (as.map V.ref))∧Paired (cF C (off M H0)) (bj f) as∧uD f∧fs.length≤3000 ∧
 (nest fs+f.around≤32→∀j H',jK C FC PC H' p j ts i (f::fs) .beg→aA (off M H0) (off j H')→Q .non H')∧(32<nest fs+f.around→bz Ce (-6) (off M H0) E)
noncomputable def t_(C FC PC:Addr):Sp:=fun vs H Q _=>∃(p:Addr)(M:List Addr)(ts:List TK)(i:Nat)(f:Fr)(r:List Fr)(e:Exp)(k:Nat),vs=[.ref p]∧jK C FC PC H p M ts i (f::r) (.en e k)∧fX f∧(bj f).length+1<2000 ∧
 ∀j H',jK C FC PC H' p j ts i r (.en (f.close e).1 (f.close e).2)→aA (off M H) (off j H')→Q .non H'
section
theorem Jz:aK ["self","form","detail","parts","frame"] ["self","form","detail","parts"] (aD (aY 3)):=⟨rfl,rfl,rfl,by decide +kernel,rfl,by decide +kernel,by decide +kernel⟩
theorem Ov{f C FC PC Ce fI fF:Addr}{fd dI dF:FuncData}(F:fc K "push" "Parser.push" (aY 3) f fd)(T:iY K PC)(TF:gb K FC)(G:CG K mg)(X:XC P w K mg base "NoExpression" Ce fI dI (-6))(aS:Mk K FC fF)(FG:aF P w K mg base (aW P w) 2 fF dF ["self","form","detail","parts"] (Aq FC))(FB:Binds K dF ["self","form","detail","parts"] [])(a3:mg "Frame"=some (.ref FC)):aF P w K mg base (aW P w) 4 f fd ["self","form","detail","parts"] (jc C FC PC Ce):=by
 refine d9 F Jz (fun vs H Q E h=>?_) (fun cdv A outer s H vs Q E hr h=>?_)
 ·obtain⟨_,_,_,_,_,_,_,_,_,_,rfl,_⟩:=h
  rfl
 ·obtain⟨p,lp,M,ts,i,fs,md,fr,as,H0,rfl,⟨dx,lt,lf,ev,k0,tas,fas,ads,D⟩,Z,rfl,Y,aC,ai,k,kr⟩:=h
  have a0:bG 3 _:=hr.mono (by omega)
  refine⟨_,aq (bu (i:=4) Jz.nd rfl (Or.inl rfl) (sO aS FG a0 rfl a3 FB .nil passes (aj (pv 1) (aj (pv 2) (aj (pv 3) au)))))
   (aq (cH (pv 0) (aJ (pv 4) rfl) gC)
   (aq (aX (aG qF (aJ (pv 0) rfl) (bw rfl G.DE) (aL _)) (ao (bO X.made X.cls X.ok hr rfl X.m X.b rfl bF)) aP)
   (aq (aM (gB PySem.F.plainAttrs_list PySem.F.slot_list_append PySem.F.type_list_append gq (aJ (pv 0) rfl) (aj (pv 4) au)))
   (ao (b8 (pv 0) Bk rfl))))),?_⟩
  refine⟨_,rfl,_,rfl,_,rfl,?_⟩
  intro x L hx S a4
  have O:x≠lp:=fun z=>by rw[z,ak]at hx;cases hx
  have af:L≠lp:=fun z=>by rw[z,ak]at S;cases S
  have ag:H0 x=none:=by rw[az O]at hx;exact hx
  have ah:H0 L=none:=by rw[az af]at S;exact S
  refine⟨x,L,lp,fr,as,rfl,ak,aC,?_,(Paired.length Y).symm,fun H2 sx aw=>⟨rfl,?_⟩⟩
  ·rw[az (Ne.symm O),az (Ne.symm af),ak]
  have aa:aA H0 H2:=fun b o q=>by
   have b1:=aH q ag
   exact sx b o (by rw[az b1,az (aH q ah),az (aH q Z)];exact q) b1
  have ay:H2 lp=some (.lst (as.map V.ref)):=sx lp _ (by rw[az (Ne.symm O),az (Ne.symm af),ak]) (Ne.symm O)
  have kp:=rO.of_same D.there aa
  have D2:=D.keep kp
  obtain⟨m1,m2,n1,n2⟩:=D2.pM
  have xM:x∉M:=fun z=>by obtain⟨o,ho⟩:=D.there x z;rw[ag]at ho;cases ho
  have lM:lp∉M:=fun z=>by obtain⟨o,ho⟩:=D.there lp z;rw[Z]at ho;cases ho
  have ar:p≠x:=fun z=>xM (by rw[←z];exact m1)
  have aE:lf≠x:=fun z=>xM (by rw[←z];exact m2)
  have av:p≠lp:=fun z=>lM (by rw[←z];exact m1)
  have ax:lf≠lp:=fun z=>lM (by rw[←z];exact m2)
  refine⟨_,rfl,p,PC,dx,_,_,rfl,D2.obj,T.cl,T.nN,rfl,_,rfl,x,FC,L,_,_,rfl,aw,TF.cl,TF.nA,rfl,_,_,rfl,rfl,dx,_,D2.obj,(by show 6<1000;decide),?_⟩
  rw[show((nest fs:Nat):Int)+(fr.around:Nat)=((nest fs+fr.around:Nat):Int) by omega]
  generalize al:L2.upd H2 p _=H3
  have ac:H3 p=some (.ins PC dx (ie lt i lf (nest fs+fr.around) ev k0)):=by rw[←al];exact ak
  have h3:∀b,b≠p→H3 b=H2 b:=fun b j=>by rw[←al];exact az j
  refine⟨_,rfl,p,PC,dx,_,_,rfl,ac,T.cl,T.nN,rfl,_,_,rfl,rfl,_,rfl,?_⟩
  by_cases hn:nest fs+fr.around≤32
  ·rw[j4 (by omega)]
   have U:H3 lf=some (.lst (fas.reverse.map V.ref)):=by rw[h3 lf (Ne.symm n1)];exact D2.fl
   refine aQ ⟨_,rfl,p,PC,dx,_,_,rfl,ac,T.cl,T.nF,rfl,.inl ⟨rfl,_,bV.of U⟩,_,rfl,lf,_,_,rfl,rfl,U,?_,?_⟩
   ·rw[ap,List.length_reverse,D.frs.len]
    exact iN ai (by decide)
   have aI:(L2.upd H3 lf (.lst (fas.reverse.map V.ref++[V.ref x]))) p=some (.ins PC dx (ie lt i lf (nest fs+fr.around) ev k0)):=by rw[az n1];exact ac
   refine⟨_,rfl,p,PC,dx,_,rfl,aI,T.cl,T.nE,(by show 6<1000;decide),?_⟩
   generalize ae:L2.upd (L2.upd H3 lf (.lst (fas.reverse.map V.ref++[V.ref x]))) p _=H5
   have h5:∀b,b≠p→b≠lf→H5 b=H2 b:=fun b j aT=>by rw[←ae,az j,az aT,h3 b j]
   have out:aA (off M H0) (off (p::lf::x::lp::ads) H5):=fun b o q=>by
    have j:=oY q
    have q0:=aU _ _ _ _ q
    have bp:b≠p:=fun z=>j (by rw[z];exact m1)
    have bf:b≠lf:=fun z=>j (by rw[z];exact m2)
    refine gk (by rw[h5 b bp bf];exact aa _ _ q0) ?_
    rw[D.mem]at j
    simp only[hU,not_or]at j ⊢
    exact⟨bp,bf,aH q0 ag,aH q0 Z,j.2.2⟩
   refine k hn (p::lf::x::lp::ads) H5 ⟨dx,lt,lf,.non,k0,tas,x::fas,x::lp::ads,rfl,?_,?_,out _ _ D.tl,iD D.tks out,?_,.cons ⟨L,as,?_,?_,fH out Y⟩ (D.frs.mono out fun b j=>?_),rfl⟩ out
   ·have J:=D.nd
    rw[D.mem]at J xM lM
    simp only[List.nodup_cons,hU,not_or]at J xM lM ⊢
    exact⟨⟨J.1.1,ar,av,J.1.2⟩,⟨aE,ax,J.2.1⟩,⟨O,xM.2.2⟩,lM.2.2,J.2.2⟩
   ·rw[←ae,ak,show nest (fr::fs)=nest fs+fr.around by show fr.around+nest fs=_;omega]
    rfl
   ·rw[←ae,az (Ne.symm n1),ak,Bb]
   ·rw[h5 x (Ne.symm ar) (Ne.symm aE)];exact aw
   ·rw[h5 lp (Ne.symm av) (Ne.symm ax)];exact ay
   ·rw[h5 b (n2 b j).1 (n2 b j).2,kp.ins b (by rw[D.mem];simp[j])]
  ·rw[i8 (by omega)]
   refine bh ((kr (by omega)).mono fun b o q=>?_).go
   have j:=oY q
   rw[h3 b (fun z=>j (by rw[z];exact m1))]
   exact aa _ _ (aU _ _ _ _ q)
theorem JL:aK ["self","frame"] ["self"] (aD (aY 12)):=⟨rfl,rfl,rfl,by decide +kernel,rfl,by decide +kernel,by decide +kernel⟩
theorem O5{f C FC PC fW:Addr}{fd dW:FuncData}(F:fc K "end_frame" "Parser.end_frame" (aY 12) f fd)(T:iY K PC)(U:gb K FC)(G:CG K mg)(FW:Fm K PC "end_with" "Parser.end_with" (aY 13) fW dW ["self","form","detail","parts"])(GW:aF P w K mg base (aW P w) 3 fW dW ["self","form","detail","parts"] (t8 C FC PC)):aF P w K mg base (aW P w) 4 f fd ["self"] (t_ C FC PC):=by
 refine d9 F JL (fun vs H Q E h=>?_) (fun cdv A outer s H vs Q E hr h=>?_)
 ·obtain⟨_,_,_,_,_,_,_,_,rfl,_⟩:=h
  rfl
 ·obtain⟨p,M,ts,i,fr,r,e,kd,rfl,⟨dx,lt,lf,ev,k0,tas,al,ai,D⟩,aE,a7,k⟩:=h
  refine⟨_,aq (bu (i:=1) JL.nd rfl (Or.inl rfl) (Bl PySem.F.plainAttrs_list PySem.F.slot_list_pop PySem.F.type_list_pop R_ (aJ (pv 0) rfl)))
   (aq (cH (pv 0) (aJ (pv 1) rfl) Su)
   (ao (aX (aG cz (aJ (pv 1) rfl) (bw rfl G.GR) (aL _)) (ao (b8 (pv 0) (bw rfl G.ST) rfl))
    (ao (aM (bc (pv 0) T.cl FW.me GW hr FW.b .nil passes (aj (aJ (pv 1) rfl) (aj (aJ (pv 1) rfl) (aj (dM Br (aJ (pv 1) rfl) (bT (aj (aJ (pv 0) rfl) au))) au))))))))),?_⟩
  obtain⟨fas,fa,lp,ads,rfl,rfl,aT,ax⟩:∃fas fa lp ads,al=fa::fas∧ai=fa::lp::ads∧rP C FC (off M H) H fr fa lp∧g8 C FC (off M H) H r fas ads:=by
   cases D.frs with
   | cons a b=>exact⟨_,_,_,_,rfl,rfl,a,b⟩
  obtain⟨m1,m2,n1,n2⟩:=D.pM
  obtain⟨j,as,aw,aC,O⟩:=id aT
  have ac:=D.fl
  rw[Bb]at ac
  refine⟨_,rfl,p,PC,dx,_,_,rfl,D.obj,T.cl,T.nF,rfl,.inl ⟨rfl,_,bV.of ac⟩,lf,_,_,rfl,rfl,ac,Uz,?_⟩
  rw[List.dropLast_concat]
  have ag:fa≠p∧fa≠lf:=n2 fa (by simp)
  have av:lp≠p∧lp≠lf:=n2 lp (by simp)
  have ay:(L2.upd H lf (.lst (fas.reverse.map V.ref))) p=some (.ins PC dx (ie lt i lf (nest (fr::r)) ev k0)):=by rw[az n1];exact D.obj
  have a6:(L2.upd H lf (.lst (fas.reverse.map V.ref))) fa=some (.ins FC j (Sw fr lp)):=by rw[az ag.2];exact aw
  refine⟨_,rfl,p,PC,dx,_,_,rfl,ay,T.cl,T.nN,rfl,_,rfl,fa,FC,j,_,_,rfl,a6,U.cl,U.nA,rfl,_,_,rfl,rfl,dx,_,ay,(by show 6<1000;decide),?_⟩
  rw[show((nest (fr::r):Nat):Int)-(fr.around:Nat)=(nest r:Nat) by show((fr.around+nest r:Nat):Int)-_=_;omega]
  generalize aa:L2.upd (L2.upd H lf (.lst (fas.reverse.map V.ref))) p _=H2
  have h2:∀b,b≠p→b≠lf→H2 b=H b:=fun b S a0=>by rw[←aa,az S,az a0]
  have out:aA (off M H) (off (p::lf::ads) H2):=fun b o q=>by
   have S:=oY q
   have bp:b≠p:=fun z=>S (by rw[z];exact m1)
   have bf:b≠lf:=fun z=>S (by rw[z];exact m2)
   refine gk (by rw[h2 b bp bf];exact aU _ _ _ _ q) ?_
   rw[D.mem]at S
   simp only[hU,not_or]at S ⊢
   exact⟨bp,bf,S.2.2.2.2⟩
  have Z:jz C FC PC H2 p (p::lf::ads) ts i r (.en e kd) dx lt lf ev k0 tas fas ads:=by
   refine⟨rfl,?_,?_,out _ _ D.tl,iD D.tks out,?_,ax.mono out fun b S=>h2 b (n2 b (by simp[S])).1 (n2 b (by simp[S])).2,D.md.same out⟩
   ·have J:=D.nd
    rw[D.mem]at J
    simp only[List.nodup_cons,hU,not_or]at J ⊢
    exact⟨⟨J.1.1,J.1.2.2.2⟩,J.2.1.2.2,J.2.2.2.2⟩
   ·rw[←aa];exact ak
   ·rw[←aa,az (Ne.symm n1),ak]
  have Y:H2 fa=some (.ins FC j (Sw fr lp)):=by rw[h2 fa ag.1 ag.2];exact aw
  refine⟨_,rfl,fa,FC,j,_,_,rfl,Y,U.cl,U.nF,rfl,rfl,_,rfl,?_⟩
  by_cases hg:fr=.grp
  ·subst hg
   rw[show decide (V.int (bH .grp)=V.int 9)=true from rfl]
   refine bh ⟨_,rfl,p,PC,dx,_,rfl,Z.obj,T.cl,T.nK,(by show 6<1000;decide),?_⟩
   obtain⟨⟨a,af,ae⟩,a5⟩:=Z.md
   obtain⟨D3,aS⟩:=Z.set (i':=i) (md':=.en e 9) (ev':=ev) (k':=9) ⟨⟨a,af,ae⟩,rfl⟩
   exact k (p::lf::ads) (L2.upd H2 p (.ins PC dx (ie lt i lf (nest r) ev 9))) ⟨dx,lt,lf,ev,9,tas,fas,ads,D3⟩ (by rw[aS];exact out)
  ·have a4:bH fr≠9:=Mh hg
   rw[j4 (fun z=>a4 (V.int.inj z))]
   obtain⟨⟨a,af,ae⟩,a5⟩:=Z.md
   have ar:H2 lp=some (.lst (as.map V.ref)):=by rw[h2 lp av.1 av.2];exact aC
   refine aQ ⟨_,rfl,p,dx,_,rfl,Z.obj,rfl,_,rfl,fa,FC,j,_,_,rfl,Y,U.cl,U.nF,rfl,_,rfl,fa,FC,j,_,_,rfl,Y,U.cl,U.nD,rfl,_,rfl,fa,FC,j,_,_,rfl,Y,U.cl,U.nP,rfl,_,rfl,p,PC,dx,_,_,rfl,Z.obj,T.cl,T.nE,rfl,(by show 1≤sizeLine;decide),fun q hq=>?_⟩
   subst af
   have s1:aA H2 (L2.upd H2 q (.lst [V.ref a])):=aA.upd hq
   refine⟨lp,q,_,_,rfl,rfl,s1 _ _ ar,ak,?_,fun L hL=>?_⟩
   ·rw[ap,←Paired.length O]
    exact ip (show(bj fr).length+1≤2000 by omega) (by decide)
   have s2:=s1.trans (aA.upd (o:=.lst (as.map V.ref++[V.ref a])) hL)
   have kp:=rO.of_same Z.there s2
   have D3:=Z.keep kp
   obtain⟨c1,c2,c3,c4⟩:=uT (e:=e) aE hg (off (p::lf::ads) (L2.upd (L2.upd H2 q (.lst [V.ref a])) L (.lst (as.map V.ref++[V.ref a]))))
   have a3:L∉(p::lf::ads):=fun z=>by
    obtain⟨o,ho⟩:=Z.there L z
    rw[s1 _ _ ho]at hL
    cases hL
   refine⟨p,p::lf::ads,ts,i,r,.en e kd,(fr.close e).1,jA fr,L,as++[a],?_,⟨dx,lt,lf,_,_,tas,fas,ads,D3⟩,c2,gk (by rw[ak,ka];rfl) a3,?_,?_,fun H' ah aI=>?_⟩
   ·rw[c1];rfl
   ·rw[c3]
    exact cu (fH (out.trans kp.out) O) (ae.same kp.out)
   ·rw[gc,←Paired.length O]
    show _+1<2000
    omega
   ·rw[c4]at ah
    exact k _ _ ah ((out.trans kp.out).trans aI)
end
end SB
end
section
namespace PM
noncomputable def nq(j:Jn)(fs:List Fr)(e:Vbdeaa.Exp)(k:Nat):Option (List Fr×Md):=if(fj j.kind fs e k).2.2<ig j.kind then none else push (fj j.kind fs e k).1 (.jn j (fj j.kind fs e k).2.1)
end PM
namespace SB
open PySem PySem.Spec PyProof.Rows L2 XL
open Vbdeaa (Text Exp Exps Un Bin Ins)
open PM (Fr Jn Hd Md nest cD fj)
variable {P:Program} {w:World} {K:PySem.W.Frag} {mg:Str→Option Value} {base:Heap}
theorem lC{α:Type}{xs:List α}{x:α}:qX (xs++[x]) (-1)=some x:=by
 unfold qX
 have e:M_ (xs++[x]).length (-1)=some xs.length:=by
  unfold M_
  rw[i9 (by decide)]
  rw[gc,cr,iq]
  first
  | rw[jI (by omega)];congr 1;omega
  | (simp only;split<;>first | omega | (congr 1;omega))
 rw[e]
 show(xs++[x])[xs.length]?=some x
 simp
noncomputable def u_(f:Fr):Nat:=((bj f).map Vbdeam.size).sum+1
noncomputable def jm:List Fr→Nat
 | []=>0
 | f::r=>u_ f+jm r
theorem fQ(f:Fr)(r:List Fr):jm (f::r)=u_ f+jm r:=rfl
theorem Af(e:Exp):1≤Vbdeam.size e:=by cases e<;>simp[Vbdeam.size]
theorem Nt(l:List Exp):l.length≤(l.map Vbdeam.size).sum:=by
 induction l with
 | nil=>simp
 | cons e r j=>have:=Af e;simp only[i4,List.sum_cons,cr];omega
theorem Ek(fs:List Fr):fs.length≤jm fs:=by
 induction fs with
 | nil=>simp[jm]
 | cons f r j=>unfold jm u_;rw[cr];omega
theorem u5:∀(l:List Exp)(e:Exp),Vbdeam.sizeAll (PM.app l (.cons e .nil))=(l.map Vbdeam.size).sum+Vbdeam.size e
 | [],e=>by simp[PM.app,Vbdeam.sizeAll]
 | a::l,e=>by simp only[PM.app,Vbdeam.sizeAll,u5 l e,i4,List.sum_cons];omega
theorem gD{f:Fr}{e:Exp}(h:fX f):Vbdeam.size (f.close e).1≤u_ f+Vbdeam.size e:=by
 cases f with
 | grp=>show Vbdeam.size e≤_;unfold u_;omega
 | un o=>show Vbdeam.size e+1≤_;unfold u_;simp only[bj,List.map_nil,List.sum_nil];omega
 | lst z l=>cases z with
  | best g=>show Vbdeam.sizeAll (PM.app l (.cons e .nil))+1≤_;rw[u5];unfold u_;simp only[bj];omega
  | call n=>show Vbdeam.sizeAll (PM.app l (.cons e .nil))+1≤_;rw[u5];unfold u_;simp only[bj];omega
 | if0=>exact h.elim
 | if1 c=>exact h.elim
 | if2 c a=>show Vbdeam.size c+Vbdeam.size a+Vbdeam.size e+1≤_;unfold u_;simp only[bj,i4,List.sum_cons,List.map_nil,List.sum_nil];omega
 | jn j a=>cases j with
  | bin o=>show Vbdeam.size a+Vbdeam.size e+1≤_;unfold u_;simp only[bj,i4,List.sum_cons,List.map_nil,List.sum_nil];omega
  | and=>show Vbdeam.size a+Vbdeam.size e+1≤_;unfold u_;simp only[bj,i4,List.sum_cons,List.map_nil,List.sum_nil];omega
  | or=>show Vbdeam.size a+Vbdeam.size e+1≤_;unfold u_;simp only[bj,i4,List.sum_cons,List.map_nil,List.sum_nil];omega
theorem iJ{f:Fr}{r:List Fr}{e:Exp}(h:jm (f::r)+Vbdeam.size e≤2000):(bj f).length+1<2000:=by
 have:=Nt (bj f)
 have:=Af e
 unfold jm u_ at h
 omega
theorem jo{f:Fr}(h:f.ends=true):fX f:=by
 cases f with
 | if0=>cases h
 | if1 c=>cases h
 | _=>exact trivial
theorem gU{f:Fr}{k:Nat}(h:k<f.place):fX f:=by
 cases f with
 | if0=>exact absurd h (Nat.not_lt_zero _)
 | if1 c=>exact absurd h (Nat.not_lt_zero _)
 | _=>exact trivial
theorem Kl{fs:List Fr}{e:Exp}{c:Nat}:jm (cD fs e c).1+Vbdeam.size (cD fs e c).2.1≤jm fs+Vbdeam.size e:=by
 induction fs generalizing e c with
 | nil=>exact f' _
 | cons f r j =>
  rw[cD]
  split
  ·rename_i h
   refine ip j ?_
   have:=gD (e:=e) (jo h)
   rw[fQ]
   omega
  ·exact f' _
theorem Rt{k:Nat}{fs:List Fr}{e:Exp}{c:Nat}:jm (fj k fs e c).1+Vbdeam.size (fj k fs e c).2.1≤jm fs+Vbdeam.size e:=by
 induction fs generalizing e c with
 | nil=>exact f' _
 | cons f r j =>
  rw[fj]
  split
  ·rename_i h
   refine ip j ?_
   have:=gD (e:=e) (gU h)
   rw[fQ]
   omega
  ·exact f' _
noncomputable def Av(C FC PC:Addr):Sp:=fun vs H Q _=>∃(p:Addr)(M:List Addr)(ts:List TK)(i:Nat)(fs:List Fr)(e:Exp)(k:Nat),vs=[.ref p]∧jK C FC PC H p M ts i fs (.en e k)∧jm fs+Vbdeam.size e≤2000 ∧
 ∀j H',jK C FC PC H' p j ts i (cD fs e k).1 (.en (cD fs e k).2.1 (cD fs e k).2.2)→aA (off M H) (off j H')→Q .non H'
noncomputable def Tn(j:Jn):V:=jA (.jn j (.num (0,1)))
noncomputable def Tj(j:Jn):Int:=bH (.jn j (.num (0,1)))
noncomputable def Ao(C FC PC Ce:Addr):Sp:=fun vs H Q E=>∃(p:Addr)(M:List Addr)(ts:List TK)(i:Nat)(fs:List Fr)(e:Exp)(k:Nat)(j:Jn),vs=[.ref p,.int (Tj j),Tn j]∧jK C FC PC H p M ts i fs (.en e k)∧jm fs+Vbdeam.size e≤2000 ∧
 (∀fs' D,PM.nq j fs e k=some (fs',D)→∀z H',jK C FC PC H' p z ts i fs' D→aA (off M H) (off z H')→Q .non H')∧(PM.nq j fs e k=none→bz Ce (-6) (off M H) E)
theorem PP(j:Jn)(a:Exp):bH (.jn j a)=Tj j∧jA (.jn j a)=Tn j:=by cases j<;>exact⟨rfl,rfl⟩
theorem PN(j:Jn):lE (Tj j) (Tn j) (j.kind:Nat)∧Qw oh 0 (j.kind:Nat) 0 (PM.ig j.kind:Nat):=by
 cases j with
 | and=>exact⟨.and_,.inr ⟨by decide,_,rfl,rfl⟩⟩
 | or=>exact⟨.or_,.inr ⟨by decide,_,rfl,rfl⟩⟩
 | bin o=>cases o<;>exact⟨.two rfl,.inr ⟨by decide,_,rfl,rfl⟩⟩
section
theorem Rq:aK ["self"] ["self"] (aD (aY 11)):=⟨rfl,rfl,rfl,by decide +kernel,rfl,by decide +kernel,by decide +kernel⟩
theorem O4{f C FC PC fE fW:Addr}{fd dE dW:FuncData}(F:fc K "end_parts" "Parser.end_parts" (aY 11) f fd)(T:iY K PC)(TF:gb K FC)(FE:Fm K PC "end_frame" "Parser.end_frame" (aY 12) fE dE ["self"])(GE:aF P w K mg base (aW P w) 4 fE dE ["self"] (t_ C FC PC))
  (FW:Fm K FC "ends_with_part" "Frame.ends_with_part" (wY 1) fW dW ["self"]) (GW:aF P w K mg base (aW P w) 1 fW dW ["self"] (Jm C FC)):aF P w K mg base (aW P w) 5 f fd ["self"] (Av C FC PC):=by
 refine d9 F Rq (fun vs H Q E h=>?_) (fun cdv A outer s H vs Q E hr h=>?_)
 ·obtain⟨_,_,_,_,_,_,_,rfl,_⟩:=h
  rfl
 ·obtain⟨p,M,ts,i,fs,e,kd,rfl,aa,hw,k⟩:=h
  have af:bG 1 _:=hr.mono (by omega)
  refine⟨_,ao (gA rC (PW.pt (jW (gw (aJ (pv 0) rfl) (fun _=>rfl)) (gQ (eG (bQ (bZ dh (aJ (pv 0) rfl) (eN cV aB) (fun _ _=>rfl)) TF.cl FW.me GW af FW.b .nil passes)))))
   (ao (aM (bQ (pv 0) T.cl FE.me GE hr FE.b .nil passes)))),?_⟩
  refine⟨fun m σ H'=>∃(G:List Addr)(fs':List Fr)(j:Exp)(k':Nat),σ=[some (.ref p)]∧m=fs'.length∧jK C FC PC H' p G ts i fs' (.en j k')∧aA (off M H) (off G H')∧jm fs'+Vbdeam.size j≤2000∧cD fs e kd=cD fs' j k',⟨_,M,fs,e,kd,rfl,rfl,aa,aA.refl _,hw,rfl⟩,?_⟩
  rintro m σ H' ⟨G,fs',j,k',rfl,rfl,L,so,U,z⟩
  obtain⟨dx,lt,lf,ev,k0,tas,fas,ads,D⟩:=id L
  refine⟨_,rfl,p,PC,dx,_,_,rfl,D.obj,T.cl,T.nF,rfl,_,.inl ⟨_,bV.of D.fl,rfl⟩,?_⟩
  cases fs' with
  | nil =>
   have hf:=D.frs
   cases hf
   refine aQ (aQ ?_)
   rw[z]at k
   exact k G H' L so
  | cons fr r =>
   obtain⟨J,fa,lp,S,rfl,Y⟩:∃J fa lp S,fas=fa::J∧rP C FC (off G H') H' fr fa lp:=by
    cases D.frs with
    | cons a b=>exact⟨_,_,_,‹_›,rfl,a⟩
   have Z:=D.fl
   rw[Bb]at Z
   obtain⟨ac,as,ai,ar,al⟩:=id Y
   rw[Bb,show(!(J.reverse.map V.ref++[V.ref fa]).isEmpty)=true by simp]
   refine bh ⟨_,rfl,p,PC,dx,_,_,rfl,D.obj,T.cl,T.nF,rfl,_,rfl,lf,_,_,_,rfl,rfl,bV.of Z,lC,fa,ac,_,rfl,ai,rfl,off G H',fa,lp,fr,rfl,Y,_,rfl,?_⟩
   cases he:fr.ends with
   | true =>
    refine bh ⟨fun σ' O=>∃(G:List Addr)(fs':List Fr)(j:Exp)(k':Nat),σ'=[some (.ref p)]∧fs'.length<(fr::r).length∧jK C FC PC O p G ts i fs' (.en j k')∧aA (off M H) (off G O)∧jm fs'+Vbdeam.size j≤2000∧cD fs e kd=cD fs' j k',fun σ' O ⟨M2,ah,e2,k2,h1,h2,h3⟩=>⟨_,h2,M2,ah,e2,k2,h1,rfl,h3⟩,?_⟩
    refine⟨_,rfl,p,dx,_,rfl,D.obj,rfl,p,G,ts,i,fr,r,j,k',rfl,L,jo he,iJ U,fun M2 H2 ae ag=>?_⟩
    have av:=gD (e:=j) (jo he)
    refine⟨M2,r,_,_,rfl,Nat.lt_succ_self _,ae,so.trans ag,?_,?_⟩
    ·rw[fQ]at U;omega
    ·rw[z,cD,jI he]
   | false =>
    refine aQ ?_
    have ep:cD (fr::r) j k'=(fr::r,j,k'):=by rw[cD,i9 (by rw[he];exact io)]
    rw[z,ep]at k
    exact k G H' L so
theorem JG:aK ["self","form","detail","kind"] ["self","form","detail"] (aD (aY 10)):=⟨rfl,rfl,rfl,by decide +kernel,rfl,by decide +kernel,by decide +kernel⟩
theorem OJ{f C FC PC Ce fE fU fK fP fI:Addr}{fd dE dU dK dP dI:FuncData}(F:fc K "join_two" "Parser.join_two" (aY 10) f fd)(T:iY K PC)(TF:gb K FC)(N:CN K mg)(X:XC P w K mg base "NoExpression" Ce fI dI (-6))(FE:Fm K PC "end_frame" "Parser.end_frame" (aY 12) fE dE ["self"])(GE:aF P w K mg base (aW P w) 4 fE dE ["self"] (t_ C FC PC))
  (FU:Fm K PC "push" "Parser.push" (aY 3) fU dU ["self","form","detail","parts"]) (GU:aF P w K mg base (aW P w) 4 fU dU ["self","form","detail","parts"] (jc C FC PC Ce)) (FK:Fn K mg "kind_of" qC fK dK ["form","detail"]) (FP:Fn K mg "place_of" pU fP dP ["kind","position"]):aF P w K mg base (aW P w) 5 f fd ["self","form","detail"] (Ao C FC PC Ce):=by
 have GK:aF P w K mg base (aW P w) 1 fK dK ["form","detail"] t7:=sU FK N
 have GP:aF P w K mg base (aW P w) 1 fP dP ["kind","position"] (yK oh 0):=yZ FP N
 refine d9 F JG (fun vs H Q E h=>?_) (fun cdv A outer s H vs Q E hr h=>?_)
 ·obtain⟨_,_,_,_,_,_,_,_,rfl,_⟩:=h
  rfl
 ·obtain⟨p,M,ts,i,fs,e,kd,j,rfl,ar,hw,k,kr⟩:=h
  have ah:bG 1 _:=hr.mono (by omega)
  have aE:bG 3 _:=hr.mono (by omega)
  obtain⟨jk,jp⟩:=PN j
  have tail:∃tr,zX (eU (aW P w) P w K mg base ["self","form","detail","kind"] "Parser.join_two" (aD (aY 10)) f cdv A outer s H E) ((eO (aY 10)).drop 2) tr ∧
    ∀(J:List Addr)(H':Hp)(fs':List Fr)(z:Exp)(k':Nat),jK C FC PC H' p J ts i fs' (.en z k')→aA (off M H) (off J H')→jm fs'+Vbdeam.size z≤2000→fj j.kind fs e kd=(fs',z,k')→tr { nx:=fun _ H'=>Q .non H',rt:=Q } [some (.ref p),some (.int (Tj j)),some (Tn j),some (.int (j.kind:Nat))] H':=by
   refine⟨_,aq (aX (aG Eb (aJ (pv 0) rfl) (a_ GP ah rfl FP.m FP.F.kp FP.b .nil passes (aj (pv 3) (aj aB au))) (aL _)) (ao (bO X.made X.cls X.ok aE rfl X.m X.b rfl bF)) aP)
    (ao (aM (bc (pv 0) T.cl FU.me GU hr FU.b .nil passes (aj (pv 1) (aj (pv 2) (aj (bT (aj (aJ (pv 0) rfl) au)) au)))))),?_⟩
   intro J H' fs' z k' L so O G
   obtain⟨dx,lt,lf,ev,k0,tas,fas,ads,D⟩:=id L
   obtain⟨⟨a,rfl,ax⟩,rfl⟩:=D.md
   have Y:PM.nq j fs e kd=if k'<PM.ig j.kind then none else PM.push fs' (.jn j z):=by unfold PM.nq;rw[G]
   refine⟨_,rfl,p,PC,dx,_,_,rfl,D.obj,T.cl,T.nK,rfl,_,rfl,_,_,_,rfl,jp,_,_,rfl,rfl,_,rfl,?_⟩
   by_cases ai:k'<PM.ig j.kind
   ·rw[i8 (by omega)]
    exact bh ((kr (by rw[Y,jI ai])).mono (so.trans (aU _ _))).go
   ·rw[j4 (by omega)]
    rw[i9 ai]at Y
    obtain⟨f1,f2⟩:=PP j z
    refine aQ ⟨_,rfl,p,dx,_,rfl,D.obj,rfl,_,rfl,_,rfl,_,rfl,p,PC,dx,_,_,rfl,D.obj,T.cl,T.nE,rfl,(by show 1≤sizeLine;decide),fun lp af=>?_⟩
    refine⟨p,lp,J,ts,i,fs',.en z k',.jn j z,[a],H',by rw[f1,f2];rfl,L,af,rfl,.cons ax .nil,trivial,?_,fun hn M2 H2 Z aa=>?_,fun hn=>?_⟩
    ·have:=Ek fs'
     have:=Af z
     omega
    ·exact k _ _ (by rw[Y];unfold PM.push;rw[i9 (by omega)]) M2 H2 Z (so.trans aa)
    ·exact(kr (by rw[Y];unfold PM.push;rw[jI hn])).mono so
  obtain⟨tr,ae,tail⟩:=tail
  refine⟨_,aq (bu (i:=3) JG.nd rfl (Or.inl rfl) (a_ GK ah rfl FK.m FK.F.kp FK.b .nil passes (aj (pv 1) (aj (pv 2) au))))
   (aq (gA rC (PW.pt (jW (gw (aJ (pv 0) rfl) (fun _=>rfl)) (gQ (aG qF (aJ (bZ dh (aJ (pv 0) rfl) (eN cV aB) (fun _ _=>rfl)) rfl) (pv 3) (aL _)))))
    (ao (aM (bQ (pv 0) T.cl FE.me GE hr FE.b .nil passes)))) ae),?_⟩
  refine⟨_,rfl,_,rfl,_,_,_,rfl,jk,?_⟩
  refine⟨fun m σ H'=>∃(J:List Addr)(fs':List Fr)(z:Exp)(k':Nat),σ=[some (.ref p),some (.int (Tj j)),some (Tn j),some (.int (j.kind:Nat))]∧m=fs'.length∧jK C FC PC H' p J ts i fs' (.en z k')∧aA (off M H) (off J H')∧jm fs'+Vbdeam.size z≤2000∧fj j.kind fs e kd=fj j.kind fs' z k',⟨_,M,fs,e,kd,rfl,rfl,ar,aA.refl _,hw,rfl⟩,?_⟩
  rintro m σ H' ⟨J,fs',z,k',rfl,rfl,L,so,O,G⟩
  obtain⟨dx,lt,lf,ev,k0,tas,fas,ads,D⟩:=id L
  refine⟨_,rfl,p,PC,dx,_,_,rfl,D.obj,T.cl,T.nF,rfl,_,.inl ⟨_,bV.of D.fl,rfl⟩,?_⟩
  cases fs' with
  | nil =>
   have hf:=D.frs
   cases hf
   exact aQ (aQ (tail J H' [] z k' L so O G))
  | cons fr r =>
   obtain⟨S,fa,lp,ag,rfl,aw⟩:∃S fa lp ag,fas=fa::S∧rP C FC (off J H') H' fr fa lp:=by
    cases D.frs with
    | cons a b=>exact⟨_,_,_,‹_›,rfl,a⟩
   have al:=D.fl
   rw[Bb]at al
   obtain⟨av,as,aC,af,aI⟩:=id aw
   rw[Bb,show(!(S.reverse.map V.ref++[V.ref fa]).isEmpty)=true by simp]
   refine bh ⟨_,rfl,p,PC,dx,_,_,rfl,D.obj,T.cl,T.nF,rfl,_,rfl,lf,_,_,_,rfl,rfl,bV.of al,lC,fa,FC,av,_,_,rfl,aC,TF.cl,TF.nL,rfl,_,rfl,_,_,rfl,rfl,_,rfl,?_⟩
   by_cases U:j.kind<fr.place
   ·rw[i8 (by omega)]
    refine bh ⟨fun σ' ac=>∃(J:List Addr)(fs':List Fr)(z:Exp)(k':Nat),σ'=[some (.ref p),some (.int (Tj j)),some (Tn j),some (.int (j.kind:Nat))]∧fs'.length<(fr::r).length∧jK C FC PC ac p J ts i fs' (.en z k')∧aA (off M H) (off J ac)∧jm fs'+Vbdeam.size z≤2000∧fj j.kind fs e kd=fj j.kind fs' z k',fun σ' ac ⟨M2,ay,e2,k2,h1,h2,h3⟩=>⟨_,h2,M2,ay,e2,k2,h1,rfl,h3⟩,?_⟩
    refine⟨_,rfl,p,dx,_,rfl,D.obj,rfl,p,J,ts,i,fr,r,z,k',rfl,L,gU U,iJ O,fun M2 H2 Z aa=>?_⟩
    have aS:=gD (e:=z) (gU U)
    refine⟨M2,r,_,_,rfl,Nat.lt_succ_self _,Z,so.trans aa,?_,?_⟩
    ·rw[fQ]at O;omega
    ·rw[G,fj,jI U]
   ·rw[j4 (by omega)]
    exact aQ (tail J H' _ z k' L so O (by rw[G,fj,i9 U]))
end
end SB
end
section
namespace SB
open PySem PySem.Spec PyProof.Rows L2 XL
open Vbdeaa (Text Exp Exps Un Bin Ins wd sg)
open PM (Fr Jn Hd Md nest cD fj around)
variable {P:Program} {w:World} {K:PySem.W.Frag} {mg:Str→Option Value} {base:Heap}
noncomputable def grow:Fr→Exp→Option Fr
 | .if0,e=>some (.if1 e)
 | .if1 c,e=>some (.if2 c e)
 | .lst h l,e=>some (.lst h (l++[e]))
 | _,_=>none
theorem Sv{f j:Fr}{e:Exp}(h:grow f e=some j)(lp:Addr):Sw j lp=Sw f lp∧bj j=bj f++[e]∧j.around=f.around:=by
 cases f with
 | if0=>cases h;exact⟨rfl,rfl,rfl⟩
 | if1 c=>cases h;exact⟨rfl,rfl,rfl⟩
 | lst z l=>cases h;cases z<;>exact⟨rfl,rfl,rfl⟩
 | _=>cases h
noncomputable def wK(C FC PC:Addr):Sp:=fun vs H Q _=>∃(p:Addr)(M:List Addr)(ts:List TK)(i:Nat)(f j:Fr)(r:List Fr)(e:Exp)(k:Nat),vs=[.ref p]∧jK C FC PC H p M ts i (f::r) (.en e k)∧grow f e=some j∧(bj f).length≤3000 ∧
 ∀H',jK C FC PC H' p M ts i (j::r) .beg→aA (off M H) (off M H')→Q .non H'
noncomputable def Ge(C FC PC Ce:Addr)(g:List Fr→Exp→Option (List Fr×Md)):Sp:=fun vs H Q E=>∃(p:Addr)(M:List Addr)(ts:List TK)(i:Nat)(fs:List Fr)(e:Exp)(k:Nat),vs=[.ref p]∧jK C FC PC H p M ts i fs (.en e k)∧jm fs+Vbdeam.size e≤2000 ∧
 (∀fs' z,g fs e=some (fs',z)→∀j H',jK C FC PC H' p j ts i fs' z→aA (off M H) (off j H')→Q .non H')∧(g fs e=none→bz Ce (-6) (off M H) E)
noncomputable def Ji(C FC PC Ce:Addr):Sp:=fun vs H Q E=>∃(p:Addr)(M:List Addr)(ts:List TK)(i:Nat)(fs:List Fr)(e:Exp)(k:Nat)(c:Nat),vs=[.ref p,.int c]∧c≤1∧jK C FC PC H p M ts i fs (.en e k)∧jm fs+Vbdeam.size e≤2000 ∧
 (∀fs' z,around (if c=0 then wd "then" else wd "else") fs e=some (fs',z)→∀j H',jK C FC PC H' p j ts i fs' z→aA (off M H) (off j H')→Q .non H')∧(around (if c=0 then wd "then" else wd "else") fs e=none→bz Ce (-6) (off M H) E)
theorem tM(fs:List Fr)(e:Exp):around (wd "then") fs e=match fs with
  | .if0::r=>some (.if1 e::r,.beg)
  | _=>none:=by unfold around;rw[jI rfl]<;>rfl
theorem tQ(fs:List Fr)(e:Exp):around (wd "else") fs e=match fs with
  | .if1 c::r=>some (.if2 c e::r,.beg)
  | _=>none:=by unfold around;rw[i9 (by decide),jI rfl]<;>rfl
theorem u0(fs:List Fr)(e:Exp):around (sg ",") fs e=match fs with
  | .lst h l::r=>some (.lst h (l++[e])::r,.beg)
  | _=>none:=by unfold around;rw[i9 (by decide),i9 (by decide),jI rfl]<;>rfl
theorem yl(fs:List Fr)(e:Exp):around (sg ")") fs e=match fs with
  | f::r=>if f.brk=true then some (r,.en (f.close e).1 (f.close e).2)else none
  | []=>none:=by unfold around;rw[i9 (by decide),i9 (by decide),i9 (by decide),jI rfl]<;>rfl
section
theorem JF:aK ["self","frame"] ["self"] (aD (aY 16)):=⟨rfl,rfl,rfl,by decide +kernel,rfl,by decide +kernel,by decide +kernel⟩
theorem Ed{f C FC PC:Addr}{fd:FuncData}(F:fc K "keep_part" "Parser.keep_part" (aY 16) f fd)(T:iY K PC)(TF:gb K FC):aF P w K mg base (aW P w) 1 f fd ["self"] (wK C FC PC):=by
 refine d9 F JF (fun vs H Q E h=>?_) (fun cdv A outer s H vs Q E hr h=>?_)
 ·obtain⟨_,_,_,_,_,_,_,_,_,rfl,_⟩:=h
  rfl
 ·obtain⟨p,M,ts,i,fr,G,r,e,kd,rfl,⟨dx,lt,lf,ev,k0,tas,ac,Z,D⟩,hg,Y,k⟩:=h
  refine⟨_,aq (bu (i:=1) JF.nd rfl (Or.inl rfl) (bZ dh (aJ (pv 0) rfl) (eN cV aB) (fun _ _=>rfl)))
   (aq (aM (gB PySem.F.plainAttrs_list PySem.F.slot_list_append PySem.F.type_list_append gq (aJ (pv 1) rfl) (aj (aJ (pv 0) rfl) au)))
   (ao (b8 (pv 0) Bk rfl))),?_⟩
  obtain⟨fas,fa,lp,ads,rfl,rfl,ag,af⟩:∃fas fa lp ads,ac=fa::fas∧Z=fa::lp::ads∧rP C FC (off M H) H fr fa lp∧g8 C FC (off M H) H r fas ads:=by
   cases D.frs with
   | cons a b=>exact⟨_,_,_,_,rfl,rfl,a,b⟩
  obtain⟨m1,m2,n1,n2⟩:=D.pM
  obtain⟨S,as,ae,U,J⟩:=id ag
  obtain⟨⟨a,rfl,al⟩,rfl⟩:=D.md
  have aa:=D.fl
  rw[Bb]at aa
  have ar:=n2 fa (by simp)
  have O:=n2 lp (by simp)
  refine⟨_,rfl,p,PC,dx,_,_,rfl,D.obj,T.cl,T.nF,rfl,_,rfl,lf,_,_,_,rfl,rfl,bV.of aa,lC,?_⟩
  refine⟨_,rfl,fa,FC,S,_,_,rfl,ae,TF.cl,TF.nP,rfl,.inl ⟨rfl,_,bV.of U⟩,_,rfl,p,PC,dx,_,_,rfl,D.obj,T.cl,T.nE,rfl,lp,_,_,rfl,rfl,U,?_,?_⟩
  ·rw[ap,←Paired.length J]
   exact iN Y (by decide)
  have av:(L2.upd H lp (.lst (as.map V.ref++[V.ref a]))) p=some (.ins PC dx (ie lt i lf (nest (fr::r)) (.ref a) (kd:Nat))):=by rw[az (Ne.symm O.1)];exact D.obj
  refine⟨_,rfl,p,PC,dx,_,rfl,av,T.cl,T.nE,(by show 6<1000;decide),?_⟩
  obtain⟨g1,g2,g3⟩:=Sv hg lp
  have j:=D.nd
  rw[D.mem]at j
  simp only[List.nodup_cons,hU,not_or]at j
  have ai:fa≠lp:=j.2.2.1.1
  have ho:off M (L2.upd (L2.upd H lp (.lst (as.map V.ref++[V.ref a]))) p (.ins PC dx (ie lt i lf (nest (G::r)) .non (kd:Nat))))=off M H:=by
   rw[sV m1,sV (by rw[D.mem];simp)]
  have L:nest (G::r)=nest (fr::r):=by show G.around+nest r=fr.around+nest r;rw[g3]
  have:=k (L2.upd (L2.upd H lp (.lst (as.map V.ref++[V.ref a]))) p (.ins PC dx (ie lt i lf (nest (G::r)) .non (kd:Nat)))) ⟨dx,lt,lf,.non,(kd:Nat),tas,fa::fas,fa::lp::ads,D.mem,D.nd,ak,by rw[ho];exact D.tl,by rw[ho];exact D.tks,by rw[az (Ne.symm n1),az (Ne.symm O.2)];exact D.fl,?_,rfl⟩ (by rw[ho];exact aA.refl _)
  ·rw[L]at this
   exact this
  ·rw[ho]
   refine .cons ⟨S,as++[a],?_,?_,by rw[g2];exact cu J al⟩ (af.mono (aA.refl _) fun b hb=>?_)
   ·rw[az ar.1,az ai,g1];exact ae
   ·rw[az O.1,ak,ka];rfl
   ·have nb:=n2 b (by simp[hb])
    have ah:b≠lp:=fun z=>j.2.2.2.1 (by rw[←z];exact hb)
    rw[az nb.1,az ah]
theorem Ub:aK ["self","count"] ["self","count"] (aD (aY 14)):=⟨rfl,rfl,rfl,by decide +kernel,rfl,by decide +kernel,by decide +kernel⟩
theorem RW{f C FC PC Ce fK fI:Addr}{fd dK dI:FuncData}(F:fc K "next_of_if" "Parser.next_of_if" (aY 14) f fd)(T:iY K PC)(TF:gb K FC)(N:CN K mg)(G:CG K mg)(X:XC P w K mg base "NoExpression" Ce fI dI (-6))(FK:Fm K PC "keep_part" "Parser.keep_part" (aY 16) fK dK ["self"]):aF P w K mg base (aW P w) 4 f fd ["self","count"] (Ji C FC PC Ce):=by
 have GK:aF P w K mg base (aW P w) 1 fK dK ["self"] (wK C FC PC):=Ed FK.F T TF
 refine d9 F Ub (fun vs H Q E h=>?_) (fun cdv A outer s H vs Q E hr h=>?_)
 ·obtain⟨_,_,_,_,_,_,_,_,rfl,_⟩:=h
  rfl
 ·obtain⟨p,M,ts,i,fs,e,kd,c,rfl,hc,Y,hw,k,kr⟩:=h
  have av:bG 1 _:=hr.mono (by omega)
  refine⟨_,aq (aX (PW.pt (m_ (jX (gw (aJ (pv 0) rfl) (fun _=>rfl))) (m_ (aG vL (aJ (bZ dh (aJ (pv 0) rfl) (eN cV aB) (fun _ _=>rfl)) rfl) (bw rfl N.IF) (aL _))
    (jV (aG vL (b7 bJ (by rfl) G.len (by decide +kernel) (aj (aJ (bZ dh (aJ (pv 0) rfl) (eN cV aB) (fun _ _=>rfl)) rfl) au)) (pv 1) (aL _)))))) (ao (bO X.made X.cls X.ok hr rfl X.m X.b rfl bF)) aP)
   (ao (aM (bQ (pv 0) T.cl FK.me GK av FK.b .nil passes))),?_⟩
  obtain⟨dx,lt,lf,ev,k0,tas,fas,ads,D⟩:=id Y
  have bad:around (if c=0 then wd "then" else wd "else") fs e=none→bz Ce (-6) H E:=fun h=>(kr h).mono (aU M H)
  refine⟨_,rfl,p,PC,dx,_,_,rfl,D.obj,T.cl,T.nF,rfl,_,.inl ⟨_,bV.of D.fl,rfl⟩,?_⟩
  cases fs with
  | nil =>
   have hf:=D.frs
   cases hf
   refine bh (bh (bad ?_).go)
   split
   ·rw[tM]
   ·rw[tQ]
  | cons fr r =>
   obtain⟨L,fa,lp,ae,rfl,ay⟩:∃L fa lp ae,fas=fa::L∧rP C FC (off M H) H fr fa lp:=by
    cases D.frs with
    | cons a b=>exact⟨_,_,_,‹_›,rfl,a⟩
   have Z:=D.fl
   rw[Bb]at Z
   obtain⟨ac,as,al,ar,ai⟩:=id ay
   rw[Bb,show(!(L.reverse.map V.ref++[V.ref fa]).isEmpty)=true by simp]
   refine aQ ⟨_,rfl,p,PC,dx,_,_,rfl,D.obj,T.cl,T.nF,rfl,_,rfl,lf,_,_,_,rfl,rfl,bV.of Z,lC,fa,FC,ac,_,_,rfl,al,TF.cl,TF.nF,rfl,rfl,_,rfl,?_⟩
   have el:(as.map V.ref).length=(bj fr).length:=by rw[ap,←Paired.length ai]
   have go:∀S,grow fr e=some S→around (if c=0 then wd "then" else wd "else") (fr::r) e=some (S::r,.beg)→wK C FC PC [.ref p] H (fun v H'=>Q .non H') E:=fun S hg ha=>by
    refine⟨p,M,ts,i,fr,S,r,e,kd,rfl,Y,hg,?_,fun H' ax aw=>k _ _ ha M H' ax aw⟩
    have:=iJ hw
    omega
   have ah:bH fr=6→decide (V.int ((as.map V.ref).length:Nat)=V.int (c:Nat))=false→around (if c=0 then wd "then" else wd "else") (fr::r) e=none:=fun O J=>by
    rw[el]at J
    have J:(bj fr).length≠c:=fun z=>by rw[z]at J;exact absurd (i8 rfl) (by rw[J];exact io)
    split
    ·rename_i U
     rw[tM]
     cases fr with
     | if0=>exact absurd U.symm J
     | _=>rfl
    ·rename_i U
     have ag:c=1:=by omega
     rw[tQ]
     cases fr with
     | if1 cc=>exact absurd ag.symm J
     | _=>rfl
   have af:bH fr≠6→around (if c=0 then wd "then" else wd "else") (fr::r) e=none:=fun O=>by
    split
    ·rw[tM]
     cases fr with
     | if0=>exact absurd rfl O
     | _=>rfl
    ·rw[tQ]
     cases fr with
     | if1 cc=>exact absurd rfl O
     | _=>rfl
   by_cases O:bH fr=6
   ·rw[show(!decide (V.int (bH fr)=V.int 6))=false by rw[O];rfl]
    refine aQ ⟨_,rfl,p,PC,dx,_,_,rfl,D.obj,T.cl,T.nF,rfl,_,rfl,lf,_,_,_,rfl,rfl,bV.of Z,lC,fa,FC,ac,_,_,rfl,al,TF.cl,TF.nP,rfl,lp,_,rfl,.inl (bV.of ar),_,rfl,rfl,_,rfl,?_⟩
    cases J:decide (V.int ((as.map V.ref).length:Nat)=V.int (c:Nat))with
    | false =>
     have b:=bad (ah O J)
     exact bh (fun e d H' s' x1 x2=>b e d H' s' x1 x2)
    | true =>
     have J:(bj fr).length=c:=by
      have:=js J
      rw[el]at this
      have:=V.int.inj this
      omega
     refine aQ ⟨_,rfl,p,dx,_,rfl,D.obj,rfl,?_⟩
     cases fr with
     | if0 =>
      have U:c=0:=J.symm
      exact go _ rfl (by rw[jI U,tM])
     | if1 cc =>
      have ag:c=1:=J.symm
      exact go _ rfl (by rw[i9 (by omega),tQ])
     | if2 cc aa =>
      have:2=c:=J
      omega
     | lst hh l=>cases hh<;>simp[bH]at O
     | jn j a=>cases j<;>simp[bH]at O
     | _=>simp[bH]at O
   ·rw[show(!decide (V.int (bH fr)=V.int 6))=true by rw[j4 (fun z=>O (V.int.inj z))];rfl]
    exact bh (bh (bad (af O)).go)
end
section
theorem Uc:aK ["self"] ["self"] (aD (aY 15)):=⟨rfl,rfl,rfl,by decide +kernel,rfl,by decide +kernel,by decide +kernel⟩
theorem RX{f C FC PC Ce fK fI:Addr}{fd dK dI:FuncData}(F:fc K "next_in_brackets" "Parser.next_in_brackets" (aY 15) f fd)(T:iY K PC)(TF:gb K FC)(aa:GC K mg "PICK" (.i 7))(Z:GC K mg "CALL" (.i 8))(X:XC P w K mg base "NoExpression" Ce fI dI (-6))(FK:Fm K PC "keep_part" "Parser.keep_part" (aY 16) fK dK ["self"]):aF P w K mg base (aW P w) 4 f fd ["self"] (Ge C FC PC Ce (around (sg ","))):=by
 have GK:aF P w K mg base (aW P w) 1 fK dK ["self"] (wK C FC PC):=Ed FK.F T TF
 refine d9 F Uc (fun vs H Q E h=>?_) (fun cdv A outer s H vs Q E hr h=>?_)
 ·obtain⟨_,_,_,_,_,_,_,rfl,_⟩:=h
  rfl
 ·obtain⟨p,M,ts,i,fs,e,kd,rfl,U,hw,k,kr⟩:=h
  have ac:bG 1 _:=hr.mono (by omega)
  refine⟨_,aq (aX (PW.pt (m_ (jX (gw (aJ (pv 0) rfl) (fun _=>rfl))) (jV (aG xr (aJ (bZ dh (aJ (pv 0) rfl) (eN cV aB) (fun _ _=>rfl)) rfl) (bI (aj (bw rfl aa) (aj (bw rfl Z) au))) rfl)))) (ao (bO X.made X.cls X.ok hr rfl X.m X.b rfl bF)) aP)
   (ao (aM (bQ (pv 0) T.cl FK.me GK ac FK.b .nil passes))),?_⟩
  obtain⟨dx,lt,lf,ev,k0,tas,fas,ads,D⟩:=id U
  refine⟨_,rfl,p,PC,dx,_,_,rfl,D.obj,T.cl,T.nF,rfl,_,.inl ⟨_,bV.of D.fl,rfl⟩,?_⟩
  cases fs with
  | nil =>
   have hf:=D.frs
   cases hf
   exact bh (bh ((kr (by rw[u0])).mono (aU M H)).go)
  | cons fr r =>
   obtain⟨J,fa,lp,O,rfl,ag⟩:∃J fa lp O,fas=fa::J∧rP C FC (off M H) H fr fa lp:=by
    cases D.frs with
    | cons a b=>exact⟨_,_,_,‹_›,rfl,a⟩
   have S:=D.fl
   rw[Bb]at S
   obtain⟨Y,as,ah,al,ai⟩:=id ag
   rw[Bb,show(!(J.reverse.map V.ref++[V.ref fa]).isEmpty)=true by simp]
   refine aQ ⟨_,rfl,p,PC,dx,_,_,rfl,D.obj,T.cl,T.nF,rfl,_,rfl,lf,_,_,_,rfl,rfl,bV.of S,lC,fa,FC,Y,_,_,rfl,ah,TF.cl,TF.nF,rfl,(by show 2≤sizeLine;decide),fun q hq=>⟨q,_,rfl,.inr (cR.of ak),rfl,rfl,_,rfl,?_⟩⟩
   have sq:aA H (L2.upd H q (.tup [.int 7,.int 8])):=aA.upd hq
   have kp:=rO.of_same D.there sq
   have L:jK C FC PC (L2.upd H q (.tup [.int 7,.int 8])) p M ts i (fr::r) (.en e kd):=⟨dx,lt,lf,ev,k0,tas,_,ads,D.keep kp⟩
   have no:(∀G l,fr≠.lst G l)→(!inV (V.int (bH fr)) [.int 7,.int 8])=true∧around (sg ",") (fr::r) e=none:=fun h=>by
    rw[u0]
    cases fr with
    | lst G l=>exact absurd rfl (h G l)
    | jn j a=>cases j<;>exact⟨rfl,rfl⟩
    | _=>exact⟨rfl,rfl⟩
   by_cases hl:∃G l,fr=.lst G l
   ·obtain⟨G,l,rfl⟩:=hl
    rw[show(if true=true then !inV (V.int (bH (.lst G l))) [.int 7,.int 8]else inV (V.int (bH (.lst G l))) [.int 7,.int 8])=false by cases G<;>rfl]
    refine aQ ⟨_,rfl,p,dx,_,rfl,(D.keep kp).obj,rfl,p,M,ts,i,.lst G l,.lst G (l++[e]),r,e,kd,rfl,L,rfl,?_,fun H' af ae=>k _ _ (by rw[u0]) M H' af (kp.out.trans ae)⟩
    have:=iJ hw
    omega
   ·obtain⟨n1,n2⟩:=no fun G l z=>hl ⟨G,l,z⟩
    rw[show(if true=true then !inV (V.int (bH fr)) [.int 7,.int 8]else inV (V.int (bH fr)) [.int 7,.int 8])=true from n1]
    have b:=(kr n2).mono ((aU M H).trans sq)
    exact bh (fun e d H' s' x1 x2=>b e d H' s' x1 x2)
theorem Rk:aK ["self"] ["self"] (aD (aY 17)):=⟨rfl,rfl,rfl,by decide +kernel,rfl,by decide +kernel,by decide +kernel⟩
theorem Oq{f C FC PC Ce fE fI:Addr}{fd dE dI:FuncData}(F:fc K "close_brackets" "Parser.close_brackets" (aY 17) f fd)(T:iY K PC)(TF:gb K FC)(X:XC P w K mg base "NoExpression" Ce fI dI (-6))(FE:Fm K PC "end_frame" "Parser.end_frame" (aY 12) fE dE ["self"])(GE:aF P w K mg base (aW P w) 4 fE dE ["self"] (t_ C FC PC)):aF P w K mg base (aW P w) 5 f fd ["self"] (Ge C FC PC Ce (around (sg ")"))):=by
 refine d9 F Rk (fun vs H Q E h=>?_) (fun cdv A outer s H vs Q E hr h=>?_)
 ·obtain⟨_,_,_,_,_,_,_,rfl,_⟩:=h
  rfl
 ·obtain⟨p,M,ts,i,fs,e,kd,rfl,z,hw,k,kr⟩:=h
  have ac:bG 3 _:=hr.mono (by omega)
  refine⟨_,aq (aX (PW.pt (m_ (jX (gw (aJ (pv 0) rfl) (fun _=>rfl))) (jV (jX (eG (aJ (bZ dh (aJ (pv 0) rfl) (eN cV aB) (fun _ _=>rfl)) rfl)))))) (ao (bO X.made X.cls X.ok ac rfl X.m X.b rfl bF)) aP)
   (ao (aM (bQ (pv 0) T.cl FE.me GE hr FE.b .nil passes))),?_⟩
  obtain⟨dx,lt,lf,ev,k0,tas,fas,ads,D⟩:=id z
  refine⟨_,rfl,p,PC,dx,_,_,rfl,D.obj,T.cl,T.nF,rfl,_,.inl ⟨_,bV.of D.fl,rfl⟩,?_⟩
  cases fs with
  | nil =>
   have hf:=D.frs
   cases hf
   exact bh (bh ((kr (by rw[yl])).mono (aU M H)).go)
  | cons fr r =>
   obtain⟨j,fa,lp,G,rfl,Z⟩:∃j fa lp G,fas=fa::j∧rP C FC (off M H) H fr fa lp:=by
    cases D.frs with
    | cons a b=>exact⟨_,_,_,‹_›,rfl,a⟩
   have J:=D.fl
   rw[Bb]at J
   obtain⟨O,as,aa,af,ae⟩:=id Z
   rw[Bb,show(!(j.reverse.map V.ref++[V.ref fa]).isEmpty)=true by simp]
   refine aQ ⟨_,rfl,p,PC,dx,_,_,rfl,D.obj,T.cl,T.nF,rfl,_,rfl,lf,_,_,_,rfl,rfl,bV.of J,lC,fa,FC,O,_,_,rfl,aa,TF.cl,TF.nB,rfl,_,rfl,?_⟩
   cases L:fr.brk with
   | false =>
    have b:=(kr (by rw[yl];show(if fr.brk=true then _ else none)=none;rw[L];rfl)).mono (aU M H)
    exact bh (fun e d H' s' x1 x2=>b e d H' s' x1 x2)
   | true =>
    have S:fX fr:=by
     cases fr with
     | if0=>cases L
     | if1 c=>cases L
     | _=>exact trivial
    exact aQ ⟨_,rfl,p,dx,_,rfl,D.obj,rfl,p,M,ts,i,fr,r,e,kd,rfl,z,S,iJ hw,fun M' H' Y U=>k _ _ (by rw[yl];show(if fr.brk=true then _ else none)=_;rw[jI L]) M' H' Y U⟩
end
noncomputable def tag:TK→Str
 | .num _ => "number"
 | .name _ => "name"
 | .word _ => "word"
 | .sign s=>(rB s).1
 | _ => "end"
noncomputable def Vg:TK→V→Prop
 | .num _,v=>∃r,v=.ref r
 | .name n,v=>v=.str (bD n)
 | .word n,v=>v=.str (bD n)
 | .sign s,v=>v=(rB s).2
 | _,v=>v=.str ""
theorem oG{K:PySem.W.Frag}{H:Hp}{x:TK}{a:Addr}(h:cO H x a):∃v,H a=some (.tup [.str (tag x),v])∧(fV v=true∨∃r zs,v=.ref r∧cR K H r zs)∧Vg x v:=by
 cases x with
 | num q=>obtain⟨p,h1,h2⟩:=h;exact⟨_,h1,.inr ⟨p,_,rfl,cR.of h2⟩,p,rfl⟩
 | name n=>exact⟨_,h,.inl rfl,rfl⟩
 | word n=>exact⟨_,h,.inl rfl,rfl⟩
 | sign s =>
  refine⟨_,h,.inl ?_,rfl⟩
  unfold rB
  split<;>rfl
 | eof=>exact⟨_,h,.inl rfl,rfl⟩
 | bad=>exact h.elim
noncomputable def cQ(x:TK)(b:Str)(u:V):Bool:=match x with
 | .num _=>false
 | .name n=>decide (("name" : Str)=b)&&zZ (.str (bD n)) u
 | .word n=>decide (("word" : Str)=b)&&zZ (.str (bD n)) u
 | .sign s=>decide ((rB s).1=b)&&zZ (rB s).2 u
 | _=>decide (("end" : Str)=b)&&zZ (.str "") u
theorem Ij{x:TK}{v:V}(h:Vg x v)(b:Str)(u:V):(decide (tag x=b)&&zZ v u)=cQ x b u:=by
 cases x with
 | num q =>
  obtain⟨r,rfl⟩:=h
  show(_&&(false&&_))=false
  rw[Bool.false_and,Bool.and_false]
 | _=>have h:v=_:=h;subst h;rfl
theorem o7{x:TK}(h:eV x):cQ x "word" (.str "then")=decide (x=wd "then")∧cQ x "word" (.str "else")=decide (x=wd "else")∧cQ x "mark" (.str ",")=decide (x=sg ",")∧cQ x "mark" (.str ")")=decide (x=sg ")")∧cQ x "mark" (.str "(")=decide (x=sg "(")∧cQ x "two" (.int 1)=decide (x=sg "-")∧cQ x "word" (.str "and")=decide (x=wd "and")∧cQ x "word" (.str "or")=decide (x=wd "or"):=by
 cases x with
 | num q=>exact⟨rfl,rfl,rfl,rfl,rfl,rfl,rfl,rfl⟩
 | name n=>exact⟨rfl,rfl,rfl,rfl,rfl,rfl,rfl,rfl⟩
 | word n =>
  have:∀n∈Vbdeaa.WORDS,cQ (.word n) "word" (.str "then")=decide (Vbdeaa.Tok.word n=wd "then")∧cQ (.word n) "word" (.str "else")=decide (Vbdeaa.Tok.word n=wd "else")∧cQ (.word n) "mark" (.str ",")=decide (Vbdeaa.Tok.word n=sg ",")∧cQ (.word n) "mark" (.str ")")=decide (Vbdeaa.Tok.word n=sg ")")∧cQ (.word n) "mark" (.str "(")=decide (Vbdeaa.Tok.word n=sg "(")∧cQ (.word n) "two" (.int 1)=decide (Vbdeaa.Tok.word n=sg "-")∧cQ (.word n) "word" (.str "and")=decide (Vbdeaa.Tok.word n=wd "and")∧cQ (.word n) "word" (.str "or")=decide (Vbdeaa.Tok.word n=wd "or"):=by decide +kernel
  exact this n h
 | sign s =>
  have:∀s∈z7++dY,cQ (.sign s) "word" (.str "then")=decide (Vbdeaa.Tok.sign s=wd "then")∧cQ (.sign s) "word" (.str "else")=decide (Vbdeaa.Tok.sign s=wd "else")∧cQ (.sign s) "mark" (.str ",")=decide (Vbdeaa.Tok.sign s=sg ",")∧cQ (.sign s) "mark" (.str ")")=decide (Vbdeaa.Tok.sign s=sg ")")∧cQ (.sign s) "mark" (.str "(")=decide (Vbdeaa.Tok.sign s=sg "(")∧cQ (.sign s) "two" (.int 1)=decide (Vbdeaa.Tok.sign s=sg "-")∧cQ (.sign s) "word" (.str "and")=decide (Vbdeaa.Tok.sign s=wd "and")∧cQ (.sign s) "word" (.str "or")=decide (Vbdeaa.Tok.sign s=wd "or"):=by decide +kernel
  exact this s (List.mem_append.mpr h)
 | eof=>exact⟨rfl,rfl,rfl,rfl,rfl,rfl,rfl,rfl⟩
 | bad=>exact h.elim
theorem mJ{K:PySem.W.Frag}{H:Hp}{x:TK}{a q:Addr}(h:cO H x a)(D:H q=none)(b:Str)(u:V)(F:(∃c,u=.str c)∨∃c,u=.int c){j:VK}(k:j (.bl (cQ x b u)) (L2.upd H q (.tup [.str b,u]))):N8 K false (.ref a) (.ref q) (L2.upd H q (.tup [.str b,u])) j:=by
 have s:aA H (L2.upd H q (.tup [.str b,u])):=aA.upd D
 obtain⟨v,h1,h2,z⟩:=oG (K:=K) (h.same s)
 refine⟨a,q,tag x,b,v,u,rfl,rfl,cR.of h1,cR.of ak,F,h2,?_⟩
 show j (.bl (decide (tag x=b)&&zZ v u)) _
 rw[Ij z b u]
 exact k
theorem Nm{K:PySem.W.Frag}{H:Hp}{x:TK}{a:Addr}(h:cO H x a):∃xs,cR K H a xs∧qX xs 0=some (.str (tag x)):=by
 obtain⟨v,h1,_⟩:=oG (K:=K) h
 exact⟨_,cR.of h1,rfl⟩
noncomputable def CW(x:TK)(fs:List Fr)(e:Exp)(k:Nat):Option (List Fr×Md):=if x=.eof then(match fs with
 | []=>some ([],.en e k)
 | _=>none)else around x fs e
noncomputable def Jl(C FC PC Ce:Addr):Sp:=fun vs H Q E=>∃(p a:Addr)(M:List Addr)(ts:List TK)(i:Nat)(fs:List Fr)(e:Exp)(k:Nat)(x:TK),vs=[.ref p,.ref a]∧jK C FC PC H p M ts i fs (.en e k)∧cO (off M H) x a∧eV x∧jm fs+Vbdeam.size e≤2000 ∧
 (∀fs' z,CW x fs e k=some (fs',z)→∀j H',jK C FC PC H' p j ts i fs' z→aA (off M H) (off j H')→Q .non H')∧(CW x fs e k=none→bz Ce (-6) (off M H) E)
theorem Np{x:TK}(h:eV x):decide (tag x = "end")=decide (x=.eof):=by
 cases x with
 | sign s =>
  have:∀s∈z7++dY,decide (tag (.sign s) = "end")=false:=by decide +kernel
  exact this s (List.mem_append.mpr h)
 | bad=>exact h.elim
 | _=>rfl
section
theorem Ue:aK ["self","token"] ["self","token"] (aD (aY 9)):=⟨rfl,rfl,rfl,by decide +kernel,rfl,by decide +kernel,by decide +kernel⟩
theorem R0{f C FC PC Ce fN fB fS fI:Addr}{fd dN dB dS dI:FuncData}(F:fc K "go_on_around" "Parser.go_on_around" (aY 9) f fd)(T:iY K PC)(X:XC P w K mg base "NoExpression" Ce fI dI (-6))
  (FN:Fm K PC "next_of_if" "Parser.next_of_if" (aY 14) fN dN ["self","count"]) (GN:aF P w K mg base (aW P w) 4 fN dN ["self","count"] (Ji C FC PC Ce)) (FB:Fm K PC "next_in_brackets" "Parser.next_in_brackets" (aY 15) fB dB ["self"]) (GB:aF P w K mg base (aW P w) 4 fB dB ["self"] (Ge C FC PC Ce (around (sg ","))))
  (FS:Fm K PC "close_brackets" "Parser.close_brackets" (aY 17) fS dS ["self"]) (GS:aF P w K mg base (aW P w) 5 fS dS ["self"] (Ge C FC PC Ce (around (sg ")")))):aF P w K mg base (aW P w) 6 f fd ["self","token"] (Jl C FC PC Ce):=by
 refine d9 F Ue (fun vs H Q E h=>?_) (fun cdv A outer s H vs Q E hr h=>?_)
 ·obtain⟨_,_,_,_,_,_,_,_,_,rfl,_⟩:=h
  rfl
 ·obtain⟨p,a,M,ts,i,fs,e,O,x,rfl,ah,ai,hok,hw,k,kr⟩:=h
  have aa:bG 4 _:=hr.mono (by omega)
  have av:bG 3 _:=hr.mono (by omega)
  have hu:=vU hr
  refine⟨_,ao (aX (aG (dq hu) (pv 1) (bI (aj bA (aj bA au))) (aL _)) (ao (aM (bc (pv 0) T.cl FN.me GN aa FN.b .nil passes (aj aB au))))
   (ao (aX (aG (dq hu) (pv 1) (bI (aj bA (aj bA au))) (aL _)) (ao (aM (bc (pv 0) T.cl FN.me GN aa FN.b .nil passes (aj aB au))))
   (ao (aX (aG (dq hu) (pv 1) (bI (aj bA (aj bA au))) (aL _)) (ao (aM (bQ (pv 0) T.cl FB.me GB aa FB.b .nil passes)))
   (ao (aX (aG (dq hu) (pv 1) (bI (aj bA (aj bA au))) (aL _)) (ao (aM (bQ (pv 0) T.cl FS.me GS hr FS.b .nil passes)))
   (ao (aX (PW.pt (m_ (aG vL (bZ cX (pv 1) aB (fun _ _=>rfl)) bA (aL _)) (jV (gw (aJ (pv 0) rfl) (fun _=>rfl))))) (ao (bO X.made X.cls X.ok av rfl X.m X.b rfl bF)) aP))))))))),?_⟩
  obtain⟨w1,w2,w3,w4,_⟩:=o7 hok
  obtain⟨dx,lt,lf,ev,k0,tas,fas,ads,D⟩:=id ah
  have at_:∀{H':Hp},aA H H'→jz C FC PC H' p M ts i fs (.en e O) dx lt lf ev k0 tas fas ads∧cO H' x a∧aA (off M H) (off M H'):=fun{H'} s'=>by
   have kp:=rO.of_same D.there s'
   exact⟨D.keep kp,(ai.same (aU _ _)).same s',kp.out⟩
  have j:∀y:TK,y≠.eof→x=y→∀fs e k,CW x fs e k=around y fs e:=fun y hy z fs e k=>by unfold CW;rw[z,i9 hy]
  obtain⟨D0,t0,_⟩:=at_ (aA.refl H)
  refine⟨_,rfl,(by show 2≤sizeLine;decide),fun q1 af=>mJ t0 af "word" (.str "then") (.inl ⟨_,rfl⟩) ⟨_,rfl,?_⟩⟩
  have s1:aA H (L2.upd H q1 (.tup [.str "word",.str "then"])):=aA.upd af
  generalize L2.upd H q1 (.tup [.str "word",.str "then"])=H1 at *
  obtain⟨D1,t1,o1⟩:=at_ s1
  rw[w1]
  by_cases h1:x=wd "then"
  ·rw[i8 h1]
   have S:=j (wd "then") (by decide) h1 fs e O
   exact bh ⟨_,rfl,p,dx,_,rfl,D1.obj,rfl,p,M,ts,i,fs,e,O,0,rfl,by decide,⟨dx,lt,lf,ev,k0,tas,fas,ads,D1⟩,hw,fun fs' m' G Z H' L J=>k fs' m' (by rw[S];exact G) Z H' L (o1.trans J),fun G=>(kr (by rw[S];exact G)).mono o1⟩
  rw[j4 h1]
  refine aQ ⟨_,rfl,(by show 2≤sizeLine;decide),fun q2 ag=>mJ t1 ag "word" (.str "else") (.inl ⟨_,rfl⟩) ⟨_,rfl,?_⟩⟩
  have s2:=s1.trans (aA.upd (o:=.tup [.str "word",.str "else"]) ag)
  generalize L2.upd H1 q2 (.tup [.str "word",.str "else"])=H2 at *
  obtain⟨D2,t2,o2⟩:=at_ s2
  rw[w2]
  by_cases h2:x=wd "else"
  ·rw[i8 h2]
   have S:=j (wd "else") (by decide) h2 fs e O
   exact bh ⟨_,rfl,p,dx,_,rfl,D2.obj,rfl,p,M,ts,i,fs,e,O,1,rfl,by decide,⟨dx,lt,lf,ev,k0,tas,fas,ads,D2⟩,hw,fun fs' m' G Z H' L J=>k fs' m' (by rw[S];exact G) Z H' L (o2.trans J),fun G=>(kr (by rw[S];exact G)).mono o2⟩
  rw[j4 h2]
  refine aQ ⟨_,rfl,(by show 2≤sizeLine;decide),fun q3 ac=>mJ t2 ac "mark" (.str ",") (.inl ⟨_,rfl⟩) ⟨_,rfl,?_⟩⟩
  have s3:=s2.trans (aA.upd (o:=.tup [.str "mark",.str ","]) ac)
  generalize L2.upd H2 q3 (.tup [.str "mark",.str ","])=H3 at *
  obtain⟨D3,t3,o3⟩:=at_ s3
  rw[w3]
  by_cases h3:x=sg ","
  ·rw[i8 h3]
   have S:=j (sg ",") (by decide) h3 fs e O
   exact bh ⟨_,rfl,p,dx,_,rfl,D3.obj,rfl,p,M,ts,i,fs,e,O,rfl,⟨dx,lt,lf,ev,k0,tas,fas,ads,D3⟩,hw,fun fs' m' G Z H' L J=>k fs' m' (by rw[S];exact G) Z H' L (o3.trans J),fun G=>(kr (by rw[S];exact G)).mono o3⟩
  rw[j4 h3]
  refine aQ ⟨_,rfl,(by show 2≤sizeLine;decide),fun q4 ae=>mJ t3 ae "mark" (.str ")") (.inl ⟨_,rfl⟩) ⟨_,rfl,?_⟩⟩
  have s4:=s3.trans (aA.upd (o:=.tup [.str "mark",.str ")"]) ae)
  generalize L2.upd H3 q4 (.tup [.str "mark",.str ")"])=H4 at *
  obtain⟨Y,t4,o4⟩:=at_ s4
  rw[w4]
  by_cases h4:x=sg ")"
  ·rw[i8 h4]
   have S:=j (sg ")") (by decide) h4 fs e O
   exact bh ⟨_,rfl,p,dx,_,rfl,Y.obj,rfl,p,M,ts,i,fs,e,O,rfl,⟨dx,lt,lf,ev,k0,tas,fas,ads,Y⟩,hw,fun fs' m' G Z H' L J=>k fs' m' (by rw[S];exact G) Z H' L (o4.trans J),fun G=>(kr (by rw[S];exact G)).mono o4⟩
  rw[j4 h4]
  obtain⟨xs,al,ar⟩:=Nm (K:=K) t4
  refine aQ ⟨_,rfl,a,_,_,_,rfl,rfl,al,ar,rfl,_,rfl,?_⟩
  have et:(!decide (V.str (tag x)=V.str "end"))=!decide (x=.eof):=by
   rw[←Np hok]
   congr 1
   rw[decide_eq_decide]
   exact⟨fun z=>V.str.inj z,fun z=>by rw[z]⟩
  rw[et]
  have b:CW x fs e O=none→bz Ce (-6) H4 E:=fun h=>(kr h).mono ((aU M H).trans s4)
  by_cases h5:x=.eof
  ·rw[i8 h5]
   refine aQ ⟨_,rfl,p,PC,dx,_,_,rfl,Y.obj,T.cl,T.nF,rfl,_,.inl ⟨_,bV.of Y.fl,rfl⟩,?_⟩
   cases fs with
   | nil =>
    have hf:=Y.frs
    cases hf
    exact aQ (k [] (.en e O) (by unfold CW;rw[jI h5]) M H4 ⟨dx,lt,lf,ev,k0,tas,_,_,Y⟩ o4)
   | cons fr r =>
    obtain⟨U,fa,rfl⟩:∃U fa,fas=fa::U:=by
     cases Y.frs with
     | cons a b=>exact⟨_,_,rfl⟩
    rw[Bb,show(!(U.reverse.map V.ref++[V.ref fa]).isEmpty)=true by simp]
    exact bh (b (by unfold CW;rw[jI h5])).go
  ·rw[j4 h5]
   refine bh (bh (b ?_).go)
   unfold CW
   rw[i9 h5]
   unfold PM.around
   rw[i9 h1,i9 h2,i9 h3,i9 h4]
noncomputable def vW(x:TK)(fs:List Fr)(e:Exp)(k:Nat):Option (List Fr×Md):=match PM.bU x with
 | some j=>PM.nq j fs e k
 | none=>CW x (cD fs e k).1 (cD fs e k).2.1 (cD fs e k).2.2
noncomputable def Rf(C FC PC Ce:Addr):Sp:=fun vs H Q E=>∃(p a:Addr)(M:List Addr)(ts:List TK)(i:Nat)(fs:List Fr)(e:Exp)(k:Nat)(x:TK),vs=[.ref p,.ref a]∧jK C FC PC H p M ts i fs (.en e k)∧cO (off M H) x a∧eV x∧jm fs+Vbdeam.size e≤2000 ∧
 (∀fs' z,vW x fs e k=some (fs',z)→∀j H',jK C FC PC H' p j ts i fs' z→aA (off M H) (off j H')→Q .non H')∧(vW x fs e k=none→bz Ce (-6) (off M H) E)
theorem Ly{x:TK}(h:eV x):(∀s,x=.sign s→s∈dY→∃o:Bin,PM.bU x=some (.bin o)∧dY.idxOf s=qW o)∧(decide (tag x = "two")=true→∃s,x=.sign s∧s∈dY)∧(decide (tag x = "two")=false→x≠wd "and"→x≠wd "or"→PM.bU x=none):=by
 have f1:∀s∈dY,∃o∈Vbdeaa.BINS,PM.bU (.sign s)=some (.bin o)∧dY.idxOf s=qW o:=by decide +kernel
 have f2:∀s∈z7,decide (tag (.sign s) = "two")=false∧PM.bU (.sign s)=none:=by decide +kernel
 have F:∀s∈dY,decide (tag (.sign s) = "two")=true:=by decide +kernel
 have J:∀n∈Vbdeaa.WORDS,Vbdeaa.Tok.word n=wd "and"∨Vbdeaa.Tok.word n=wd "or"∨PM.bU (.word n)=none:=by decide +kernel
 refine⟨fun s hx D=>?_,fun j=>?_,fun j h1 h2=>?_⟩
 ·subst hx
  obtain⟨o,_,a,b⟩:=f1 s D
  exact⟨o,a,b⟩
 ·cases x with
  | sign s =>
   rcases h with h | h
   ·rw[(f2 s h).1]at j;cases j
   ·exact⟨s,rfl,h⟩
  | _=>cases j
 ·cases x with
  | num q=>exact(PM.sZ (fun p G z=>by revert z;revert p;simp[PM.rm,Vbdeaa.wd,Vbdeaa.sg])).1
  | name n=>exact(PM.sZ (fun p G z=>by revert z;revert p;simp[PM.rm,Vbdeaa.wd,Vbdeaa.sg])).1
  | word n =>
   rcases J n h with z | z | z
   ·exact absurd z h1
   ·exact absurd z h2
   ·exact z
  | sign s =>
   rcases h with h | h
   ·exact(f2 s h).2
   ·rw[F s h]at j;cases j
  | eof=>decide
  | bad=>exact h.elim
end
section
theorem VJ:aK ["self","token"] ["self","token"] (aD (aY 8)):=⟨rfl,rfl,rfl,by decide +kernel,rfl,by decide +kernel,by decide +kernel⟩
theorem Ut{f C FC PC Ce fJ fE fA:Addr}{fd dJ dE dA:FuncData}(F:fc K "go_on" "Parser.go_on" (aY 8) f fd)(T:iY K PC)(N:CN K mg)
  (FJ:Fm K PC "join_two" "Parser.join_two" (aY 10) fJ dJ ["self","form","detail"]) (GJ:aF P w K mg base (aW P w) 5 fJ dJ ["self","form","detail"] (Ao C FC PC Ce)) (FE:Fm K PC "end_parts" "Parser.end_parts" (aY 11) fE dE ["self"]) (GE:aF P w K mg base (aW P w) 5 fE dE ["self"] (Av C FC PC))
  (FA:Fm K PC "go_on_around" "Parser.go_on_around" (aY 9) fA dA ["self","token"]) (GA:aF P w K mg base (aW P w) 6 fA dA ["self","token"] (Jl C FC PC Ce)):aF P w K mg base (aW P w) 7 f fd ["self","token"] (Rf C FC PC Ce):=by
 refine d9 F VJ (fun vs H Q E h=>?_) (fun cdv A outer s H vs Q E hr h=>?_)
 ·obtain⟨_,_,_,_,_,_,_,_,_,rfl,_⟩:=h
  rfl
 ·obtain⟨p,a,M,ts,i,fs,e,kd,x,rfl,U,Y,hok,hw,k,kr⟩:=h
  have S:bG 5 _:=hr.mono (by omega)
  have hu:=vU hr
  refine⟨_,ao (aX (aG cz (bZ cX (pv 1) aB (fun _ _=>rfl)) bA (aL _)) (ao (aM (bc (pv 0) T.cl FJ.me GJ S FJ.b .nil passes (aj (bw rfl N.TWO) (aj (bZ cX (pv 1) aB (fun _ _=>rfl)) au)))))
   (ao (aX (aG (dq hu) (pv 1) (bI (aj bA (aj bA au))) (aL _)) (ao (aM (bc (pv 0) T.cl FJ.me GJ S FJ.b .nil passes (aj (bw rfl N.AND) (aj aB au)))))
   (ao (aX (aG (dq hu) (pv 1) (bI (aj bA (aj bA au))) (aL _)) (ao (aM (bc (pv 0) T.cl FJ.me GJ S FJ.b .nil passes (aj (bw rfl N.OR) (aj aB au)))))
    (aq (aM (bQ (pv 0) T.cl FE.me GE S FE.b .nil passes)) (ao (aM (bc (pv 0) T.cl FA.me GA hr FA.b .nil passes (aj (pv 1) au)))))))))),?_⟩
  obtain⟨_,_,_,_,_,_,w1,w2⟩:=o7 hok
  obtain⟨j1,j2,j3⟩:=Ly hok
  obtain⟨dx,lt,lf,ev,k0,tas,fas,ads,D⟩:=id U
  have at_:∀{H':Hp},aA H H'→jz C FC PC H' p M ts i fs (.en e kd) dx lt lf ev k0 tas fas ads∧cO H' x a∧aA (off M H) (off M H')∧cO (off M H') x a:=fun{H'} s'=>by
   have kp:=rO.of_same D.there s'
   exact⟨D.keep kp,(Y.same (aU _ _)).same s',kp.out,Y.same kp.out⟩
  obtain⟨D0,t0,_⟩:=at_ (aA.refl H)
  obtain⟨v,ae,aC,al⟩:=oG (K:=K) t0
  refine⟨_,rfl,a,_,_,_,rfl,rfl,cR.of ae,at_of (j:=0) rfl rfl,rfl,_,rfl,?_⟩
  rw[show decide (V.str (tag x)=V.str "two")=decide (tag x = "two") by rw[decide_eq_decide];exact⟨fun z=>V.str.inj z,fun z=>by rw[z]⟩]
  cases h1:decide (tag x = "two")with
  | true =>
   obtain⟨s0,rfl,ac⟩:=j2 h1
   obtain⟨o,ah,ar⟩:=j1 s0 rfl ac
   have hv:v=.int (qW o):=by
    have:v=(rB s0).2:=al
    rw[this,Dk ac,ar]
   subst hv
   have J:∀fs e k,vW (.sign s0) fs e k=PM.nq (.bin o) fs e k:=fun fs e k=>by unfold vW;rw[ah]
   exact bh ⟨_,rfl,p,dx,_,rfl,D.obj,rfl,_,rfl,a,_,_,_,rfl,rfl,cR.of ae,at_of (j:=1) rfl rfl,p,M,ts,i,fs,e,kd,.bin o,rfl,U,hw,fun fs' m' G=>k fs' m' (by rw[J];exact G),fun G=>kr (by rw[J];exact G)⟩
  | false =>
   refine aQ ⟨_,rfl,(by show 2≤sizeLine;decide),fun q1 af=>mJ t0 af "word" (.str "and") (.inl ⟨_,rfl⟩) ⟨_,rfl,?_⟩⟩
   have s1:aA H (L2.upd H q1 (.tup [.str "word",.str "and"])):=aA.upd af
   generalize L2.upd H q1 (.tup [.str "word",.str "and"])=H1 at *
   obtain⟨D1,t1,o1,_⟩:=at_ s1
   rw[w1]
   by_cases h2:x=wd "and"
   ·rw[i8 h2]
    have J:∀fs e k,vW x fs e k=PM.nq .and fs e k:=fun fs e k=>by unfold vW;rw[h2,show PM.bU (wd "and")=some .and by decide]
    exact bh ⟨_,rfl,p,dx,_,rfl,D1.obj,rfl,p,M,ts,i,fs,e,kd,.and,rfl,⟨dx,lt,lf,ev,k0,tas,fas,ads,D1⟩,hw,fun fs' m' G M' H' O L=>k fs' m' (by rw[J];exact G) M' H' O (o1.trans L),fun G=>(kr (by rw[J];exact G)).mono o1⟩
   rw[j4 h2]
   refine aQ ⟨_,rfl,(by show 2≤sizeLine;decide),fun q2 ag=>mJ t1 ag "word" (.str "or") (.inl ⟨_,rfl⟩) ⟨_,rfl,?_⟩⟩
   have s2:=s1.trans (aA.upd (o:=.tup [.str "word",.str "or"]) ag)
   generalize L2.upd H1 q2 (.tup [.str "word",.str "or"])=H2 at *
   obtain⟨D2,t2,o2,_⟩:=at_ s2
   rw[w2]
   by_cases h3:x=wd "or"
   ·rw[i8 h3]
    have J:∀fs e k,vW x fs e k=PM.nq .or fs e k:=fun fs e k=>by unfold vW;rw[h3,show PM.bU (wd "or")=some .or by decide]
    exact bh ⟨_,rfl,p,dx,_,rfl,D2.obj,rfl,p,M,ts,i,fs,e,kd,.or,rfl,⟨dx,lt,lf,ev,k0,tas,fas,ads,D2⟩,hw,fun fs' m' G M' H' O L=>k fs' m' (by rw[J];exact G) M' H' O (o2.trans L),fun G=>(kr (by rw[J];exact G)).mono o2⟩
   rw[j4 h3]
   have hj:=j3 h1 h2 h3
   have J:∀fs e k,vW x fs e k=CW x (cD fs e k).1 (cD fs e k).2.1 (cD fs e k).2.2:=fun fs e k=>by unfold vW;rw[hj]
   refine aQ ⟨_,rfl,p,dx,_,rfl,D2.obj,rfl,p,M,ts,i,fs,e,kd,rfl,⟨dx,lt,lf,ev,k0,tas,fas,ads,D2⟩,hw,fun M3 H3 aa Z=>?_⟩
   obtain⟨ai,ay,aE,aI,aS,aw,av,ax,D3⟩:=id aa
   refine⟨_,rfl,p,ai,_,rfl,D3.obj,rfl,_,rfl,p,a,M3,ts,i,_,_,_,x,rfl,aa,Y.same (o2.trans Z),hok,ip Kl hw,fun fs' m' G M' H' O L=>k fs' m' (by rw[J];exact G) M' H' O ((o2.trans Z).trans L),fun G=>(kr (by rw[J];exact G)).mono (o2.trans Z)⟩
end
structure CO (K:PySem.W.Frag) (mg:Str→Option Value):Prop where
 OP:GC K mg "OPENING" (.t [.s "mark",.s "("])
 MI:GC K mg "MINUS" (.t [.s "two",.i 1])
theorem xq{K:PySem.W.Frag}{v:V}(h:jE K (.t [.s "mark",.s "("]) v):∃a,v=.ref a∧∀H:Hp,cR K H a [.str "mark",.str "("]:=by
 obtain⟨a,xs,rfl,j,z⟩:=jE.tup h
 cases z with
 | cons h1 t1 =>
  cases t1 with
  | cons h2 t2 =>
   cases t2
   rw[jE.str h1,jE.str h2]at j
   exact⟨a,rfl,j⟩
theorem Lj{K:PySem.W.Frag}{v:V}(h:jE K (.t [.s "two",.i 1]) v):∃a,v=.ref a∧∀H:Hp,cR K H a [.str "two",.int 1]:=by
 obtain⟨a,xs,rfl,j,z⟩:=jE.tup h
 cases z with
 | cons h1 t1 =>
  cases t1 with
  | cons h2 t2 =>
   cases t2
   rw[jE.str h1,jE.int h2]at j
   exact⟨a,rfl,j⟩
theorem mH{K:PySem.W.Frag}{H:Hp}{x:TK}{a q:Addr}(neg:Bool)(h:cO H x a){b:Str}{u:V}(D:cR K H q [.str b,u])(F:(∃c,u=.str c)∨∃c,u=.int c){j:VK}(k:j (.bl (if neg=true then !cQ x b u else cQ x b u)) H):N8 K neg (.ref a) (.ref q) H j:=by
 obtain⟨v,h1,h2,z⟩:=oG (K:=K) h
 refine⟨a,q,tag x,b,v,u,rfl,rfl,cR.of h1,D,F,h2,?_⟩
 rw[Ij z b u]
 exact k
noncomputable def Dr(C FC PC Ce:Addr):Sp:=fun vs H Q E=>∃(p:Addr)(M:List Addr)(ts:List TK)(i:Nat)(fs:List Fr)(f:Fr)(y:TK),vs=[.ref p,.int (bH f),jA f]∧jK C FC PC H p M ts i fs .beg∧ts[i]?=some y∧eV y∧uD f∧bj f=[]∧fs.length≤3000 ∧
 (∀fs' z,y=sg "("→PM.push fs f=some (fs',z)→∀j H',jK C FC PC H' p j ts (i+1) fs' z→aA (off M H) (off j H')→Q .non H')∧((y≠sg "("∨PM.push fs f=none)→bz Ce (-6) (off M H) E)
theorem jz.tok{C FC PC:Addr}{H:Hp}{p:Addr}{M:List Addr}{ts:List TK}{i:Nat}{fs:List Fr}{md:Md}{dx lt lf:Addr}{ev:V}{k0:Int}{tas fas ads:List Addr}(D:jz C FC PC H p M ts i fs md dx lt lf ev k0 tas fas ads){j:Nat}{y:TK}(h:ts[j]?=some y):∃a,tas[j]?=some a∧cO (off M H) y a:=d8 D.tks h
section
theorem Uh:aK ["self","form","detail"] ["self","form","detail"] (aD (aY 7)):=⟨rfl,rfl,rfl,by decide +kernel,rfl,by decide +kernel,by decide +kernel⟩
theorem R5{f C FC PC Ce fT fU fI:Addr}{fd dT dU dI:FuncData}(F:fc K "begin_brackets" "Parser.begin_brackets" (aY 7) f fd)(T:iY K PC)(O:CO K mg)(X:XC P w K mg base "NoExpression" Ce fI dI (-6))(FT:Fm K PC "take" "Parser.take" (aY 1) fT dT ["self"])
  (FU:Fm K PC "push" "Parser.push" (aY 3) fU dU ["self","form","detail","parts"]) (GU:aF P w K mg base (aW P w) 4 fU dU ["self","form","detail","parts"] (jc C FC PC Ce)):aF P w K mg base (aW P w) 5 f fd ["self","form","detail"] (Dr C FC PC Ce):=by
 have ag:aF P w K mg base (aW P w) 1 fT dT ["self"] (Aj PC):=Ec FT.F T
 refine d9 F Uh (fun vs H Q E h=>?_) (fun cdv A outer s H vs Q E L h=>?_)
 ·obtain⟨_,_,_,_,_,_,_,rfl,_⟩:=h
  rfl
 ·obtain⟨p,M,ts,i,fs,fr,y,rfl,⟨dx,lt,lf,ev,k0,tas,fas,ads,D⟩,hy,hok,J,Y,ac,k,kr⟩:=h
  have ae:bG 1 _:=L.mono (by omega)
  have af:bG 3 _:=L.mono (by omega)
  have hu:=vU L
  refine⟨_,aq (aX (aG (Gv hu) (bQ (pv 0) T.cl FT.me ag ae FT.b .nil passes) (Gu rfl O.OP) (aL _)) (ao (bO X.made X.cls X.ok af rfl X.m X.b rfl bF)) aP)
   (ao (aM (bc (pv 0) T.cl FU.me GU L FU.b .nil passes (aj (pv 1) (aj (pv 2) (aj (bT au) au)))))),?_⟩
  obtain⟨a,ha,U⟩:=D.tok hy
  refine⟨_,rfl,p,dx,_,rfl,D.obj,rfl,p,dx,lt,lf,a,i,_,ev,k0,tas,rfl,D.obj,aU _ _ _ _ D.tl,ha,fun v hv=>?_⟩
  obtain⟨D1,j⟩:=D.set (i':=i+1) D.md
  obtain⟨oa,rfl,Z⟩:=xq hv
  have t1:cO (L2.upd H p (.ins PC dx (ie lt (i+1) lf (nest fs) ev k0))) y a:=by
   have:cO (off M (L2.upd H p (.ins PC dx (ie lt (i+1) lf (nest fs) ev k0)))) y a:=by rw[j];exact U
   exact this.same (aU _ _)
  obtain⟨_,_,_,_,w5,_⟩:=o7 hok
  refine mH true t1 (Z _) (.inl ⟨_,rfl⟩) ⟨_,rfl,?_⟩
  rw[w5]
  have sm:aA (off M H) (L2.upd H p (.ins PC dx (ie lt (i+1) lf (nest fs) ev k0))):=by rw[←j];exact aU _ _
  by_cases z:y=sg "("
  ·rw[i8 z]
   refine aQ ⟨_,rfl,p,dx,_,rfl,D1.obj,rfl,_,rfl,_,rfl,(by show 0≤sizeLine;decide),fun lp S=>?_⟩
   refine⟨p,lp,M,ts,i+1,fs,.beg,fr,[],_,rfl,⟨dx,lt,lf,ev,k0,tas,fas,ads,D1⟩,S,rfl,by rw[Y];exact .nil,J,ac,fun hn M2 H2 aa G=>?_,fun hn=>?_⟩
   ·rw[j]at G
    exact k _ _ z (by unfold PM.push;rw[i9 (by omega)]) M2 H2 aa G
   ·rw[j]
    exact kr (.inr (by unfold PM.push;rw[jI hn]))
  ·rw[j4 z]
   exact bh ((kr (.inl z)).mono sm).go
end
end SB
end
section
namespace SB
open PySem PySem.Spec PyProof.Rows L2 XL
open Vbdeaa (Text Exp Exps Un Bin Ins wd sg text)
open PM (Fr Jn Hd Md nest cD fj around)
variable {P:Program} {w:World} {K:PySem.W.Frag} {mg:Str→Option Value} {base:Heap}
theorem Be{fs:List Fr}{f:Fr}(h:nest fs+f.around≤32):PM.push fs f=some (f::fs,.beg):=by unfold PM.push;rw[i9 (by omega)]
theorem Bf{fs:List Fr}{f:Fr}(h:32<nest fs+f.around):PM.push fs f=none:=by unfold PM.push;rw[jI h]
noncomputable def E_(y:TK)(fs:List Fr)(f:Fr):Option (Nat×List Fr×Md):=if y=sg "(" then(PM.push fs f).map fun z=>(1,z)else none
noncomputable def Pb(n:Text)(y:TK)(fs:List Fr):Option (Nat×List Fr×Md):=if y=sg "(" then(PM.push fs (.lst (.call n) [])).map fun z=>(1,z)else some (0,fs,.en (.name n) 9)
noncomputable def wdX(w:Text)(y:TK)(fs:List Fr):Option (Nat×List Fr×Md) :=
 if w=text "if"∧PM.top fs=0 then(PM.push fs .if0).map fun z=>(0,z)
 else if w=text "not"∧PM.top fs≤3 then(PM.push fs (.un .not)).map fun z=>(0,z)
 else match Vbdeaa.oneOf (.word w)with
  | some o=>E_ y fs (.un o)
  | none=>if w=text "min" then E_ y fs (.lst (.best false) [])else if w=text "max" then E_ y fs (.lst (.best true) [])else none
noncomputable def QR(x y:TK)(fs:List Fr):Option (Nat×List Fr×Md):=match x with
 | .num q=>some (0,fs,.en (.num q) 9)
 | .name n=>Pb n y fs
 | .word w=>wdX w y fs
 | x=>if x=sg "(" then(PM.push fs .grp).map fun z=>(0,z)else if x=sg "-" then(PM.push fs (.un .neg)).map fun z=>(0,z)else none
noncomputable def Wq(C FC PC Ce:Addr)(v:V)(g:TK→List Fr→Option (Nat×List Fr×Md)):Sp:=fun vs H Q E=>∃(p:Addr)(M:List Addr)(ts:List TK)(i:Nat)(fs:List Fr)(y:TK),vs=[.ref p,v]∧jK C FC PC H p M ts i fs .beg∧ts[i]?=some y∧eV y∧fs.length≤3000 ∧
 (∀d fs' z,g y fs=some (d,fs',z)→∀j H',jK C FC PC H' p j ts (i+d) fs' z→aA (off M H) (off j H')→Q .non H')∧(g y fs=none→bz Ce (-6) (off M H) E)
noncomputable def Jp(C FC PC Ce:Addr):Sp:=fun vs H Q E=>∃n:Text,Wq C FC PC Ce (.str (bD n)) (Pb n) vs H Q E
noncomputable def Jo(C FC PC Ce:Addr):Sp:=fun vs H Q E=>∃n:Text,n∈Vbdeaa.WORDS∧Wq C FC PC Ce (.str (bD n)) (wdX n) vs H Q E
theorem jz.tops{C FC PC:Addr}{H:Hp}{p:Addr}{M:List Addr}{ts:List TK}{i:Nat}{fs:List Fr}{md:Md}{dx lt lf:Addr}{ev:V}{k0:Int}{tas fas ads:List Addr}(D:jz C FC PC H p M ts i fs md dx lt lf ev k0 tas fas ads):(fs=[]∧fas=[])∨∃fr r fa z lp j,fs=fr::r∧fas=fa::z∧H fa=some (.ins FC j (Sw fr lp)):=by
 cases D.frs with
 | nil=>exact .inl ⟨rfl,rfl⟩
 | cons a b=>obtain⟨j,as,h1,_⟩:=a;exact .inr ⟨_,_,_,_,_,j,rfl,rfl,h1⟩
section
theorem Ui:aK ["self","name"] ["self","name"] (aD (aY 5)):=⟨rfl,rfl,rfl,by decide +kernel,rfl,by decide +kernel,by decide +kernel⟩
theorem R6{f C FC PC Ce fW fU:Addr}{fd dW dU:FuncData}(F:fc K "begin_name" "Parser.begin_name" (aY 5) f fd)(T:iY K PC)(O:CO K mg)(Y:GC K mg "CALL" (.i 8))(U:GC K mg "NAME" (.i 1))
  (FU:Fm K PC "push" "Parser.push" (aY 3) fU dU ["self","form","detail","parts"]) (GU:aF P w K mg base (aW P w) 4 fU dU ["self","form","detail","parts"] (jc C FC PC Ce)) (FW:Fm K PC "end_with" "Parser.end_with" (aY 13) fW dW ["self","form","detail","parts"]) (GW:aF P w K mg base (aW P w) 3 fW dW ["self","form","detail","parts"] (t8 C FC PC)):aF P w K mg base (aW P w) 5 f fd ["self","name"] (Jp C FC PC Ce):=by
 refine d9 F Ui (fun vs H Q E h=>?_) (fun cdv A outer s H vs Q E hr h=>?_)
 ·obtain⟨_,_,_,_,_,_,_,rfl,_⟩:=h
  rfl
 ·obtain⟨n,p,M,ts,i,fs,y,rfl,J,hy,hok,ac,k,kr⟩:=h
  obtain⟨dx,lt,lf,ev,k0,tas,fas,ads,D⟩:=id J
  have ag:bG 3 _:=hr.mono (by omega)
  have hu:=vU hr
  refine⟨_,ao (aX (aG (dq hu) (bZ dh (aJ (pv 0) rfl) (aJ (pv 0) rfl) (fun _ _=>rfl)) (Gu rfl O.OP) (aL _))
   (aq (cH (pv 0) aB gC) (ao (aM (bc (pv 0) T.cl FU.me GU hr FU.b .nil passes (aj (bw rfl Y) (aj (pv 1) (aj (bT au) au)))))))
   (ao (aM (bc (pv 0) T.cl FW.me GW ag FW.b .nil passes (aj (bw rfl U) (aj (pv 1) (aj (bT au) au))))))),?_⟩
  obtain⟨a,ha,S⟩:=D.tok hy
  refine⟨_,rfl,p,PC,dx,_,_,rfl,D.obj,T.cl,T.nT,rfl,_,rfl,p,PC,dx,_,_,rfl,D.obj,T.cl,T.nA,rfl,lt,_,_,V.ref a,rfl,rfl,bV.of (aU _ _ _ _ D.tl),jw (by rw[iA,ha];rfl),fun v hv=>?_⟩
  obtain⟨oa,rfl,Z⟩:=xq hv
  obtain⟨_,_,_,_,w5,_⟩:=o7 hok
  refine mH false (S.same (aU _ _)) (Z _) (.inl ⟨_,rfl⟩) ⟨_,rfl,?_⟩
  rw[w5]
  by_cases j:y=sg "("
  ·rw[i8 j]
   obtain⟨D1,z⟩:=D.set (i':=i+1) D.md
   refine bh ⟨_,rfl,p,PC,dx,_,_,rfl,D.obj,T.cl,T.nA,rfl,_,_,rfl,rfl,dx,_,D.obj,(by show 6<1000;decide),?_⟩
   refine⟨_,rfl,p,dx,_,rfl,D1.obj,rfl,_,rfl,(by show 0≤sizeLine;decide),fun lp L=>?_⟩
   refine⟨p,lp,M,ts,i+1,fs,.beg,.lst (.call n) [],[],_,rfl,⟨dx,lt,lf,ev,k0,tas,fas,ads,D1⟩,L,rfl,.nil,rfl,ac,fun hn M2 H2 aa G=>?_,fun hn=>?_⟩
   ·rw[z]at G
    exact k 1 (.lst (.call n) []::fs) .beg (by unfold Pb;rw[jI j,Be hn];rfl) M2 H2 aa G
   ·rw[z]
    exact kr (by unfold Pb;rw[jI j,Bf hn];rfl)
  ·rw[j4 j]
   refine aQ ⟨_,rfl,p,dx,_,rfl,D.obj,rfl,_,rfl,(by show 0≤sizeLine;decide),fun l hl=>?_⟩
   have kp:=rO.of_same D.there (aA.upd (o:=.lst []) hl)
   refine⟨p,M,ts,i,fs,.beg,.name n,.str (bD n),l,[],rfl,⟨dx,lt,lf,ev,k0,tas,fas,ads,D.keep kp⟩,rfl,lN D.there hl,.nil,by decide,fun H' af ae=>?_⟩
   exact k 0 fs (.en (.name n) 9) (by unfold Pb;rw[i9 j]) M H' af (kp.out.trans ae)
structure WQ (K:PySem.W.Frag) (mg:Str→Option Value) (a1 a2:Addr) (x1 x2:List V):Prop where
 ON:GT K mg "ONE_WORDS" (vq.map TV.s) a1 x1
 PK:GT K mg "PICK_WORDS" (q_.map TV.s) a2 x2
noncomputable def fY(w:Text):Nat×Nat:=if w=text "if" then(0,0)else if w=text "not" then(1,0)else match Vbdeaa.oneOf (.word w)with
 | some o=>(2,wz o)
 | none=>if w=text "min" then(3,0)else if w=text "max" then(3,1)else(4,0)
theorem Ia:∀w∈Vbdeaa.WORDS,decide (bD w = "if")=decide (w=text "if")∧decide (bD w = "not")=decide (w=text "not")∧(inV (.str (bD w)) (vq.map V.str)=decide ((fY w).1=1∨(fY w).1=2))∧(inV (.str (bD w)) (q_.map V.str)=decide ((fY w).1=3)):=by decide +kernel
theorem QZ:∀w∈Vbdeaa.WORDS,∀o∈Vbdeaa.UNS,Vbdeaa.oneOf (.word w)=some o→(vq.map V.str)[wz o]?=some (V.str (bD w))∧(∀m∈List.range (wz o),(vq.map V.str)[m]?≠some (V.str (bD w)))∧(fY w).1=2∧w≠text "not"∧w≠text "if":=by decide +kernel
theorem Ni:∀w∈Vbdeaa.WORDS,Vbdeaa.oneOf (.word w)=none→(fY w).1≠2∧((fY w).1=3↔(w=text "min"∨w=text "max"))∧((fY w).1=1↔w=text "not"):=by decide +kernel
end
theorem SJ{y:TK}{fs fs':List Fr}{f:Fr}{j:Md}(z:y=sg "(")(h:PM.push fs f=some (fs',j)):E_ y fs f=some (1,fs',j):=by unfold E_;rw[jI z,h];rfl
theorem Vc{y:TK}{fs:List Fr}{f:Fr}(h:y≠sg "("∨PM.push fs f=none):E_ y fs f=none:=by
 unfold E_
 by_cases j:y=sg "("
 ·rcases h with h | h
  ·exact absurd j h
  ·rw[jI j,h];rfl
 ·rw[i9 j]
theorem Nj(o:Un):o∈Vbdeaa.UNS:=by cases o<;>decide
section
theorem QC:aK ["self","word","place"] ["self","word"] (aD (aY 6)):=⟨rfl,rfl,rfl,by decide +kernel,rfl,by decide +kernel,by decide +kernel⟩
theorem R4{f C FC PC Ce fU fB fK fI a1 a2:Addr}{x1 x2:List V}{fd dU dB dK dI:FuncData}(F:fc K "begin_word" "Parser.begin_word" (aY 6) f fd)(T:iY K PC)(TF:gb K FC)(N:CN K mg)(G:CG K mg)(aS:GC K mg "PICK" (.i 7))(W:WQ K mg a1 a2 x1 x2)(X:XC P w K mg base "NoExpression" Ce fI dI (-6))
  (FU:Fm K PC "push" "Parser.push" (aY 3) fU dU ["self","form","detail","parts"]) (GU:aF P w K mg base (aW P w) 4 fU dU ["self","form","detail","parts"] (jc C FC PC Ce)) (FB:Fm K PC "begin_brackets" "Parser.begin_brackets" (aY 7) fB dB ["self","form","detail"]) (GB:aF P w K mg base (aW P w) 5 fB dB ["self","form","detail"] (Dr C FC PC Ce))
  (FK:Fn K mg "kind_of" qC fK dK ["form","detail"]):aF P w K mg base (aW P w) 6 f fd ["self","word"] (Jo C FC PC Ce):=by
 have GK:aF P w K mg base (aW P w) 1 fK dK ["form","detail"] t7:=sU FK N
 have e1:x1=vq.map V.str:=mF W.ON.pr
 have e2:x2=q_.map V.str:=mF W.PK.pr
 subst e1 e2
 refine d9 F QC (fun vs H Q E h=>?_) (fun cdv A outer s H vs Q E hr h=>?_)
 ·obtain⟨_,_,_,_,_,_,_,_,rfl,_⟩:=h
  rfl
 ·obtain⟨n,hn,p,M,ts,i,fs,y,rfl,ae,hy,hok,av,k,kr⟩:=h
  obtain⟨dx,lt,lf,ev,k0,tas,fas,ads,D⟩:=id ae
  have ay:bG 4 _:=hr.mono (by omega)
  have a6:bG 3 _:=hr.mono (by omega)
  have aT:bG 1 _:=hr.mono (by omega)
  obtain⟨F1,F2,F3,F4⟩:=Ia n hn
  have sd:∀z:Str,decide (V.str (bD n)=V.str z)=decide (bD n=z):=fun z=>by rw[decide_eq_decide];exact⟨fun h=>V.str.inj h,fun h=>by rw[h]⟩
  have b:wdX n y fs=none→bz Ce (-6) H E:=fun h=>(kr h).mono (aU M H)
  have tail:∃tr,zX (eU (aW P w) P w K mg base ["self","word","place"] "Parser.begin_word" (aD (aY 6)) f cdv A outer s H E) ((eO (aY 6)).drop 1) tr∧tr { nx:=fun _ H'=>Q .non H',rt:=Q } [some (.ref p),some (.str (bD n)),some (.int (PM.top fs:Nat))] H:=by
   refine⟨_,ao (aX (PW.pt (jW (aG cz (pv 1) bA (aL _)) (gQ (aG cz (pv 2) aB (aL _))))) (ao (aM (bc (pv 0) T.cl FU.me GU ay FU.b .nil passes (aj (bw rfl N.IF) (aj aB (aj (bT au) au))))))
    (ao (aX (PW.pt (jW (aG cz (pv 1) bA (aL _)) (gQ (aG nj (pv 2) (a_ GK aT rfl FK.m FK.F.kp FK.b .nil passes (aj (bw rfl N.ONE) (aj (bw rfl G.NT) au))) (aL _))))) (ao (aM (bc (pv 0) T.cl FU.me GU ay FU.b .nil passes (aj (bw rfl N.ONE) (aj (bw rfl G.NT) (aj (bT au) au))))))
    (ao (aX (PW.pt (jW (aG vL (pv 1) bA (aL _)) (gQ (aG iM (pv 1) (b_ (v:=.ref a1) rfl W.ON.m rfl) rfl)))) (ao (aM (bc (pv 0) T.cl FB.me GB hr FB.b .nil passes (aj (bw rfl N.ONE) (aj (gB PySem.F.plainAttrs_tuple PySem.F.slot_tuple_index PySem.F.type_tuple_index vN (b_ (v:=.ref a1) rfl W.ON.m rfl) (aj (pv 1) au)) au)))))
    (ao (aX (aG iM (pv 1) (b_ (v:=.ref a2) rfl W.PK.m rfl) rfl) (ao (aM (bc (pv 0) T.cl FB.me GB hr FB.b .nil passes (aj (bw rfl aS) (aj (gB PySem.F.plainAttrs_tuple PySem.F.slot_tuple_index PySem.F.type_tuple_index vN (b_ (v:=.ref a2) rfl W.PK.m rfl) (aj (pv 1) au)) au)))))
     (ao (bO X.made X.cls X.ok a6 rfl X.m X.b rfl bF))))))))),?_⟩
   have Z:∀(fr:Fr)(lp:Addr),uD fr→bj fr=[]→wdX n y fs=(PM.push fs fr).map (fun z=>(0,z))→H lp=none→jc C FC PC Ce [.ref p,.int (bH fr),jA fr,.ref lp] (L2.upd H lp (.lst [])) (fun _ H'=>Q .non H') E:=fun fr lp ac ah hx S=>by
    refine⟨p,lp,M,ts,i,fs,.beg,fr,[],H,rfl,ae,S,rfl,by rw[ah];exact .nil,ac,av,fun ag M2 H2 ai al=>?_,fun ag=>kr ?_⟩
    ·exact k 0 (fr::fs) .beg (by rw[hx,Be ag];rfl) M2 H2 ai al
    ·rw[hx,Bf ag];rfl
   have aa:∀(fr:Fr),uD fr→bj fr=[]→wdX n y fs=E_ y fs fr→Dr C FC PC Ce [.ref p,.int (bH fr),jA fr] H (fun _ H'=>Q .non H') E:=fun fr ac ah hx=>by
    refine⟨p,M,ts,i,fs,fr,y,rfl,ae,hy,hok,ac,ah,av,fun fs' m' aI a0 M2 H2 ai al=>?_,fun a4=>kr (by rw[hx];exact Vc a4)⟩
    exact k 1 fs' m' (by rw[hx];exact SJ aI a0) M2 H2 ai al
   have af:(if false=true then !inV (V.str (bD n)) (vq.map V.str)else inV (V.str (bD n)) (vq.map V.str))=decide ((fY n).1=1∨(fY n).1=2):=F3
   have Y:(if false=true then !inV (V.str (bD n)) (q_.map V.str)else inV (V.str (bD n)) (q_.map V.str))=decide ((fY n).1=3):=F4
   refine⟨_,rfl,rfl,_,rfl,?_⟩
   rw[sd,F1]
   by_cases L:n=text "if"
   ·have wc:fY n=(0,0):=by rw[L];decide
    rw[i8 L]
    refine bh ⟨_,rfl,rfl,_,rfl,?_⟩
    by_cases J:PM.top fs=0
    ·rw[J]
     exact bh ⟨_,rfl,p,dx,_,rfl,D.obj,rfl,(by show 0≤sizeLine;decide),fun lp S=>Z .if0 lp trivial rfl (by unfold wdX;rw[jI ⟨L,J⟩]) S⟩
    ·rw[j4 (fun z=>J (by have:=V.int.inj z;omega))]
     have nn:n≠text "not":=by rw[L];decide
     refine aQ ⟨_,rfl,rfl,_,rfl,?_⟩
     rw[sd,F2,j4 nn]
     refine aQ (aQ ⟨_,rfl,rfl,_,rfl,?_⟩)
     rw[sd,F2,j4 nn]
     refine bh ⟨_,rfl,a1,_,rfl,.inr (W.ON.sq _),rfl,rfl,_,rfl,?_⟩
     rw[af,wc]
     refine aQ ⟨_,rfl,a2,_,rfl,.inr (W.PK.sq _),rfl,rfl,_,rfl,?_⟩
     rw[Y,wc]
     refine aQ (b ?_).go
     unfold wdX
     rw[i9 (fun z=>J z.2),i9 (fun z=>nn z.1),L,show Vbdeaa.oneOf (.word (text "if"))=none by decide]
     simp only
     rw[i9 (by decide),i9 (by decide)]
   ·rw[j4 L]
    refine aQ (aQ ⟨_,rfl,rfl,_,rfl,?_⟩)
    rw[sd,F2]
    by_cases j:n=text "not"
    ·have wc:fY n=(1,0):=by rw[j];decide
     rw[i8 j]
     refine bh ⟨_,rfl,_,_,_,rfl,.one rfl,_,_,rfl,rfl,_,rfl,?_⟩
     by_cases J:PM.top fs≤3
     ·rw[i8 (by omega)]
      exact bh ⟨_,rfl,p,dx,_,rfl,D.obj,rfl,(by show 0≤sizeLine;decide),fun lp S=>Z (.un .not) lp trivial rfl (by unfold wdX;rw[i9 (fun z=>L z.1),jI ⟨j,J⟩]) S⟩
     ·rw[j4 (by omega)]
      refine aQ ⟨_,rfl,rfl,_,rfl,?_⟩
      rw[sd,F2,i8 j]
      refine aQ (aQ ⟨_,rfl,a2,_,rfl,.inr (W.PK.sq _),rfl,rfl,_,rfl,?_⟩)
      rw[Y,wc]
      refine aQ (b ?_).go
      unfold wdX
      rw[i9 (fun z=>L z.1),i9 (fun z=>J z.2),j,show Vbdeaa.oneOf (.word (text "not"))=none by decide]
      simp only
      rw[i9 (by decide),i9 (by decide)]
    ·rw[j4 j]
     refine aQ (aQ ⟨_,rfl,rfl,_,rfl,?_⟩)
     rw[sd,F2,j4 j]
     refine bh ⟨_,rfl,a1,_,rfl,.inr (W.ON.sq _),rfl,rfl,_,rfl,?_⟩
     rw[af]
     cases ho:Vbdeaa.oneOf (.word n)with
     | some o =>
      obtain⟨g1,g2,g3,_⟩:=QZ n hn o (Nj o) ho
      rw[i8 (.inr g3)]
      refine bh ⟨_,rfl,p,dx,_,rfl,D.obj,rfl,.inr (.inl ⟨rfl,W.ON.cl⟩),_,rfl,a1,_,_,wz o,V.str (bD n),rfl,rfl,W.ON.sq _,rfl,rfl,g1,?_,fun m z hm hz=>?_,?_⟩
      ·show(bD n==bD n)=true
       exact beq_self_eq_true _
      ·have a3:=g2 m (j'.mpr hm)
       have aw:=j6 hz
       obtain⟨q,_,rfl⟩:=List.mem_map.mp aw
       show(q==bD n)=false
       exact beq_eq_false_iff_ne.mpr fun zz=>a3 (by rw[hz,zz])
      ·exact aa (.un o) trivial rfl (by unfold wdX;rw[i9 (fun z=>L z.1),i9 (fun z=>j z.1),ho])
     | none =>
      obtain⟨g1,g2,g3⟩:=Ni n hn ho
      rw[j4 (fun z=>z.elim (fun z=>j (g3.mp z)) g1)]
      refine aQ ⟨_,rfl,a2,_,rfl,.inr (W.PK.sq _),rfl,rfl,_,rfl,?_⟩
      rw[Y]
      have hx:wdX n y fs=if n=text "min" then E_ y fs (.lst (.best false) [])else if n=text "max" then E_ y fs (.lst (.best true) [])else none:=by
       unfold wdX
       rw[i9 (fun z=>L z.1),i9 (fun z=>j z.1),ho]
      by_cases O:n=text "min"∨n=text "max"
      ·rw[i8 (g2.mpr O)]
       rcases O with O | O
       ·have et:bD n = "min":=by rw[O];decide +kernel
        refine bh ⟨_,rfl,p,dx,_,rfl,D.obj,rfl,.inr (.inl ⟨rfl,W.PK.cl⟩),_,rfl,a2,_,_,0,V.str "min",rfl,rfl,W.PK.sq _,rfl,rfl,rfl,?_,fun m z hm hz=>absurd hm (Nat.not_lt_zero _),?_⟩
        ·show(("min" : Str)==bD n)=true
         rw[et];exact beq_self_eq_true _
        ·exact aa (.lst (.best false) []) rfl rfl (by rw[hx,jI O])
       ·have et:bD n = "max":=by rw[O];decide +kernel
        refine bh ⟨_,rfl,p,dx,_,rfl,D.obj,rfl,.inr (.inl ⟨rfl,W.PK.cl⟩),_,rfl,a2,_,_,1,V.str "max",rfl,rfl,W.PK.sq _,rfl,rfl,rfl,?_,fun m z hm hz=>?_,?_⟩
        ·show(("max" : Str)==bD n)=true
         rw[et];exact beq_self_eq_true _
        ·have:m=0:=by omega
         subst this
         cases hz
         show(("min" : Str)==bD n)=false
         rw[et];decide +kernel
        ·exact aa (.lst (.best true) []) rfl rfl (by rw[hx,i9 (by rw[O];decide),jI O])
      ·rw[j4 (fun z=>O (g2.mp z))]
       refine aQ (b ?_).go
       rw[hx,i9 (fun z=>O (.inl z)),i9 (fun z=>O (.inr z))]
  obtain⟨tr,ar,U⟩:=tail
  refine⟨_,aq (bu (i:=2) QC.nd rfl (Or.inl rfl) (uw (gw (aJ (pv 0) rfl) (fun _=>rfl)) (aJ (bZ dh (aJ (pv 0) rfl) (eN cV aB) (fun _ _=>rfl)) rfl) aB)) ar,?_⟩
  refine⟨_,rfl,p,PC,dx,_,_,rfl,D.obj,T.cl,T.nF,rfl,_,.inl ⟨_,bV.of D.fl,rfl⟩,?_⟩
  rcases D.tops with⟨rfl,rfl⟩ | ⟨fr,r,fa,aC,lp,aE,rfl,rfl,a5⟩
  ·exact aQ U
  ·have ax:=D.fl
   rw[Bb]at ax ⊢
   rw[show(!(aC.reverse.map V.ref++[V.ref fa]).isEmpty)=true by simp]
   exact bh ⟨_,rfl,p,PC,dx,_,_,rfl,D.obj,T.cl,T.nF,rfl,_,rfl,lf,_,_,_,rfl,rfl,bV.of ax,lC,fa,FC,aE,_,_,rfl,a5,TF.cl,TF.nL,rfl,U⟩
end
noncomputable def Rg(C FC PC Ce:Addr):Sp:=fun vs H Q E=>∃(p a:Addr)(M:List Addr)(ts:List TK)(i:Nat)(fs:List Fr)(x y:TK),vs=[.ref p,.ref a]∧jK C FC PC H p M ts i fs .beg∧cO (off M H) x a∧eV x∧(x=.eof∨(ts[i]?=some y∧eV y))∧fs.length≤3000 ∧
 (∀d fs' z,QR x y fs=some (d,fs',z)→∀j H',jK C FC PC H' p j ts (i+d) fs' z→aA (off M H) (off j H')→Q .non H')∧(QR x y fs=none→bz Ce (-6) (off M H) E)
theorem Im{s:Text}(h:s∈z7∨s∈dY):decide (tag (.sign s) = "number")=false∧decide (tag (.sign s) = "name")=false∧decide (tag (.sign s) = "word")=false:=by
 have:∀s∈z7++dY,decide (tag (.sign s) = "number")=false∧decide (tag (.sign s) = "name")=false∧decide (tag (.sign s) = "word")=false:=by decide +kernel
 exact this s (List.mem_append.mpr h)
section
theorem VL:aK ["self","token"] ["self","token"] (aD (aY 4)):=⟨rfl,rfl,rfl,by decide +kernel,rfl,by decide +kernel,by decide +kernel⟩
theorem Uu{f C FC PC Ce fU fW fN fD fI:Addr}{fd dU dW dN dD dI:FuncData}(F:fc K "begin" "Parser.begin" (aY 4) f fd)(T:iY K PC)(N:CN K mg)(G:CG K mg)(O:CO K mg)(aE:GC K mg "NUMBER" (.i 0))(X:XC P w K mg base "NoExpression" Ce fI dI (-6))
  (FU:Fm K PC "push" "Parser.push" (aY 3) fU dU ["self","form","detail","parts"]) (GU:aF P w K mg base (aW P w) 4 fU dU ["self","form","detail","parts"] (jc C FC PC Ce)) (FW:Fm K PC "end_with" "Parser.end_with" (aY 13) fW dW ["self","form","detail","parts"]) (GW:aF P w K mg base (aW P w) 3 fW dW ["self","form","detail","parts"] (t8 C FC PC))
  (FN:Fm K PC "begin_name" "Parser.begin_name" (aY 5) fN dN ["self","name"]) (GN:aF P w K mg base (aW P w) 5 fN dN ["self","name"] (Jp C FC PC Ce)) (FD:Fm K PC "begin_word" "Parser.begin_word" (aY 6) fD dD ["self","word"]) (GD:aF P w K mg base (aW P w) 6 fD dD ["self","word"] (Jo C FC PC Ce)):aF P w K mg base (aW P w) 7 f fd ["self","token"] (Rg C FC PC Ce):=by
 refine d9 F VL (fun vs H Q E h=>?_) (fun cdv A outer s H vs Q E hr h=>?_)
 ·obtain⟨_,_,_,_,_,_,_,_,rfl,_⟩:=h
  rfl
 ·obtain⟨p,a,M,ts,i,fs,x,y,rfl,L,ai,hok,U,ae,k,kr⟩:=h
  obtain⟨dx,lt,lf,ev,k0,tas,fas,ads,D⟩:=id L
  have ax:bG 3 _:=hr.mono (by omega)
  have av:bG 4 _:=hr.mono (by omega)
  have ay:bG 5 _:=hr.mono (by omega)
  have hu:=vU hr
  refine⟨_,ao (aX (aG cz (bZ cX (pv 1) aB (fun _ _=>rfl)) bA (aL _)) (ao (aM (bc (pv 0) T.cl FW.me GW ax FW.b .nil passes (aj (bw rfl aE) (aj (bZ cX (pv 1) aB (fun _ _=>rfl)) (aj (bT au) au))))))
   (ao (aX (aG cz (bZ cX (pv 1) aB (fun _ _=>rfl)) bA (aL _)) (ao (aM (bc (pv 0) T.cl FN.me GN ay FN.b .nil passes (aj (bZ cX (pv 1) aB (fun _ _=>rfl)) au))))
   (ao (aX (aG cz (bZ cX (pv 1) aB (fun _ _=>rfl)) bA (aL _)) (ao (aM (bc (pv 0) T.cl FD.me GD hr FD.b .nil passes (aj (bZ cX (pv 1) aB (fun _ _=>rfl)) au))))
   (ao (aX (aG (dq hu) (pv 1) (Gu rfl O.OP) (aL _)) (ao (aM (bc (pv 0) T.cl FU.me GU av FU.b .nil passes (aj (bw rfl G.GR) (aj aB (aj (bT au) au))))))
   (ao (aX (aG (dq hu) (pv 1) (Gu rfl O.MI) (aL _)) (ao (aM (bc (pv 0) T.cl FU.me GU av FU.b .nil passes (aj (bw rfl N.ONE) (aj (bw rfl G.NE) (aj (bT au) au))))))
    (ao (bO X.made X.cls X.ok ax rfl X.m X.b rfl bF))))))))))),?_⟩
  have t0:cO H x a:=ai.same (aU _ _)
  obtain⟨v,J,a3,ar⟩:=oG (K:=K) t0
  have sd:∀z:Str,decide (V.str (tag x)=V.str z)=decide (tag x=z):=fun z=>by rw[decide_eq_decide];exact⟨fun h=>V.str.inj h,fun h=>by rw[h]⟩
  have Y:∀(fr:Fr)(lp:Addr),uD fr→bj fr=[]→QR x y fs=(PM.push fs fr).map (fun z=>(0,z))→H lp=none→jc C FC PC Ce [.ref p,.int (bH fr),jA fr,.ref lp] (L2.upd H lp (.lst [])) (fun _ H'=>Q .non H') E:=fun fr lp aw aC hx S=>by
   refine⟨p,lp,M,ts,i,fs,.beg,fr,[],H,rfl,L,S,rfl,by rw[aC];exact .nil,aw,ae,fun Z M2 H2 aI a0=>?_,fun Z=>kr ?_⟩
   ·exact k 0 (fr::fs) .beg (by rw[hx,Be Z];rfl) M2 H2 aI a0
   ·rw[hx,Bf Z];rfl
  have rest:decide (tag x = "number")=false→decide (tag x = "name")=false→decide (tag x = "word")=false→QR x y fs=(if x=sg "(" then(PM.push fs .grp).map fun z=>(0,z)else if x=sg "-" then(PM.push fs (.un .neg)).map fun z=>(0,z)else none)→True:=fun _ _ _ _=>trivial
  refine⟨_,rfl,a,_,_,_,rfl,rfl,cR.of J,at_of (j:=0) rfl rfl,rfl,_,rfl,?_⟩
  rw[sd]
  cases x with
  | num q =>
   obtain⟨r,h1,h2⟩:=ai
   have al:=aU _ _ _ _ h1
   rw[J]at al
   cases al
   refine bh ⟨_,rfl,p,dx,_,rfl,D.obj,rfl,_,rfl,a,_,_,_,rfl,rfl,cR.of J,at_of (j:=1) rfl rfl,(by show 0≤sizeLine;decide),fun l hl=>?_⟩
   have kp:=rO.of_same D.there (aA.upd (o:=.lst []) hl)
   exact⟨p,M,ts,i,fs,.beg,.num q,.ref r,l,[],rfl,⟨dx,lt,lf,ev,k0,tas,fas,ads,D.keep kp⟩,⟨r,rfl,kp.out _ _ h2⟩,lN D.there hl,.nil,by decide,fun H' aT aS=>k 0 fs (.en (.num q) 9) rfl M H' aT (kp.out.trans aS)⟩
  | name n =>
   have hv:v=.str (bD n):=ar
   subst hv
   obtain⟨hy,ah⟩:=U.resolve_left (by simp)
   refine aQ ⟨_,rfl,a,_,_,_,rfl,rfl,cR.of J,at_of (j:=0) rfl rfl,rfl,_,rfl,bh ?_⟩
   exact⟨_,rfl,p,dx,_,rfl,D.obj,rfl,_,rfl,a,_,_,_,rfl,rfl,cR.of J,at_of (j:=1) rfl rfl,n,p,M,ts,i,fs,y,rfl,L,hy,ah,ae,k,kr⟩
  | word n =>
   have hv:v=.str (bD n):=ar
   subst hv
   obtain⟨hy,ah⟩:=U.resolve_left (by simp)
   refine aQ ⟨_,rfl,a,_,_,_,rfl,rfl,cR.of J,at_of (j:=0) rfl rfl,rfl,_,rfl,aQ ⟨_,rfl,a,_,_,_,rfl,rfl,cR.of J,at_of (j:=0) rfl rfl,rfl,_,rfl,bh ?_⟩⟩
   exact⟨_,rfl,p,dx,_,rfl,D.obj,rfl,_,rfl,a,_,_,_,rfl,rfl,cR.of J,at_of (j:=1) rfl rfl,n,hok,p,M,ts,i,fs,y,rfl,L,hy,ah,ae,k,kr⟩
  | sign s =>
   obtain⟨g1,g2,g3⟩:=Im hok
   obtain⟨_,_,_,_,w5,w6,_⟩:=o7 hok
   have hb:QR (.sign s) y fs=if Vbdeaa.Tok.sign s=sg "(" then(PM.push fs .grp).map (fun z=>(0,z))else if Vbdeaa.Tok.sign s=sg "-" then(PM.push fs (.un .neg)).map (fun z=>(0,z))else none:=rfl
   rw[g1]
   refine aQ ⟨_,rfl,a,_,_,_,rfl,rfl,cR.of J,at_of (j:=0) rfl rfl,rfl,_,rfl,?_⟩
   rw[sd,g2]
   refine aQ ⟨_,rfl,a,_,_,_,rfl,rfl,cR.of J,at_of (j:=0) rfl rfl,rfl,_,rfl,?_⟩
   rw[sd,g3]
   refine aQ ⟨_,rfl,fun ov af=>?_⟩
   obtain⟨oa,rfl,ac⟩:=xq af
   refine mH false t0 (ac _) (.inl ⟨_,rfl⟩) ⟨_,rfl,?_⟩
   rw[w5]
   by_cases h1:Vbdeaa.Tok.sign s=sg "("
   ·rw[i8 h1]
    exact bh ⟨_,rfl,p,dx,_,rfl,D.obj,rfl,(by show 0≤sizeLine;decide),fun lp S=>Y .grp lp trivial rfl (by rw[hb,jI h1]) S⟩
   ·rw[j4 h1]
    refine aQ ⟨_,rfl,fun mv ag=>?_⟩
    obtain⟨ma,rfl,aa⟩:=Lj ag
    refine mH false t0 (aa _) (.inr ⟨_,rfl⟩) ⟨_,rfl,?_⟩
    rw[w6]
    by_cases h2:Vbdeaa.Tok.sign s=sg "-"
    ·rw[i8 h2]
     exact bh ⟨_,rfl,p,dx,_,rfl,D.obj,rfl,(by show 0≤sizeLine;decide),fun lp S=>Y (.un .neg) lp trivial rfl (by rw[hb,i9 h1,jI h2]) S⟩
    ·rw[j4 h2]
     exact aQ ((kr (by rw[hb,i9 h1,i9 h2])).mono (aU M H)).go
  | eof =>
   refine aQ ⟨_,rfl,a,_,_,_,rfl,rfl,cR.of J,at_of (j:=0) rfl rfl,rfl,_,rfl,aQ ⟨_,rfl,a,_,_,_,rfl,rfl,cR.of J,at_of (j:=0) rfl rfl,rfl,_,rfl,aQ ⟨_,rfl,fun ov af=>?_⟩⟩⟩
   obtain⟨oa,rfl,ac⟩:=xq af
   refine mH false t0 (ac _) (.inl ⟨_,rfl⟩) ⟨_,rfl,aQ ⟨_,rfl,fun mv ag=>?_⟩⟩
   obtain⟨ma,rfl,aa⟩:=Lj ag
   exact mH false t0 (aa _) (.inr ⟨_,rfl⟩) ⟨_,rfl,aQ ((kr rfl).mono (aU M H)).go⟩
  | bad=>exact hok.elim
end
noncomputable def Th(x y:TK)(fs:List Fr):Md→Option (Nat×List Fr×Md)
 | .beg=>QR x y fs
 | .en e k=>(vW x fs e k).map fun z=>(0,z)
 | _=>none
noncomputable def Wu:Md→Nat
 | .en e _=>Vbdeam.size e
 | _=>0
noncomputable def Jc(C FC PC Ce:Addr):Sp:=fun vs H Q E=>∃(p:Addr)(M:List Addr)(ts:List TK)(i:Nat)(fs:List Fr)(md:Md)(x y:TK),vs=[.ref p]∧jK C FC PC H p M ts i fs md∧ts[i]?=some x∧eV x∧(x=.eof∨(ts[i+1]?=some y∧eV y))∧jm fs+Wu md≤2000 ∧
 (∀d fs' z,Th x y fs md=some (d,fs',z)→∀j H',jK C FC PC H' p j ts (i+1+d) fs' z→aA (off M H) (off j H')→Q .non H')∧(Th x y fs md=none→bz Ce (-6) (off M H) E)
section
theorem T8:aK ["self"] ["self"] (aD (aY 2)):=⟨rfl,rfl,rfl,by decide +kernel,rfl,by decide +kernel,by decide +kernel⟩
theorem RN{f C FC PC Ce fT fB fG:Addr}{fd dT dB dG:FuncData}(F:fc K "step" "Parser.step" (aY 2) f fd)(T:iY K PC)(Y:Fm K PC "take" "Parser.take" (aY 1) fT dT ["self"])
  (FB:Fm K PC "begin" "Parser.begin" (aY 4) fB dB ["self","token"]) (GB:aF P w K mg base (aW P w) 7 fB dB ["self","token"] (Rg C FC PC Ce)) (FG:Fm K PC "go_on" "Parser.go_on" (aY 8) fG dG ["self","token"]) (ae:aF P w K mg base (aW P w) 7 fG dG ["self","token"] (Rf C FC PC Ce)):aF P w K mg base (aW P w) 8 f fd ["self"] (Jc C FC PC Ce):=by
 have Z:aF P w K mg base (aW P w) 1 fT dT ["self"] (Aj PC):=Ec Y.F T
 refine d9 F T8 (fun vs H Q E h=>?_) (fun cdv A outer s H vs Q E hr h=>?_)
 ·obtain⟨_,_,_,_,_,_,_,_,rfl,_⟩:=h
  rfl
 ·obtain⟨p,M,ts,i,fs,md,x,y,rfl,⟨dx,lt,lf,ev,k0,tas,fas,ads,D⟩,hx,hok,J,hw,k,kr⟩:=h
  have U:bG 1 _:=hr.mono (by omega)
  refine⟨_,ao (aX (Bg (RC (aJ (pv 0) rfl))) (ao (aM (bc (pv 0) T.cl FB.me GB hr FB.b .nil passes (aj (bQ (pv 0) T.cl Y.me Z U Y.b .nil passes) au))))
   (ao (aM (bc (pv 0) T.cl FG.me ae hr FG.b .nil passes (aj (bQ (pv 0) T.cl Y.me Z U Y.b .nil passes) au))))),?_⟩
  obtain⟨a,ha,aa⟩:=D.tok hx
  obtain⟨D1,j⟩:=D.set (i':=i+1) D.md
  have G:cO (off M (L2.upd H p (.ins PC dx (ie lt (i+1) lf (nest fs) ev k0)))) x a:=by rw[j];exact aa
  refine⟨_,rfl,p,PC,dx,_,_,rfl,D.obj,T.cl,T.nE,rfl,_,rfl,?_⟩
  have ac:fs.length≤3000:=by have:=Ek fs;omega
  cases md with
  | beg =>
   have S:ev=.non:=D.md
   subst S
   exact bh ⟨_,rfl,p,dx,_,rfl,D.obj,rfl,_,rfl,p,dx,_,rfl,D.obj,rfl,p,dx,lt,lf,a,i,_,_,k0,tas,rfl,D.obj,aU _ _ _ _ D.tl,ha,p,a,M,ts,i+1,fs,x,y,rfl,⟨dx,lt,lf,_,k0,tas,fas,ads,D1⟩,G,hok,J,ac,fun d fs' m' L M' H' O z=>k d fs' m' L M' H' O (by rw[j]at z;exact z),fun L=>by rw[j];exact kr L⟩
  | en e kd =>
   obtain⟨⟨b,S,af⟩,ag⟩:=D.md
   subst S
   exact aQ ⟨_,rfl,p,dx,_,rfl,D.obj,rfl,_,rfl,p,dx,_,rfl,D.obj,rfl,p,dx,lt,lf,a,i,_,_,k0,tas,rfl,D.obj,aU _ _ _ _ D.tl,ha,p,a,M,ts,i+1,fs,e,kd,x,rfl,⟨dx,lt,lf,_,k0,tas,fas,ads,D1⟩,G,hok,hw,fun fs' m' L M' H' O z=>k 0 fs' m' (by show(vW x fs e kd).map _=_;rw[L];rfl) M' H' O (by rw[j]at z;exact z),fun L=>by rw[j];exact kr (by show(vW x fs e kd).map _=_;rw[L];rfl)⟩
  | nm n=>exact(D.md).elim
  | br g=>exact(D.md).elim
end
noncomputable def Goes(o:Option (Nat×List Fr×Md))(y:TK)(r:List TK)(g:Option Exp):Prop:=match o with
 | none=>g=none
 | some (d,fs,m)=>(d=0∧g=PM.run (y::r) fs m)∨(d=1∧y≠.eof∧g=PM.run r fs m)
theorem dz{x:TK}{t:List TK}{fs:List Fr}{m:Md}(h:x≠.eof):PM.run (x::t) fs m=match PM.step x fs m with
  | none=>none
  | some s=>PM.run t s.1 s.2:=by
 rw[PM.run,i9 h]<;>cases PM.step x fs m<;>rfl
theorem zA{y:TK}{r:List TK}{o:Option (List Fr×Md)}:Goes (o.map fun z=>(0,z)) y r (match o with
  | none=>none
  | some s=>PM.run (y::r) s.1 s.2):=by
 cases o with
 | none=>exact rfl
 | some z=>exact .inl ⟨rfl,rfl⟩
theorem Cp{y:TK}{r:List TK}{fs:List Fr}{f:Fr}:Goes (E_ y fs f) y r (PM.run (y::r) fs (.br f)):=by
 unfold E_
 by_cases j:y=sg "("
 ·subst j
  rw[jI rfl,dz (by decide),show PM.step (sg "(") fs (.br f)=PM.push fs f by show(if sg "("=sg "(" then PM.push fs f else none)=_;exact jI rfl]
  cases PM.push fs f with
  | none=>exact rfl
  | some z=>exact .inr ⟨rfl,by decide,rfl⟩
 ·rw[i9 j]
  show PM.run (y::r) fs (.br f)=none
  by_cases D:y=.eof
  ·rw[PM.run,jI D];rfl
  ·rw[dz D,show PM.step y fs (.br f)=none from i9 j]
theorem R9{n:Text}{y:TK}{r:List TK}{fs:List Fr}:Goes (Pb n y fs) y r (PM.run (y::r) fs (.nm n)):=by
 unfold Pb
 by_cases j:y=sg "("
 ·subst j
  rw[jI rfl,dz (by decide),show PM.step (sg "(") fs (.nm n)=PM.push fs (.lst (.call n) []) by show(if sg "("=sg "(" then PM.push fs (.lst (.call n) [])else PM.goOn (sg "(") fs (.name n) 9)=_;exact jI rfl]
  cases PM.push fs (.lst (.call n) [])with
  | none=>exact rfl
  | some z=>exact .inr ⟨rfl,by decide,rfl⟩
 ·rw[i9 j]
  refine .inl ⟨rfl,?_⟩
  by_cases D:y=.eof
  ·subst D
   rfl
  ·rw[dz D,dz D,show PM.step y fs (.nm n)=PM.step y fs (.en (.name n) 9)from i9 j]
theorem QX{w:Text}{y:TK}{r:List TK}{fs:List Fr}:Goes (wdX w y fs) y r (PM.run (.word w::y::r) fs .beg):=by
 rw[dz (by simp),show PM.step (.word w) fs .beg=PM.du w fs from rfl]
 unfold wdX PM.du
 by_cases h1:w=text "if"∧PM.top fs=0
 ·rw[jI h1,jI h1];exact zA
 ·rw[i9 h1,i9 h1]
  by_cases h2:w=text "not"∧PM.top fs≤3
  ·rw[jI h2,jI h2];exact zA
  ·rw[i9 h2,i9 h2]
   cases Vbdeaa.oneOf (.word w)with
   | some o=>exact Cp
   | none =>
    simp only
    by_cases z:w=text "min"
    ·rw[jI z,jI z];exact Cp
    ·rw[i9 z,i9 z]
     by_cases j:w=text "max"
     ·rw[jI j,jI j];exact Cp
     ·rw[i9 j,i9 j];exact rfl
theorem SN{x y:TK}{r:List TK}{fs:List Fr}(hx:x≠.eof)(j:x≠.bad):Goes (QR x y fs) y r (PM.run (x::y::r) fs .beg):=by
 cases x with
 | num q=>exact .inl ⟨rfl,rfl⟩
 | name n=>exact R9
 | word w=>exact QX
 | eof=>exact absurd rfl hx
 | bad=>exact absurd rfl j
 | sign s =>
  rw[dz hx]
  show Goes (if Vbdeaa.Tok.sign s=sg "(" then(PM.push fs .grp).map fun z=>(0,z)else if Vbdeaa.Tok.sign s=sg "-" then(PM.push fs (.un .neg)).map fun z=>(0,z)else none) y r (match(if Vbdeaa.Tok.sign s=sg "(" then PM.push fs .grp else if Vbdeaa.Tok.sign s=sg "-" then PM.push fs (.un .neg)else none)with
   | none=>none
   | some s=>PM.run (y::r) s.1 s.2)
  by_cases h1:Vbdeaa.Tok.sign s=sg "("
  ·rw[jI h1,jI h1];exact zA
  ·rw[i9 h1,i9 h1]
   by_cases h2:Vbdeaa.Tok.sign s=sg "-"
   ·rw[jI h2,jI h2];exact zA
   ·rw[i9 h2,i9 h2];exact rfl
theorem go_same{x:TK}{fs:List Fr}{e:Exp}{k:Nat}(hx:x≠.eof):vW x fs e k=PM.goOn x fs e k:=by
 unfold vW PM.goOn
 cases PM.bU x with
 | some j=>rfl
 | none =>
  simp only
  unfold CW
  rw[i9 hx]
theorem Q8{x y:TK}{r:List TK}{fs:List Fr}{m:Md}(hx:x≠.eof)(D:x≠.bad)(j:m=.beg∨∃e k,m=.en e k):Goes (Th x y fs m) y r (PM.run (x::y::r) fs m):=by
 rcases j with rfl | ⟨e,k,rfl⟩
 ·exact SN hx D
 ·rw[dz hx]
  show Goes ((vW x fs e k).map fun z=>(0,z)) y r (match PM.goOn x fs e k with
   | none=>none
   | some s=>PM.run (y::r) s.1 s.2)
  rw[go_same hx]
  exact zA
theorem Q9{y:TK}{fs:List Fr}{m:Md}(j:m=.beg∨∃e k,m=.en e k):match Th .eof y fs m with
  | none=>PM.run [.eof] fs m=none
  | some (d,fs',D)=>d=0∧∃e k,D=.en e k∧fs'=[]∧PM.run [.eof] fs m=some e:=by
 rcases j with rfl | ⟨e,k,rfl⟩
 ·rfl
 ·have e1:Th .eof y fs (.en e k)=(CW .eof (cD fs e k).1 (cD fs e k).2.1 (cD fs e k).2.2).map fun z=>(0,z):=by
   show(vW .eof fs e k).map _=_
   unfold vW
   rw[PM.Lz]
  have e2:PM.run [.eof] fs (.en e k)=match(cD fs e k).1 with
   | []=>some (cD fs e k).2.1
   | _=>none:=rfl
  rw[e1,e2]
  unfold CW
  rw[jI rfl]
  cases(cD fs e k).1 with
  | nil=>exact⟨rfl,_,_,rfl,rfl,rfl⟩
  | cons a b=>exact rfl
noncomputable def M8:Fr→Prop
 | .lst (.call n) _=>HB n
 | _=>True
noncomputable def De(f:Fr):Prop:=(∀x∈bj f,gK x)∧M8 f
noncomputable def WP:Md→Prop
 | .en e _=>gK e
 | _=>True
structure Inv (n:Nat) (fs:List Fr) (m:Md):Prop where
 w:jm fs+Wu m≤n
 f:∀f∈fs,De f
 m:WP m
theorem xX{f:Fr}{e:Exp}(D:fX f)(F:De f)(G:gK e):gK (f.close e).1:=by
 by_cases z:f=.grp
 ·subst z;exact G
 ·obtain⟨_,_,J,_⟩:=uT (e:=e) D z (fun _=>none)
  refine .mk ?_ ?_
  ·cases f with
   | lst h l=>cases h with
    | best g=>exact trivial
    | call n=>exact F.2
   | jn j a=>cases j<;>exact trivial
   | grp=>exact absurd rfl z
   | if0=>exact D.elim
   | if1 c=>exact D.elim
   | un o=>exact trivial
   | if2 c a=>exact trivial
  ·rw[J]
   intro x hx
   rcases List.mem_append.mp hx with hx | hx
   ·exact F.1 x hx
   ·rw[List.mem_singleton.mp hx];exact G
theorem Km:∀{fs:List Fr}{e:Exp}{c:Nat},(∀f∈fs,De f)→gK e→(∀f∈(cD fs e c).1,De f)∧gK (cD fs e c).2.1
 | [],e,c,h,j=>⟨h,j⟩
 | f::r,e,c,h,j=>by
  rw[cD]
  by_cases z:f.ends=true
  ·rw[jI z]
   exact Km (fun g D=>h g (by simp[D])) (xX (jo z) (h f (by simp)) j)
  ·rw[i9 z]
   exact⟨h,j⟩
theorem Kh{k:Nat}:∀{fs:List Fr}{e:Exp}{c:Nat},(∀f∈fs,De f)→gK e→(∀f∈(fj k fs e c).1,De f)∧gK (fj k fs e c).2.1
 | [],e,c,h,j=>⟨h,j⟩
 | f::r,e,c,h,j=>by
  rw[fj]
  by_cases z:k<f.place
  ·rw[jI z]
   exact Kh (fun g D=>h g (by simp[D])) (xX (gU z) (h f (by simp)) j)
  ·rw[i9 z]
   exact⟨h,j⟩
noncomputable def qy(n:Nat)(o:Option (Nat×List Fr×Md)):Prop:=∀d fs m,o=some (d,fs,m)→Inv (n+d) fs m
theorem zr{n:Nat}{fs:List Fr}{f:Fr}(hw:jm fs+u_ f≤n)(h:∀g∈fs,De g)(D:De f){d:Nat}:qy n ((PM.push fs f).map fun z=>(d,z)):=by
 intro d' fs' F e
 unfold PM.push at e
 split at e
 ·cases e
 ·cases e
  exact⟨by show u_ f+jm fs+0≤_;omega,fun g j=>by
   rcases hU.mp j with rfl | j
   ·exact D
   ·exact h g j,trivial⟩
theorem lY{n:Nat}{fs:List Fr}{f:Fr}(hw:jm fs≤n)(h:∀g∈fs,De g)(j:bj f=[])(D:M8 f){d:Nat}:qy (n+1) ((PM.push fs f).map fun z=>(d,z)):=by
 refine zr ?_ h ⟨fun x hx=>(by rw[j]at hx;cases hx),D⟩
 unfold u_
 rw[j]
 show jm fs+1≤_
 omega
theorem bY{n:Nat}:qy n none:=fun _ _ _ e=>by cases e
theorem BX{n:Nat}{y:TK}{fs:List Fr}{f:Fr}(hw:jm fs≤n)(h:∀g∈fs,De g)(j:bj f=[])(z:M8 f):qy (n+1) (E_ y fs f):=by
 unfold E_
 split
 ·exact lY hw h j z
 ·exact bY
theorem Qq{q:Vbdeaa.Q}:gK (.num q):=.mk trivial fun x hx=>by cases hx
theorem Mx{n:Text}(h:HB n):gK (.name n):=.mk h fun x hx=>by cases hx
theorem Ss{n:Nat}{x y:TK}{fs:List Fr}(hx:eV x)(hw:jm fs≤n)(h:∀g∈fs,De g):qy (n+1) (QR x y fs):=by
 cases x with
 | num q=>intro d fs' j e;cases e;exact⟨by show jm fs+1≤_;omega,h,Qq⟩
 | name t =>
  show qy (n+1) (Pb t y fs)
  unfold Pb
  split
  ·exact lY hw h rfl (by exact hx)
  ·intro d fs' j e;cases e;exact⟨by show jm fs+1≤_;omega,h,Mx hx⟩
 | word w =>
  show qy (n+1) (wdX w y fs)
  unfold wdX
  split
  ·exact lY hw h rfl (by exact trivial)
  ·split
   ·exact lY hw h rfl (by exact trivial)
   ·split
    ·exact BX hw h rfl (by exact trivial)
    ·split
     ·exact BX hw h rfl (by exact trivial)
     ·split
      ·exact BX hw h rfl (by exact trivial)
      ·exact bY
 | eof=>exact bY
 | bad=>exact bY
 | sign s =>
  show qy (n+1) (if Vbdeaa.Tok.sign s=sg "(" then(PM.push fs .grp).map fun z=>(0,z)else if Vbdeaa.Tok.sign s=sg "-" then(PM.push fs (.un .neg)).map fun z=>(0,z)else none)
  split
  ·exact lY hw h rfl (by exact trivial)
  ·split
   ·exact lY hw h rfl (by exact trivial)
   ·exact bY
theorem BZ{n:Nat}{x:TK}{fs:List Fr}{e:Exp}(hw:jm fs+Vbdeam.size e≤n)(h:∀g∈fs,De g)(j:gK e):qy (n+1) ((around x fs e).map fun z=>(0,z)):=by
 have tl:∀{g:Fr}{r:List Fr},(∀f∈g::r,De f)→∀{g':Fr},De g'→∀f∈g'::r,De f:=fun a _ b f F=>by
  rcases hU.mp F with rfl | F
  ·exact b
  ·exact a f (by simp[F])
 unfold around
 split
 ·cases fs with
  | nil=>exact bY
  | cons f r=>cases f with
   | if0 =>
    intro d fs' G q
    cases q
    refine⟨?_,tl h ⟨fun x hx=>by rw[List.mem_singleton.mp hx];exact j,trivial⟩,trivial⟩
    rw[fQ]at hw ⊢
    show u_ (.if1 e)+jm r+0≤_
    simp only[u_,bj,i4,List.map_nil,List.sum_cons,List.sum_nil]at hw ⊢
    omega
   | _=>exact bY
 ·split
  ·cases fs with
   | nil=>exact bY
   | cons f r=>cases f with
    | if1 c =>
     intro d fs' G q
     cases q
     refine⟨?_,tl h ⟨fun x hx=>?_,trivial⟩,trivial⟩
     ·rw[fQ]at hw ⊢
      show u_ (.if2 c e)+jm r+0≤_
      simp only[u_,bj,i4,List.map_nil,List.sum_cons,List.sum_nil]at hw ⊢
      omega
     ·rcases hU.mp hx with rfl | hx
      ·exact(h (.if1 _) b').1 _ (List.mem_singleton.mpr rfl)
      ·rw[List.mem_singleton.mp hx];exact j
    | _=>exact bY
  ·split
   ·cases fs with
    | nil=>exact bY
    | cons f r=>cases f with
     | lst D l =>
      intro d fs' G q
      cases q
      refine⟨?_,tl h ⟨fun x hx=>?_,(by have q:=(h (.lst D l) (by simp)).2;cases D<;>exact q)⟩,trivial⟩
      ·rw[fQ]at hw ⊢
       show u_ (.lst D (l++[e]))+jm r+0≤_
       simp only[u_,bj,i4,List.map_nil,List.sum_cons,List.sum_nil,ka,List.sum_append]at hw ⊢
       omega
      ·rcases List.mem_append.mp hx with hx | hx
       ·exact(h (.lst D l) (by simp)).1 _ hx
       ·rw[List.mem_singleton.mp hx];exact j
     | _=>exact bY
   ·split
    ·cases fs with
     | nil=>exact bY
     | cons f r =>
      simp only
      split
      ·rename_i J
       have L:fX f:=by
        cases f with
        | if0=>cases J
        | if1 c=>cases J
        | _=>exact trivial
       intro d fs' G q
       cases q
       refine⟨?_,fun g O=>h g (by simp[O]),xX L (h f (by simp)) j⟩
       have:=gD (e:=e) L
       rw[fQ]at hw
       show jm r+Vbdeam.size (f.close e).1≤_
       omega
      ·exact bY
    ·exact bY
theorem Ja{n:Nat}{x y:TK}{fs:List Fr}{m:Md}(hx:eV x)(h:Inv n fs m):qy (n+1) (Th x y fs m):=by
 cases m with
 | beg=>exact Ss hx h.w h.f
 | nm t=>exact bY
 | br f=>exact bY
 | en e k =>
  show qy (n+1) ((vW x fs e k).map fun z=>(0,z))
  have hw:jm fs+Vbdeam.size e≤n:=h.w
  unfold vW
  cases PM.bU x with
  | some j =>
   show qy (n+1) ((PM.nq j fs e k).map fun z=>(0,z))
   unfold PM.nq
   split
   ·exact bY
   ·have w:=Rt (k:=j.kind) (fs:=fs) (e:=e) (c:=k)
    obtain⟨p1,p2⟩:=Kh (k:=j.kind) (c:=k) h.f h.m
    refine zr ?_ p1 ⟨fun z hz=>(by rw[List.mem_singleton.mp hz];exact p2),by exact trivial⟩
    show _+((Vbdeam.size _+0)+1)≤_
    omega
  | none =>
   have w:=Kl (fs:=fs) (e:=e) (c:=k)
   obtain⟨p1,p2⟩:=Km (c:=k) h.f h.m
   show qy (n+1) ((CW x (cD fs e k).1 (cD fs e k).2.1 (cD fs e k).2.2).map fun z=>(0,z))
   unfold CW
   split
   ·revert w p1 p2
    generalize cD fs e k=z
    obtain⟨F,D,k'⟩:=z
    intro w p1 p2
    cases F with
    | nil =>
     intro d fs' G q
     cases q
     exact⟨by have w:0+Vbdeam.size D≤_:=w;show 0+Vbdeam.size D≤_;omega,p1,p2⟩
    | cons a b=>exact bY
   ·exact BZ (by omega) p1 p2
theorem Dz:∀(l:List TK)(fs:List Fr)(m:Md),(∀x∈l,x≠.eof)→PM.run (l++[.bad]) fs m=none
 | [],fs,m,_=>by show PM.run [.bad] fs m=none;rw[dz (by simp),PM.zR]
 | x::l,fs,m,h=>by
  show PM.run (x::(l++[.bad])) fs m=none
  rw[dz (h x (by simp))]
  cases PM.step x fs m with
  | none=>rfl
  | some s=>exact Dz l s.1 s.2 fun y j=>h y (by simp[j])
theorem DN{t:Text}{l:List TK}{x:TK}(h:gJ t=l++[x])(hx:x=.eof∨x=.bad):match Vbdeaa.readExp t with
  | .error _=>PM.run (gJ t) [] .beg=none
  | .ok e=>PM.run (gJ t) [] .beg=some e:=by
 have q:PM.Q (Vbdeaa.tokensOf t):=by
  have e:=congrArg List.getLast? h
  unfold gJ at e
  rw[List.getLast?_map,List.getLast?_append]at e
  cases D:(Vbdeaa.tokensOf t).getLast? with
  | none=>rw[D]at e;cases e
  | some z =>
   rw[D]at e
   obtain⟨a,b⟩:=z
   have e:some a=some x:=e
   cases e
   exact⟨_,b,D,hx⟩
 have r:=PM.Ka q
 unfold Vbdeaa.readExp gJ
 rw[r,show Vbdeaa.NEST=32 from rfl]
 cases Vbdeaa.exp (Vbdeaa.enough (Vbdeaa.tokensOf t)) 32 0 (Vbdeaa.tokensOf t)with
 | error p=>exact rfl
 | ok z =>
  obtain⟨e,s⟩:=z
  simp only
  by_cases j:Vbdeaa.peek s=.eof
  ·rw[jI j,jI j]
  ·rw[i9 j,i9 j]
theorem pW{t:Text}{l:List TK}{x:TK}(h:gJ t=l++[x])(hx:x=.eof∨x=.bad)(z:PM.run (gJ t) [] .beg=none):∃p,Vbdeaa.readExp t=.error p:=by
 have:=DN h hx
 cases j:Vbdeaa.readExp t with
 | error p=>exact⟨p,rfl⟩
 | ok e=>rw[j]at this;have this:PM.run (gJ t) [] .beg=some e:=this;rw[z]at this;cases this
theorem Gm{t:Text}{l:List TK}{x:TK}{e:Exp}(h:gJ t=l++[x])(hx:x=.eof∨x=.bad)(z:PM.run (gJ t) [] .beg=some e):Vbdeaa.readExp t=.ok e:=by
 have:=DN h hx
 cases j:Vbdeaa.readExp t with
 | error p=>rw[j]at this;have this:PM.run (gJ t) [] .beg=none:=this;rw[z]at this;cases this
 | ok D=>rw[j]at this;have this:PM.run (gJ t) [] .beg=some D:=this;rw[z]at this;cases this;rfl
theorem KR{C FC PC:Addr}{H:Hp}{p:Addr}{M:List Addr}{ts:List TK}{i:Nat}{fs:List Fr}{md:Md}(h:jK C FC PC H p M ts i fs md):md=.beg∨∃e k,md=.en e k:=by
 obtain⟨_,_,_,_,_,_,_,_,D⟩:=h
 cases md with
 | beg=>exact .inl rfl
 | en e k=>exact .inr ⟨e,k,rfl⟩
 | nm n=>exact(D.md).elim
 | br g=>exact(D.md).elim
noncomputable def Ar(K:PySem.W.Frag)(C Ce:Addr):Sp:=fun vs H Q E=>∃(l:Addr)(t:Text),vs=[.ref l]∧bV K H l (vI t)∧t.length≤2000 ∧
 (∀e,Vbdeaa.readExp t=.ok e→gK e→Vbdeam.size e≤2001→∀a H',aA H H'→cF C H' e a→Q (.ref a) H')∧(∀p,Vbdeaa.readExp t=.error p→bz Ce (-6) H E)
noncomputable abbrev yP:Stmt:=top 75
section
theorem JK:aK ["text","parser"] ["text"] (aD yP):=⟨rfl,rfl,rfl,by decide +kernel,rfl,by decide +kernel,by decide +kernel⟩
theorem O2{f fT fI fS C FC PC Ce:Addr}{fd dT dI dS:FuncData}(F:Fn K mg "expression_of" yP f fd ["text"])(T:iY K PC)(a9:Mk K PC fI)(GI:aF P w K mg base (aW P w) 1 fI dI ["self","tokens"] (Je PC))(BI:Binds K dI ["self","tokens"] [])(bg:mg "Parser"=some (.ref PC))(aw:mg "len"=none)
  (FT:Fn K mg "tokens_of" yM fT dT ["text"]) (bq:aF P w K mg base (aW P w) 6 fT dT ["text"] (Ah K Ce)) (FS:Fm K PC "step" "Parser.step" (aY 2) fS dS ["self"]) (a3:aF P w K mg base (aW P w) 8 fS dS ["self"] (Jc C FC PC Ce)):aF P w K mg base (aW P w) 9 f fd ["text"] (Ar K C Ce):=by
 refine d9 F.F JK (fun vs H Q E h=>?_) (fun cdv A outer s H vs Q E hr h=>?_)
 ·obtain⟨_,_,rfl,_⟩:=h
  rfl
 ·obtain⟨l,t,rfl,hl,aI,k,kr⟩:=h
  have aS:bG 2 _:=hr.mono (by omega)
  have aT:bG 6 _:=hr.mono (by omega)
  refine⟨_,aq (bu (i:=1) JK.nd rfl (Or.inl rfl) (sO a9 GI aS rfl bg BI .nil passes (aj (a_ bq aT rfl FT.m FT.F.kp FT.b .nil passes (aj (pv 0) au)) au)))
   (aq (gA rC (aG Eb (aJ (pv 1) rfl) (b7 bJ (by rfl) aw (by decide +kernel) (aj (aJ (pv 1) rfl) au)) (aL _)) (ao (aM (bQ (pv 1) T.cl FS.me a3 hr FS.b .nil passes))))
   (ao (aV (aJ (pv 1) rfl)))),?_⟩
  have a0:∀tks,gJ t=tks++[.bad]→(∀x∈tks,x≠.eof)→bz Ce (-6) H E:=fun tks hT ac=>by
   obtain⟨p,hp⟩:=pW hT (.inr rfl) (by rw[hT];exact Dz _ _ _ ac)
   exact kr p hp
  refine⟨_,rfl,l,t,rfl,hl,aI,fun tks hT bv av L tas H1 hL s1 be bt=>?_,fun tks hT ac=>a0 tks hT ac⟩
  intro x dx hx aE ac
  refine⟨x,dx,L,rfl,ak,fun lf aa ah H2 sx ax a8=>⟨rfl,?_⟩⟩
  have a7:lf≠dx:=fun z=>by rw[az ah,z,ak]at aa;cases aa
  rw[az ah,az a7]at aa
  have out:aA H1 (off [x,lf] H2):=fun b o q=>by
   have bx:=aH q hx
   refine gk (sx b o (by rw[az bx,az (aH q aE)];exact q) bx) ?_
   simp only[hU,iL,or_false,not_or]
   exact⟨bx,aH q aa⟩
  have D0:jz C FC PC H2 x [x,lf] (tks++[.eof]) 0 [] .beg dx L lf .non 9 tas [] []:=⟨rfl,by simp only[List.nodup_cons,List.mem_singleton,iL,not_false_eq_true,List.nodup_nil,and_true];exact fun z=>ah z.symm,a8,out _ _ be,iD bt out,ax,.nil,rfl⟩
  have a4:(tks++[Vbdeaa.Tok.eof]).length=tks.length+1:=by simp
  refine⟨fun m σ H'=>∃(i:Nat)(fs:List Fr)(md:Md)(M:List Addr),σ=[some (.ref l),some (.ref x)]∧m=tks.length+1-i∧i≤tks.length+1∧jK C FC PC H' x M (tks++[.eof]) i fs md∧aA (off [x,lf] H2) (off M H')∧Inv i fs md∧(i<tks.length+1→PM.run (gJ t) [] .beg=PM.run ((tks++[Vbdeaa.Tok.eof]).drop i) fs md)∧(i=tks.length+1→∃e k,md=.en e k∧fs=[]∧PM.run (gJ t) [] .beg=some e),
   ⟨_,0,[],.beg,[x,lf],rfl,rfl,Nat.zero_le _,⟨dx,L,lf,_,_,tas,[],[],D0⟩,aA.refl _,⟨f' _,fun _ z=>(by cases z),trivial⟩,fun _=>by rw[hT];rfl,fun z=>by omega⟩,?_⟩
  rintro m σ H' ⟨i,fs,md,M,rfl,rfl,hi,O,so,hI,G,ar⟩
  obtain⟨S,lt',bE,ev,k0,af,fas,ads,D⟩:=id O
  have bi:H' lt'=some (.lst (af.map V.ref)):=aU _ _ _ _ D.tl
  have bp:(af.map V.ref).length=tks.length+1:=by rw[ap,←Paired.length D.tks,a4]
  refine⟨_,rfl,x,PC,S,_,_,rfl,D.obj,T.cl,T.nA,rfl,_,rfl,x,PC,S,_,_,rfl,D.obj,T.cl,T.nT,rfl,lt',_,rfl,.inl (bV.of bi),_,_,rfl,rfl,_,rfl,?_⟩
  rw[bp]
  have sH:aA H (off M H'):=(s1.trans out).trans so
  by_cases al:i<tks.length+1
  ·rw[i8 (by omega)]
   refine bh ⟨fun σ' ai=>∃(j:Nat)(fs:List Fr)(md:Md)(M:List Addr),σ'=[some (.ref l),some (.ref x)]∧tks.length+1-j<tks.length+1-i∧j≤tks.length+1∧jK C FC PC ai x M (tks++[.eof]) j fs md∧aA (off [x,lf] H2) (off M ai)∧Inv j fs md∧(j<tks.length+1→PM.run (gJ t) [] .beg=PM.run ((tks++[Vbdeaa.Tok.eof]).drop j) fs md)∧(j=tks.length+1→∃e k,md=.en e k∧fs=[]∧PM.run (gJ t) [] .beg=some e),
    fun σ' ai ⟨j,bo,bb,M2,h1,h2,h3⟩=>⟨_,h2,j,bo,bb,M2,h1,rfl,h3⟩,?_⟩
   have hw:=hI.w
   have G:=G al
   by_cases ag:i<tks.length
   ·have ex:(tks++[Vbdeaa.Tok.eof])[i]?=some tks[i]:=by rw[List.getElem?_append_left ag,ic ag]
    obtain⟨y,ey,ay,bf⟩:∃y,(tks++[Vbdeaa.Tok.eof])[i+1]?=some y∧eV y∧(y≠.eof→i+1<tks.length):=by
     by_cases h3:i+1<tks.length
     ·exact⟨tks[i+1],by rw[List.getElem?_append_left h3,ic h3],(av _ (List.getElem_mem h3)).1,fun _=>h3⟩
     ·exact⟨.eof,by rw[List.getElem?_append_right (by omega),show i+1-tks.length=0 by omega];rfl,trivial,fun z=>absurd rfl z⟩
    obtain⟨Y,ba⟩:=av _ (List.getElem_mem ag)
    have a6:tks[i]≠.bad:=fun z=>by rw[z]at Y;exact Y
    have ed:(tks++[Vbdeaa.Tok.eof]).drop i=tks[i]::y::(tks++[Vbdeaa.Tok.eof]).drop (i+2):=by
     have a1:i<(tks++[Vbdeaa.Tok.eof]).length:=by omega
     have a2:i+1<(tks++[Vbdeaa.Tok.eof]).length:=by omega
     rw[ic a1]at ex
     rw[ic a2]at ey
     rw[List.drop_eq_getElem_cons a1,List.drop_eq_getElem_cons a2,Option.some.inj ex,Option.some.inj ey]
    have aC:(tks++[Vbdeaa.Tok.eof]).drop (i+1)=y::(tks++[Vbdeaa.Tok.eof]).drop (i+2):=by
     rw[←List.drop_drop,ed]
     rfl
    have g:=Q8 (r:=(tks++[Vbdeaa.Tok.eof]).drop (i+2)) (y:=y) (fs:=fs) ba a6 (KR O)
    rw[←ed]at g
    refine⟨_,rfl,x,S,_,rfl,D.obj,rfl,x,M,_,i,fs,md,tks[i],y,rfl,O,ex,Y,.inr ⟨ey,ay⟩,by omega,fun d fs' m' J M' H3 U Z=>?_,fun J=>?_⟩
    ·have ae:=Ja Y hI d fs' m' J
     rw[J]at g
     rcases g with⟨rfl,g⟩ | ⟨rfl,hy,g⟩
     ·exact⟨i+1+0,fs',m',M',rfl,by omega,by omega,U,so.trans Z,ae,fun _=>by rw[G,g,←aC],fun z=>by omega⟩
     ·have:=bf hy
      exact⟨i+1+1,fs',m',M',rfl,by omega,by omega,U,so.trans Z,ae,fun _=>by rw[G,g],fun z=>by omega⟩
    ·rw[J]at g
     obtain⟨p,hp⟩:=pW hT (.inl rfl) (G.trans g)
     exact(kr p hp).mono sH
   ·have a5:i=tks.length:=by omega
    subst a5
    have ed:(tks++[Vbdeaa.Tok.eof]).drop tks.length=[.eof]:=by simp
    have g:=Q9 (y:=.eof) (fs:=fs) (KR O)
    rw[ed]at G
    refine⟨_,rfl,x,S,_,rfl,D.obj,rfl,x,M,_,tks.length,fs,md,.eof,.eof,rfl,O,by simp,trivial,.inl rfl,by omega,fun d fs' m' J M' H3 U Z=>?_,fun J=>?_⟩
    ·have ae:=Ja (x:=.eof) trivial hI d fs' m' J
     rw[J]at g
     obtain⟨rfl,e,kd,rfl,rfl,g⟩:=g
     exact⟨tks.length+1+0,[],.en e kd,M',rfl,by omega,by omega,U,so.trans Z,ae,fun z=>by omega,fun _=>⟨e,kd,rfl,rfl,G.trans g⟩⟩
    ·rw[J]at g
     obtain⟨p,hp⟩:=pW hT (.inl rfl) (G.trans g)
     exact(kr p hp).mono sH
  ·rw[j4 (by omega)]
   obtain⟨e,kd,rfl,rfl,bd⟩:=ar (by omega)
   obtain⟨⟨a,rfl,bn⟩,_⟩:=D.md
   refine aQ ⟨_,rfl,x,PC,S,_,_,rfl,D.obj,T.cl,T.nE,rfl,?_⟩
   have hw:0+Vbdeam.size e≤i:=hI.w
   exact k e (Gm hT (.inl rfl) bd) hI.m (by omega) a H' (sH.trans (aU _ _)) (bn.same (aU _ _))
end
end SB
end
section
namespace SB
open PySem PySem.Spec PyProof.Rows L2 XL
open Vbdeaa (Text Exp Exps Un Bin Ins)
variable {P:Program} {w:World} {K:PySem.W.Frag} {mg:Str→Option Value} {base:Heap}
noncomputable def Jk:Sp:=fun vs H Q _=>∃(l:Addr)(ts:List Addr)(rows:List (List Int)),vs=[.ref l]∧H l=some (.lst (ts.map V.ref))∧Paired (fun row t=>H t=some (.tup (vI row))) rows ts∧rows.flatten.length≤2000000∧Hz H Q (vI rows.flatten)
noncomputable abbrev oM:Stmt:=top 46
theorem Q3(a b:Text):vI (a++b)=vI a++vI b:=ka
theorem uM:∀(l:List (List Int))(i:Nat),(l.take i).flatten.length≤l.flatten.length
 | [],i=>by rw[List.take_nil];exact f' _
 | a::l,0=>Nat.zero_le _
 | a::l,i+1=>by
  have:=uM l i
  show(a++(l.take i).flatten).length≤(a++l.flatten).length
  rw[gc,gc]
  omega
section
theorem ug:aK ["rows","whole","row"] ["rows"] (aD oM):=⟨rfl,rfl,rfl,by decide +kernel,rfl,by decide +kernel,by decide +kernel⟩
theorem GF{f:Addr}{fd:FuncData}(F:Fn K mg "joined" oM f fd ["rows"]):aF P w K mg base (aW P w) 1 f fd ["rows"] Jk:=by
 refine d9 F.F ug (fun vs H Q E h=>?_) (fun cdv A outer s H vs Q E hr h=>?_)
 ·obtain⟨_,_,_,rfl,_⟩:=h
  rfl
 ·obtain⟨l,ts,rows,rfl,S,J,Y,k⟩:=h
  refine⟨_,aq (bu (i:=1) ug.nd rfl (Or.inl rfl) (bT au))
   (aq (uq rC rfl (ji (pv 0)) (cW (i:=2) ug.nd rfl (Or.inl rfl))
    (ao (aM (gB PySem.F.plainAttrs_list PySem.F.slot_list_extend PySem.F.type_list_extend Bv (pv 1) (aj (pv 2) au)))))
   (ao (aV (pv 1)))),?_⟩
  refine⟨(by show 0≤sizeLine;decide),fun G z=>?_⟩
  have s1:aA H (L2.upd H G (.lst [])):=aA.upd z
  refine⟨_,rfl,l,rfl,⟨_,bV.of (s1 _ _ S)⟩,Mi (K:=K) (a:=l) (xs:=ts.map V.ref)
   (fun i σ H'=>∃L:Option V,σ=[some (.ref l),some (.ref G),L]∧aA H H'∧H' G=some (.lst (vI (rows.take i).flatten)))
   ⟨none,rfl,s1,ak⟩ (fun i σ H' _ ⟨_,_,s2,_⟩=>bV.of (s2 _ _ S)) ?_ ?_⟩
  ·rintro i x σ H' hi ⟨L,rfl,s2,hw⟩
   obtain⟨t,U,rfl⟩:=oW hi
   have Z:i<rows.length:=by rw[Paired.length J];exact(hZ.mp U).1
   obtain⟨row,j⟩:∃row,rows[i]?=some row:=⟨_,ic Z⟩
   obtain⟨t',D,hH⟩:=d8 J j
   rw[U]at D
   cases D
   have step:(rows.take (i+1)).flatten=(rows.take i).flatten++row:=by
    rw[List.take_succ,j]
    simp
   have O:=uM rows (i+1)
   rw[step,gc]at O
   refine⟨_,rfl,.inl ⟨rfl,_,bV.of hw⟩,_,rfl,G,t,_,_,rfl,rfl,hw,cR.of (s2 _ _ hH),?_,?_⟩
   ·rw[dj,dj]
    exact ip (by omega:_≤2000000) (by decide)
   ·refine⟨_,rfl,fun c o q=>by rw[az (aH q z)];exact s2 _ _ q,?_⟩
    rw[ak,step,Q3]
  ·rintro σ H' ⟨L,rfl,s2,hw⟩
   rw[ap,←Paired.length J,List.take_length]at hw
   exact⟨_,rfl,k G H' z s2 hw⟩
end
theorem vY:∀c:Vbdeaa.Code,(jU c).flatten.length≤3*c.length
 | []=>f' _
 | i::c=>by
  have:=vY c
  show(i.told++(jU c).flatten).length≤3*(c.length+1)
  rw[gc]
  have:i.told.length≤3:=by cases i<;>simp[Ins.told]
  omega
theorem Fy(c:Vbdeaa.Code):Vbdeaa.toldCode c=(jU c).flatten:=by
 unfold Vbdeaa.toldCode jU
 rw[List.flatMap_def]
noncomputable def wL(C Cx:Addr):Sp:=fun vs H Q E=>∃(a:Addr)(e:Exp)(n:Nat),vs=[.ref a,.int n]∧n≤8∧cF C H e a∧gK e∧e.height≤32∧Vbdeam.size e≤100000∧(MX.Kn n e→Hz H Q (vI (Vbdeam.numbers n e)))∧(¬MX.Kn n e→bz Cx (-8) H E)
noncomputable abbrev oO:Stmt:=top 47
section
theorem JM:aK ["node","n"] ["node","n"] (aD oO):=⟨rfl,rfl,rfl,by decide +kernel,rfl,by decide +kernel,by decide +kernel⟩
theorem Lb{f C Cx fI Z:Addr}{fd dI dJ:FuncData}(F:Fn K mg "code_of" oO f fd ["node","n"])(G:Fn K mg "instructions_of" um fI dI ["node","n"])(GI:aF P w K mg base (aW P w) 39 fI dI ["node","n"] (rT C Cx 32))(z:Fn K mg "joined" oM Z dJ ["rows"]):aF P w K mg base (aW P w) 40 f fd ["node","n"] (wL C Cx):=by
 have GJ:aF P w K mg base (aW P w) 1 Z dJ _ _:=GF z
 refine d9 F.F JM (fun vs H Q E h=>?_) (fun cdv A outer s H vs Q E hr h=>?_)
 ·obtain⟨_,_,_,rfl,_⟩:=h
  rfl
 ·obtain⟨a,e,n,rfl,L,hn,J,hh,hsz,k,kr⟩:=h
  have S:bG 1 _:=hr.mono (by omega)
  refine⟨_,ao (aV (a_ GJ S rfl z.m z.F.kp z.b .nil passes (aj (a_ GI hr rfl G.m G.F.kp G.b .nil passes (aj (pv 0) (aj (pv 1) au))) au))),?_⟩
  refine⟨_,rfl,_,rfl,a,e,n,rfl,L,hn,J,hh,hsz,fun Y l ts H1 hl s1 D j aa=>?_,kr⟩
  have h1:=vY (Vbdeam.codeOf n e)
  have h2:=cT n e
  refine⟨l,ts,jU (Vbdeam.codeOf n e),rfl,D,j,by omega,fun l2 H2 O s2 U=>k Y l2 H2 (same_none s1 O) (s1.trans s2) ?_⟩
  rw[U]
  unfold Vbdeam.numbers
  rw[Fy]
end
structure SX (n:Nat) (t:Text) (Ct Ce Ch Cx Cl:Addr) (H:Hp) (Q:V→Hp→Prop) (E:XK):Prop where
 long:¬t.length≤2000→bz Ct (-5) H E
 no:t.length≤2000→∀p,Vbdeaa.readExp t=.error p→bz Ce (-6) H E
 high:∀e,t.length≤2000→Vbdeaa.readExp t=.ok e→¬e.height≤32→bz Ch (-7) H E
 name:∀e,t.length≤2000→Vbdeaa.readExp t=.ok e→e.height≤32→¬MX.Kn n e→bz Cx (-8) H E
 big:∀e,t.length≤2000→Vbdeaa.readExp t=.ok e→e.height≤32→MX.Kn n e→¬(Vbdeam.numbers n e).length≤500→bz Cl (-2) H E
 yes:∀e,t.length≤2000→Vbdeaa.readExp t=.ok e→e.height≤32→MX.Kn n e→(Vbdeam.numbers n e).length≤500→gK e→Hz H Q (vI (Vbdeam.numbers n e))
noncomputable def Rb(K:PySem.W.Frag)(Ct Ce Ch Cx Cl:Addr):Sp:=fun vs H Q E=>∃(l:Addr)(n:Nat)(t:Text),vs=[.int n,.ref l]∧bV K H l (vI t)∧n≤8∧SX n t Ct Ce Ch Cx Cl H Q E
noncomputable abbrev Uk:Stmt:=top 82
theorem U4{n:Nat}{t:Text}(h:¬t.length≤2000):Vbdeam.readIn n t=.error (-5):=by
 unfold Vbdeam.readIn
 rw[jI (show Vbdeaa.LONG<t.length by unfold Vbdeaa.LONG;omega)]
theorem U3{n p:Nat}{t:Text}(h:t.length≤2000)(h1:Vbdeaa.readExp t=.error p):Vbdeam.readIn n t=.error (-6):=by
 unfold Vbdeam.readIn
 rw[i9 (show ¬Vbdeaa.LONG<t.length by unfold Vbdeaa.LONG;omega),h1]
theorem UV{n:Nat}{t:Text}{e:Exp}(h:t.length≤2000)(h1:Vbdeaa.readExp t=.ok e):Vbdeam.readIn n t=if Vbdeaa.HIGH<e.height then .error (-7)else if Vbdeam.known n e=false then .error (-8)else if Vbdeam.LONGCODE<(Vbdeam.numbers n e).length then .error (-2)else .ok e:=by
 unfold Vbdeam.readIn
 rw[i9 (show ¬Vbdeaa.LONG<t.length by unfold Vbdeaa.LONG;omega),h1]
theorem U0{n:Nat}{t:Text}{e:Exp}(h:t.length≤2000)(h1:Vbdeaa.readExp t=.ok e)(h2:¬e.height≤32):Vbdeam.readIn n t=.error (-7):=by
 rw[UV h h1,jI (show Vbdeaa.HIGH<e.height by unfold Vbdeaa.HIGH;omega)]
theorem UT{n:Nat}{t:Text}{e:Exp}(h:t.length≤2000)(h1:Vbdeaa.readExp t=.ok e)(h2:e.height≤32):Vbdeam.readIn n t=if Vbdeam.known n e=false then .error (-8)else if Vbdeam.LONGCODE<(Vbdeam.numbers n e).length then .error (-2)else .ok e:=by
 rw[UV h h1,i9 (show ¬Vbdeaa.HIGH<e.height by unfold Vbdeaa.HIGH;omega)]
theorem UW{n:Nat}{t:Text}{e:Exp}(h:t.length≤2000)(h1:Vbdeaa.readExp t=.ok e)(h2:e.height≤32)(j:¬MX.Kn n e):Vbdeam.readIn n t=.error (-8):=by
 rw[UT h h1 h2,jI (by rw[←Bool.not_eq_true];exact fun z=>j ((eX n e).mpr z))]
theorem UL{n:Nat}{t:Text}{e:Exp}(h:t.length≤2000)(h1:Vbdeaa.readExp t=.ok e)(h2:e.height≤32)(j:MX.Kn n e):Vbdeam.readIn n t=if Vbdeam.LONGCODE<(Vbdeam.numbers n e).length then .error (-2)else .ok e:=by
 rw[UT h h1 h2,i9 (show ¬Vbdeam.known n e=false by rw[(eX n e).mp j];simp)]
theorem U5{n:Nat}{t:Text}{e:Exp}(h:t.length≤2000)(h1:Vbdeaa.readExp t=.ok e)(h2:e.height≤32)(j:MX.Kn n e)(z:¬(Vbdeam.numbers n e).length≤500):Vbdeam.readIn n t=.error (-2):=by
 rw[UL h h1 h2 j,jI (show Vbdeam.LONGCODE<_ by unfold Vbdeam.LONGCODE;omega)]
theorem UJ{n:Nat}{t:Text}{e:Exp}(h:t.length≤2000)(h1:Vbdeaa.readExp t=.ok e)(h2:e.height≤32)(j:MX.Kn n e)(z:(Vbdeam.numbers n e).length≤500):Vbdeam.readIn n t=.ok e:=by
 rw[UL h h1 h2 j,i9 (show ¬Vbdeam.LONGCODE<_ by unfold Vbdeam.LONGCODE;omega)]
theorem Fp{n:Int}(h:¬(0≤n∧n≤8)):Vbdeam.within n 0 8=false:=by
 unfold Vbdeam.within
 by_cases h0:0≤n
 ·rw[j4 (show ¬n≤8 by omega),Bool.and_false]
 ·rw[j4 h0,Bool.false_and]
theorem z9{n:Nat}(h:n≤8):Vbdeam.within n 0 8=true:=by
 unfold Vbdeam.within
 rw[i8 (show(0:Int)≤n by omega),i8 (show(n:Int)≤8 by omega)]
 rfl
section
theorem Rj:aK ["n","signs","node","numbers"] ["n","signs"] (aD Uk):=⟨rfl,rfl,rfl,by decide +kernel,rfl,by decide +kernel,by decide +kernel⟩
theorem Uv{f C Ct Ce Ch Cx Cl f1 f2 f3 i5 i7:Addr}{fd d1 d2 d3 d5 d7:FuncData}(F:Fn K mg "taken_text" Uk f fd ["n","signs"])(N:wk K C)(S:CS K mg)(ae:GC K mg "LONGEST_TEXT" (.i 2000))(L:XC P w K mg base "TextTooLong" Ct i5 d5 (-5))(U:XC P w K mg base "TextTooHigh" Ch i7 d7 (-7))
  (F1:Fn K mg "expression_of" yP f1 d1 ["text"]) (G1:aF P w K mg base (aW P w) 9 f1 d1 ["text"] (Ar K C Ce)) (F2:Fn K mg "code_of" oO f2 d2 ["node","n"]) (G2:aF P w K mg base (aW P w) 40 f2 d2 ["node","n"] (wL C Cx)) (F3:Fn K mg "check_length" JX f3 d3 ["numbers"]) (G3:aF P w K mg base (aW P w) 4 f3 d3 ["numbers"] (Jj K Cl)):aF P w K mg base (aW P w) 41 f fd ["n","signs"] (Rb K Ct Ce Ch Cx Cl):=by
 refine d9 F.F Rj (fun vs H Q E h=>?_) (fun cdv A outer s H vs Q E hr h=>?_)
 ·obtain⟨_,_,_,rfl,_⟩:=h
  rfl
 ·obtain⟨l,n,t,rfl,hl,ac,k⟩:=h
  have aa:bG 3 _:=hr.mono (by omega)
  have af:bG 4 _:=hr.mono (by omega)
  have ah:bG 9 _:=hr.mono (by omega)
  refine⟨_,aq (aX (aG qF (b7 bJ (by rfl) S.len (by decide +kernel) (aj (pv 1) au)) (bw rfl ae) (aL _)) (ao (bO L.made L.cls L.ok aa rfl L.m L.b rfl bF)) aP)
   (aq (bu (i:=2) Rj.nd rfl (Or.inl rfl) (a_ G1 ah rfl F1.m F1.F.kp F1.b .nil passes (aj (pv 1) au)))
   (aq (aX (aG qF (aJ (pv 2) rfl) (bw rfl S.HI) (aL _)) (ao (bO U.made U.cls U.ok aa rfl U.m U.b rfl bF)) aP)
   (aq (bu (i:=3) Rj.nd rfl (Or.inl rfl) (a_ G2 hr rfl F2.m F2.F.kp F2.b .nil passes (aj (pv 2) (aj (pv 0) au))))
   (aq (aM (a_ G3 af rfl F3.m F3.F.kp F3.b .nil passes (aj (pv 3) au))) (ao (aV (pv 3))))))),?_⟩
  refine⟨_,rfl,l,vI t,rfl,.inl hl,_,_,rfl,rfl,_,rfl,fM (fun h1=>?_) fun h1=>?_⟩
  ·have h1:(2000:Int)<((vI t).length:Nat):=js h1
   rw[dj]at h1
   exact(k.long (by omega)).go
  ·have h1:¬(2000:Int)<((vI t).length:Nat):=fun z=>h1 (i8 z)
   rw[dj]at h1
   have J:t.length≤2000:=by omega
   refine⟨_,rfl,l,t,rfl,hl,J,fun e he O hsz a H1 s1 Z=>?_,fun p hp=>k.no J p hp⟩
   obtain⟨dx,D,lk,as,h2,hD,ai,hp⟩:=oZ Z
   refine⟨_,rfl,a,C,dx,_,_,rfl,h2,N.cl,N.nH,rfl,_,_,rfl,rfl,_,rfl,fM (fun h3=>?_) fun h3=>?_⟩
   ·have h3:(32:Int)<e.height:=js h3
    exact((k.high e J he (by omega)).mono s1).go
   ·have h3:¬(32:Int)<e.height:=fun z=>h3 (i8 z)
    have hh:e.height≤32:=by omega
    refine⟨_,rfl,_,rfl,a,e,n,rfl,ac,Z,O,hh,by omega,fun j nl H2 ag s2 G=>?_,fun j=>(k.name e J he hh j).mono s1⟩
    refine⟨_,rfl,nl,_,rfl,bV.of G,fun Y=>?_,fun Y=>?_⟩
    ·rw[dj]at Y
     exact⟨_,rfl,k.yes e J he hh j Y O nl H2 (same_none s1 ag) (s1.trans s2) G⟩
    ·rw[dj]at Y
     exact(k.big e J he hh j Y).mono (s1.trans s2)
end
noncomputable def dI(l:List Int):List PyData:=l.map PyData.int
theorem zN:∀l:List Int,PyData.canLayAll0 (dI l)=true
 | []=>rfl
 | i::l=>by
  show(PyData.canLay0 (.int i)&&PyData.canLayAll0 (dI l))=true
  rw[zN l]
  rfl
theorem uQ:∀l:List Int,PyData.depthAll (dI l)≤1
 | []=>by show PyData.depthAll []≤1;unfold PyData.depthAll;omega
 | i::l=>by
  have:=uQ l
  show PyData.depthAll (.int i::dI l)≤1
  unfold PyData.depthAll PyData.depth
  omega
theorem shaped_ints(l:List Int):SeqAt.shaped (.list (dI l))=true:=by
 have h:=uQ l
 unfold SeqAt.shaped
 rw[h9,jv]
 refine⟨zN l,?_⟩
 unfold PyData.depth
 omega
theorem zE:∀l r:List Int,PyData.eqvAll (dI l) (dI r)=decide (l=r)
 | [],[]=>rfl
 | [],j::r=>rfl
 | i::l,[]=>rfl
 | i::l,j::r=>by
  show(PyData.eqv (.int i) (.int j)&&PyData.eqvAll (dI l) (dI r))=_
  rw[zE l r,iX,h9,jv,jv,List.cons.injEq]
  refine and_congr ?_ Iff.rfl
  show((i==j)=true)↔_
  exact beq_iff_eq
theorem xW{K:PySem.W.Frag}{H:Hp}:∀l:List Int,u9 K H (vI l) (dI l)
 | []=>.nil
 | i::l=>.cons (.int i) (xW l)
noncomputable abbrev Dv:Stmt:=top 83
theorem JQ{n:Int}{t u:Text}(h:¬(0≤n∧n≤8)):PyVbdeam.same n t u=[-1]:=by
 show Vbdeam.given (if Vbdeam.within n 0 8=false then .error (-1)else _)=_
 rw[jI (Fp h)]
 rfl
theorem wR{n:Nat}{t u:Text}(h:n≤8):PyVbdeam.same n t u=Vbdeam.given (match Vbdeam.readIn n t,Vbdeam.readIn n u with
  | .error e,_=>.error e
  | _,.error e=>.error e
  | .ok a,.ok b=>.ok [if Vbdeam.numbers n a=Vbdeam.numbers n b then 1 else 0]):=by
 show Vbdeam.given (if Vbdeam.within n 0 8=false then .error (-1)else _)=_
 rw[i9 (by rw[z9 h];simp)]
 rfl
theorem oH{n:Nat}{e:Int}{t u:Text}(h:n≤8)(h1:Vbdeam.readIn n t=.error e):PyVbdeam.same n t u=[e]:=by rw[wR h,h1];rfl
theorem jT{n:Nat}{e:Int}{t u:Text}{a:Exp}(h:n≤8)(h1:Vbdeam.readIn n t=.ok a)(h2:Vbdeam.readIn n u=.error e):PyVbdeam.same n t u=[e]:=by rw[wR h,h1,h2];rfl
theorem JP{n:Nat}{t u:Text}{a b:Exp}(h:n≤8)(h1:Vbdeam.readIn n t=.ok a)(h2:Vbdeam.readIn n u=.ok b):PyVbdeam.same n t u=[0,if Vbdeam.numbers n a=Vbdeam.numbers n b then 1 else 0]:=by rw[wR h,h1,h2];rfl
noncomputable def Ak(K:PySem.W.Frag):Sp:=fun vs H Q _=>∃(n:Int)(l r:Addr)(t u:List Int),vs=[.int n,.ref l,.ref r]∧bV K H l (vI t)∧bV K H r (vI u)∧Hz H Q (vI (PyVbdeam.same n t u))
section
theorem wO:aK ["n","text","other","first","second","refusal"] ["n","text","other"] (aD Dv):=⟨rfl,rfl,rfl,by decide +kernel,rfl,by decide +kernel,by decide +kernel⟩
theorem Ou{f Rc Cw Ct Ce Ch Cx Cl f1 f2:Addr}{fd d1 d2:FuncData}(F:Fn K mg "same" Dv f fd ["n","text","other"])(hR:mg "Refusal"=some (.ref Rc))
  (F1:Fn K mg "check_parameters" JR f1 d1 ["n"]) (G1:aF P w K mg base (aW P w) 4 f1 d1 ["n"] (Jf Cw)) (U:Fn K mg "taken_text" Uk f2 d2 ["n","signs"]) (G2:aF P w K mg base (aW P w) 41 f2 d2 ["n","signs"] (Rb K Ct Ce Ch Cx Cl))
  (cw:pJ K Cw) (ct:pJ K Ct) (ce:pJ K Ce) (ch:pJ K Ch) (cx:pJ K Cx) (cl:pJ K Cl) (xw:PySem.W.exmOne K (.ref Cw) (.ref Rc)=some true) (xt:PySem.W.exmOne K (.ref Ct) (.ref Rc)=some true) (xe:PySem.W.exmOne K (.ref Ce) (.ref Rc)=some true) (xh:PySem.W.exmOne K (.ref Ch) (.ref Rc)=some true) (xx:PySem.W.exmOne K (.ref Cx) (.ref Rc)=some true) (xl:PySem.W.exmOne K (.ref Cl) (.ref Rc)=some true) :
  aF P w K mg base (aW P w) 67 f fd ["n","text","other"] (Ak K):=by
 refine d9 F.F wO (fun vs H Q E h=>?_) (fun cdv A outer s H vs Q E hr h=>?_)
 ·obtain⟨_,_,_,_,_,rfl,_⟩:=h
  rfl
 ·obtain⟨n,l,r,t,u,rfl,hl,ae,k⟩:=h
  have ac:bG 4 _:=hr.mono (by omega)
  have O:bG 41 _:=hr.mono (by omega)
  have hu:=hr.units
  refine⟨_,ao (Gp (Rc:=Rc) (i:=5) rfl wO.nd rfl rfl rfl hR rfl rfl (fun pn xe E th=>aq (aM (a_ G1 ac rfl F1.m F1.F.kp F1.b .nil th.passes (aj (pv 0) au)))
   (aq (bu (i:=3) wO.nd rfl (Or.inl rfl) (a_ G2 O rfl U.m U.F.kp U.b .nil th.passes (aj (pv 0) (aj (pv 1) au))))
   (aq (bu (i:=4) wO.nd rfl (Or.inl rfl) (a_ G2 O rfl U.m U.F.kp U.b .nil th.passes (aj (pv 0) (aj (pv 2) au))))
   (ao (aV (bT (aj aB (aj (uw (aG (show oA _ _ (Up K)from RK hu) (pv 3) (pv 4) (aL _)) aB aB) au))))))))),?_⟩
  refine⟨_,rfl,n,rfl,fun hn=>?_,fun hn=>caught cw xw k (by rw[JQ hn];rfl)⟩
  obtain⟨m,rfl⟩:∃m:Nat,n=m:=⟨n.toNat,by omega⟩
  have D:m≤8:=by omega
  refine⟨_,rfl,_,rfl,l,m,t,rfl,hl,D,?_⟩
  refine⟨fun h1=>caught ct xt k (by rw[oH D (U4 h1)];rfl),fun h1 p h2=>caught ce xe k (by rw[oH D (U3 h1 h2)];rfl),fun e h1 h2 j=>caught ch xh k (by rw[oH D (U0 h1 h2 j)];rfl),fun e h1 h2 j J=>caught cx xx k (by rw[oH D (UW h1 h2 j J)];rfl),fun e h1 h2 j J S=>caught cl xl k (by rw[oH D (U5 h1 h2 j J S)];rfl),fun e h1 h2 j J S _ nl H1 ag s1 Y=>?_⟩
  have G:=UJ h1 h2 j J S
  have k1:Hz H1 _ (vI (PyVbdeam.same m t u)):=fun l' H' z s' z'=>k l' H' (same_none s1 z) (s1.trans s') z'
  refine⟨_,rfl,_,rfl,r,m,u,rfl,eE s1 ae,D,?_⟩
  refine⟨fun h1=>caught ct xt k1 (by rw[jT D G (U4 h1)];rfl),fun h1 p h2=>caught ce xe k1 (by rw[jT D G (U3 h1 h2)];rfl),fun e h1 h2 j=>caught ch xh k1 (by rw[jT D G (U0 h1 h2 j)];rfl),fun e h1 h2 j J=>caught cx xx k1 (by rw[jT D G (UW h1 h2 j J)];rfl),fun e h1 h2 j J S=>caught cl xl k1 (by rw[jT D G (U5 h1 h2 j J S)];rfl),fun e2 h1 h2 j J S _ nr H2 af s2 aa=>?_⟩
  have Z:=UJ h1 h2 j J S
  rw[JP D G Z]at k1
  refine⟨_,rfl,_,rfl,.list (dI (Vbdeam.numbers m e)),.list (dI (Vbdeam.numbers m e2)),.lst (bV.of (s2 _ _ Y)) (xW _),.lst (bV.of aa) (xW _),shaped_ints _,shaped_ints _,_,rfl,?_⟩
  rw[show PyData.eqv (.list (dI (Vbdeam.numbers m e))) (.list (dI (Vbdeam.numbers m e2)))=decide (Vbdeam.numbers m e=Vbdeam.numbers m e2)from zE _ _]
  by_cases hq:Vbdeam.numbers m e=Vbdeam.numbers m e2
  ·rw[i8 hq]
   rw[jI hq]at k1
   exact bh ⟨(by show 2≤sizeLine;decide),fun l8 L=>k1 l8 _ (same_none s2 L) (s2.trans (aA.upd L)) ak⟩
  ·rw[j4 hq]
   rw[i9 hq]at k1
   exact aQ ⟨(by show 2≤sizeLine;decide),fun l8 L=>k1 l8 _ (same_none s2 L) (s2.trans (aA.upd L)) ak⟩
end
theorem rR{us:List Value}{n:Nat}(h:us.length=n+1):∃a r,us=a::r∧r.length=n:=by
 cases us with
 | nil=>cases h
 | cons a r=>exact⟨a,r,rfl,Nat.succ.inj h⟩
theorem ou{us:List Value}(h:us.length=1):∃a,us=[a]:=by
 obtain⟨a,r,rfl,h2⟩:=rR h
 exact⟨a,by rw[List.length_eq_zero_iff.mp h2]⟩
theorem rA{us:List Value}(h:us.length=2):∃j a1,us=[j,a1]:=by
 obtain⟨j,r,rfl,h2⟩:=rR h
 obtain⟨a1,rfl⟩:=ou h2
 exact⟨j,a1,rfl⟩
theorem Tv{us:List Value}(h:us.length=3):∃j a1 a2,us=[j,a1,a2]:=by
 obtain⟨j,r,rfl,h2⟩:=rR h
 obtain⟨a1,a2,rfl⟩:=rA h2
 exact⟨j,a1,a2,rfl⟩
theorem Tu{us:List Value}(h:us.length=4):∃j a1 a2 z,us=[j,a1,a2,z]:=by
 obtain⟨j,r,rfl,h2⟩:=rR h
 obtain⟨a1,a2,z,rfl⟩:=Tv h2
 exact⟨j,a1,a2,z,rfl⟩
theorem Ck:aN "kind_of" "kind_of" qC ["form","detail"]:=fun _ _ _ _ _ _ us j=>by obtain⟨z,a1,rfl⟩:=rA j;rfl
theorem zO:aN "place_of" "place_of" pU ["kind","position"]:=fun _ _ _ _ _ _ us j=>by obtain⟨z,a1,rfl⟩:=rA j;rfl
theorem ye:aN "around_of" "around_of" oU ["kind","position"]:=fun _ _ _ _ _ _ us j=>by obtain⟨z,a1,rfl⟩:=rA j;rfl
theorem qt:aN "number_within" "number_within" jf ["name","head","tail","count"]:=fun _ _ _ _ _ _ us j=>by obtain⟨z,a1,a2,D,rfl⟩:=Tu j;rfl
theorem pC:aN "number_of_read" "number_of_read" JW ["name"]:=fun _ _ _ _ _ _ us j=>by obtain⟨z,rfl⟩:=ou j;rfl
theorem ir:aN "bare_name_instruction" "bare_name_instruction" yQ ["name","n"]:=fun _ _ _ _ _ _ us j=>by obtain⟨z,a1,rfl⟩:=rA j;rfl
theorem gF:aN "called_name_instruction" "called_name_instruction" oR ["name","count"]:=fun _ _ _ _ _ _ us j=>by obtain⟨z,a1,rfl⟩:=rA j;rfl
theorem nY:aN "instructions_of" "instructions_of" um ["node","n"]:=fun _ _ _ _ _ _ us j=>by obtain⟨z,a1,rfl⟩:=rA j;rfl
theorem mO:aN "own_instructions" "own_instructions" JT ["node","sizes","n"]:=fun _ _ _ _ _ _ us j=>by obtain⟨z,a1,a2,rfl⟩:=Tv j;rfl
theorem lg:aN "last_instructions" "last_instructions" yO ["node","n"]:=fun _ _ _ _ _ _ us j=>by obtain⟨z,a1,rfl⟩:=rA j;rfl
theorem Hn:aN "joined" "joined" oM ["rows"]:=fun _ _ _ _ _ _ us j=>by obtain⟨z,rfl⟩:=ou j;rfl
theorem Cm:aN "code_of" "code_of" oO ["node","n"]:=fun _ _ _ _ _ _ us j=>by obtain⟨z,a1,rfl⟩:=rA j;rfl
theorem pF:aN "common_divisor" "common_divisor" J1 ["a","b"]:=fun _ _ _ _ _ _ us j=>by obtain⟨z,a1,rfl⟩:=rA j;rfl
theorem rF:aN "lowest_terms" "lowest_terms" oK ["numerator","denominator"]:=fun _ _ _ _ _ _ us j=>by obtain⟨z,a1,rfl⟩:=rA j;rfl
theorem zP:aN "is_digit" "is_digit" jg ["sign"]:=fun _ _ _ _ _ _ us j=>by obtain⟨z,rfl⟩:=ou j;rfl
theorem yd:aN "is_letter" "is_letter" gP ["sign"]:=fun _ _ _ _ _ _ us j=>by obtain⟨z,rfl⟩:=ou j;rfl
theorem rG:aN "is_name_sign" "is_name_sign" ul ["sign"]:=fun _ _ _ _ _ _ us j=>by obtain⟨z,rfl⟩:=ou j;rfl
theorem pD:aN "name_sign_text" "name_sign_text" JV ["sign"]:=fun _ _ _ _ _ _ us j=>by obtain⟨z,rfl⟩:=ou j;rfl
theorem yc:aN "tokens_of" "tokens_of" yM ["text"]:=fun _ _ _ _ _ _ us j=>by obtain⟨z,rfl⟩:=ou j;rfl
theorem qu:aN "expression_of" "expression_of" yP ["text"]:=fun _ _ _ _ _ _ us j=>by obtain⟨z,rfl⟩:=ou j;rfl
theorem mQ:aN "check_parameters" "check_parameters" JR ["n"]:=fun _ _ _ _ _ _ us j=>by obtain⟨z,rfl⟩:=ou j;rfl
theorem rH:aN "check_length" "check_length" JX ["numbers"]:=fun _ _ _ _ _ _ us j=>by obtain⟨z,rfl⟩:=ou j;rfl
theorem vp:aN "taken_text" "taken_text" Uk ["n","signs"]:=fun _ _ _ _ _ _ us j=>by obtain⟨z,a1,rfl⟩:=rA j;rfl
theorem EY:aN "same" "same" Dv ["n","text","other"]:=fun _ _ _ _ _ _ us j=>by obtain⟨z,a1,a2,rfl⟩:=Tv j;rfl
theorem rJ:aN "peek" "Scanner.peek" (bM 1) ["self","ahead"]:=fun _ _ _ _ _ _ us j=>by obtain⟨z,a1,rfl⟩:=rA j;rfl
theorem jH:aN "scan_token" "Scanner.scan_token" (bM 2) ["self"]:=fun _ _ _ _ _ _ us j=>by obtain⟨z,rfl⟩:=ou j;rfl
theorem iw:aN "digits_behind" "Scanner.digits_behind" (bM 3) ["self","sign"]:=fun _ _ _ _ _ _ us j=>by obtain⟨z,a1,rfl⟩:=rA j;rfl
theorem jq:aN "take_digits" "Scanner.take_digits" (bM 4) ["self","number"]:=fun _ _ _ _ _ _ us j=>by obtain⟨z,a1,rfl⟩:=rA j;rfl
theorem iu:aN "take_decimals" "Scanner.take_decimals" (bM 5) ["self","whole"]:=fun _ _ _ _ _ _ us j=>by obtain⟨z,a1,rfl⟩:=rA j;rfl
theorem jr:aN "scan_number" "Scanner.scan_number" (bM 6) ["self"]:=fun _ _ _ _ _ _ us j=>by obtain⟨z,rfl⟩:=ou j;rfl
theorem gG:aN "take_name_signs" "Scanner.take_name_signs" (bM 7) ["self"]:=fun _ _ _ _ _ _ us j=>by obtain⟨z,rfl⟩:=ou j;rfl
theorem lu:aN "scan_name" "Scanner.scan_name" (bM 8) ["self"]:=fun _ _ _ _ _ _ us j=>by obtain⟨z,rfl⟩:=ou j;rfl
theorem lq:aN "scan_sign" "Scanner.scan_sign" (bM 9) ["self"]:=fun _ _ _ _ _ _ us j=>by obtain⟨z,rfl⟩:=ou j;rfl
theorem iV:aN "ends_with_part" "Frame.ends_with_part" (wY 1) ["self"]:=fun _ _ _ _ _ _ us j=>by obtain⟨z,rfl⟩:=ou j;rfl
theorem uU:aN "take" "Parser.take" (aY 1) ["self"]:=fun _ _ _ _ _ _ us j=>by obtain⟨z,rfl⟩:=ou j;rfl
theorem uV:aN "step" "Parser.step" (aY 2) ["self"]:=fun _ _ _ _ _ _ us j=>by obtain⟨z,rfl⟩:=ou j;rfl
theorem uW:aN "push" "Parser.push" (aY 3) ["self","form","detail","parts"]:=fun _ _ _ _ _ _ us j=>by obtain⟨z,a1,a2,D,rfl⟩:=Tu j;rfl
theorem rM:aN "begin" "Parser.begin" (aY 4) ["self","token"]:=fun _ _ _ _ _ _ us j=>by obtain⟨z,a1,rfl⟩:=rA j;rfl
theorem lB:aN "begin_name" "Parser.begin_name" (aY 5) ["self","name"]:=fun _ _ _ _ _ _ us j=>by obtain⟨z,a1,rfl⟩:=rA j;rfl
theorem lA:aN "begin_word" "Parser.begin_word" (aY 6) ["self","word"]:=fun _ _ _ _ _ _ us j=>by obtain⟨z,a1,rfl⟩:=rA j;rfl
theorem iz:aN "begin_brackets" "Parser.begin_brackets" (aY 7) ["self","form","detail"]:=fun _ _ _ _ _ _ us j=>by obtain⟨z,a1,a2,rfl⟩:=Tv j;rfl
theorem rK:aN "go_on" "Parser.go_on" (aY 8) ["self","token"]:=fun _ _ _ _ _ _ us j=>by obtain⟨z,a1,rfl⟩:=rA j;rfl
theorem jt:aN "go_on_around" "Parser.go_on_around" (aY 9) ["self","token"]:=fun _ _ _ _ _ _ us j=>by obtain⟨z,a1,rfl⟩:=rA j;rfl
theorem nZ:aN "join_two" "Parser.join_two" (aY 10) ["self","form","detail"]:=fun _ _ _ _ _ _ us j=>by obtain⟨z,a1,a2,rfl⟩:=Tv j;rfl
theorem mV:aN "end_parts" "Parser.end_parts" (aY 11) ["self"]:=fun _ _ _ _ _ _ us j=>by obtain⟨z,rfl⟩:=ou j;rfl
theorem mW:aN "end_frame" "Parser.end_frame" (aY 12) ["self"]:=fun _ _ _ _ _ _ us j=>by obtain⟨z,rfl⟩:=ou j;rfl
theorem n6:aN "end_with" "Parser.end_with" (aY 13) ["self","form","detail","parts"]:=fun _ _ _ _ _ _ us j=>by obtain⟨z,a1,a2,D,rfl⟩:=Tu j;rfl
theorem lz:aN "next_of_if" "Parser.next_of_if" (aY 14) ["self","count"]:=fun _ _ _ _ _ _ us j=>by obtain⟨z,a1,rfl⟩:=rA j;rfl
theorem gH:aN "next_in_brackets" "Parser.next_in_brackets" (aY 15) ["self"]:=fun _ _ _ _ _ _ us j=>by obtain⟨z,rfl⟩:=ou j;rfl
theorem mU:aN "keep_part" "Parser.keep_part" (aY 16) ["self"]:=fun _ _ _ _ _ _ us j=>by obtain⟨z,rfl⟩:=ou j;rfl
theorem iy:aN "close_brackets" "Parser.close_brackets" (aY 17) ["self"]:=fun _ _ _ _ _ _ us j=>by obtain⟨z,rfl⟩:=ou j;rfl
theorem Qp:aN "__init__" "Node.__init__" Dy ["self","form","detail","parts"]:=fun _ _ _ _ _ _ us j=>by obtain⟨z,a1,a2,D,rfl⟩:=Tu j;rfl
theorem Cr:aN "__init__" "Scanner.__init__" (bM 0) ["self","signs"]:=fun _ _ _ _ _ _ us j=>by obtain⟨z,a1,rfl⟩:=rA j;rfl
theorem Mv:aN "__init__" "Frame.__init__" (wY 0) ["self","form","detail","parts"]:=fun _ _ _ _ _ _ us j=>by obtain⟨z,a1,a2,D,rfl⟩:=Tu j;rfl
theorem Hq:aN "__init__" "Parser.__init__" (aY 0) ["self","tokens"]:=fun _ _ _ _ _ _ us j=>by obtain⟨z,a1,rfl⟩:=rA j;rfl
theorem Cu:aN "__init__" "Refusal.__init__" vh ["self","number"]:=fun _ _ _ _ _ _ us j=>by obtain⟨z,a1,rfl⟩:=rA j;rfl
theorem ju:aN "__init__" "WrongParameterCount.__init__" (yN 26) ["self"]:=fun _ _ _ _ _ _ us j=>by obtain⟨z,rfl⟩:=ou j;rfl
theorem uZ:aN "__init__" "CodeTooLong.__init__" (yN 27) ["self"]:=fun _ _ _ _ _ _ us j=>by obtain⟨z,rfl⟩:=ou j;rfl
theorem uX:aN "__init__" "TextTooLong.__init__" wV ["self"]:=fun _ _ _ _ _ _ us j=>by obtain⟨z,rfl⟩:=ou j;rfl
theorem rN:aN "__init__" "NoExpression.__init__" wX ["self"]:=fun _ _ _ _ _ _ us j=>by obtain⟨z,rfl⟩:=ou j;rfl
theorem uY:aN "__init__" "TextTooHigh.__init__" wW ["self"]:=fun _ _ _ _ _ _ us j=>by obtain⟨z,rfl⟩:=ou j;rfl
theorem yf:aN "__init__" "WrongName.__init__" wU ["self"]:=fun _ _ _ _ _ _ us j=>by obtain⟨z,rfl⟩:=ou j;rfl
noncomputable def consts:List (Str×TV):=([("ONE",.i 2),("TWO",.i 3),("AND",.i 4),("OR",.i 5),("IF",.i 6),("STRONGEST",.i 9),("ONE_KINDS",tvs S8),("TWO_KINDS",tvs S5),("PLACES",.t (oh.map tvs)),("AROUND",.t (pL.map tvs)),("NUMBER",.i 0),("NAME",.i 1),("PICK",.i 7),("ONE_WORDS",Ft vq),("PICK_WORDS",Ft q_),("TWO_SIGNS",.t (dY.map tvs)),("FORMULAS",.i 64),("TABLES",.i 64),("MOST_ARGUMENTS",.i 8),("CALL",.i 8),("MOST_PARAMETERS",.i 8),("LONGEST_CODE",.i 500),("LONGEST_TEXT",.i 2000),("HIGHEST",.i 32),("DEEPEST",.i 32),("LARGEST",.i 1000000000000000000),("READ_ROWS",.t (ROWS.map J9)),("POINT",.i 46),("COLON",.i 58),("UNDERSCORE",.i 95)]:List (Str×TV))++([("BLANKS",tvs [32,9,10,13]),("LONGEST_NAME",.i 24),("SMALL_LETTERS",.s ABC),("WORDS",Ft u6),("GROUP",.i 9),("NEGATIVE",.i 0),("NEGATION",.i 1),("OPENING",.t [.s "mark",.s "("]),("MINUS",.t [.s "two",.i 1])]:List (Str×TV))
noncomputable def absent:List Str:=["max","len","str","list","range","tuple","Exception","int","zip","abs"]
noncomputable def constsOk(K:PySem.W.Frag):Bool:=consts.all fun p=>Wg K p.1 p.2
noncomputable def zV(K:PySem.W.Frag):Bool:=absent.all fun x=>isAbsent K x
theorem U9{K:PySem.W.Frag}{h:Heap}{mg:Str→Option Value}{x:Str}{c:TV}(X:K.In h)(G:h.Ns mainGlobals mg)(j:constsOk K=true)(i:Nat)(e:consts[i]?=some (x,c)):GC K mg x c :=
 U8 X G (j5.mp j (x,c) (j6 e))
theorem Uw{K:PySem.W.Frag}{h:Heap}{mg:Str→Option Value}{x:Str}(X:K.In h)(G:h.Ns mainGlobals mg)(j:zV K=true)(i:Nat)(e:absent[i]?=some x):mg x=none:=by
 have:=j5.mp j x (j6 e)
 unfold isAbsent at this
 split at this
 ·rename_i q
  exact PySem.W.mg_none_of X G q
 ·cases this
noncomputable def Qc(K:PySem.W.Frag)(x:Str):Bool:=match PySem.W.nsIn K mainGlobals x with
 | some (some (.ref a))=>(match K.lookup a with
  | some ⟨.type c,none,_,_⟩=>decide (c = "tuple")
  | _=>false)
 | _=>false
theorem Ma{K:PySem.W.Frag}{h:Heap}{mg:Str→Option Value}{x:Str}{l:List TV}(X:K.In h)(G:h.Ns mainGlobals mg)(e:GC K mg x (.t l))(e2:Qc K x=true):∃a xs,GT K mg x l a xs:=by
 obtain⟨u,v,D,z,S⟩:=e
 unfold Qc at e2
 split at e2
 ·rename_i a q
  have m:=PySem.W.mg_of X G q
  split at e2
  ·rename_i c d s J
   have j:c = "tuple":=js e2
   subst j
   obtain⟨O,xs,rfl,F,L⟩:=jE.tup S
   have z:u=.ref O:=z
   subst z
   rw[D]at m
   cases m
   exact⟨_,xs,D,F,L,_,J,rfl,rfl⟩
  ·cases e2
 ·cases e2
noncomputable def xT(w:World):List (Int×Str)→List DictEntry→Prop
 | [],[]=>True
 | p::r,e::s=>(∃t t',e.key=.int p.1 t∧e.val=.str p.2 t')∧e.hash=UG w (Sum.inl p.1)∧xT w r s
 | _,_=>False
theorem zG{w:World}:∀{l:List (Int×Str)}{es:List DictEntry},xT w l es→es.length=l.length
 | [],[],_=>rfl
 | p::r,e::s,h=>by simp only[cr];rw[zG h.2.2]
 | [],e::s,h=>h.elim
 | p::r,[],h=>h.elim
theorem v4{P:Program}{w:World}:∀{l:List (Int×Str)}{es:List DictEntry},xT w l es→∃vs:List (Key×Value),KV (l.map fun p=>(Sum.inl p.1,V.str p.2)) vs∧Pairs (cJ P w) es vs∧vs.map (·.1)=l.map (fun p=>(Sum.inl p.1:Key))∧∀e∈es,∃k,(cJ P w).is k e.key=true∧e.hash=(cJ P w).hash k
 | [],[],_=>⟨[],.nil,.nil,rfl,fun e h=>by cases h⟩
 | p::r,e::s,h=>by
  obtain⟨vs,h1,h2,F,G⟩:=v4 (P:=P) h.2.2
  obtain⟨t,t',z,D⟩:=h.1
  refine⟨(Sum.inl p.1,e.val)::vs,.cons ⟨rfl,by rw[D];exact⟨t',rfl⟩⟩ h1,.cons (by show(cJ P w).is (Sum.inl p.1) e.key=true;rw[z];exact kh P w _ t) rfl h2,by rw[i4,i4,F],fun J j=>?_⟩
  rcases hU.mp j with rfl | j
  ·exact⟨Sum.inl p.1,by rw[z];exact kh P w _ t,h.2.1⟩
  ·exact G J j
 | [],e::s,h=>h.elim
 | p::r,[],h=>h.elim
noncomputable def QS:List (Int×Str):=[(40,"("),(41,")"),(44,",")]
theorem zg:(QS.map fun p=>(Sum.inl p.1:Key)).Nodup:=by decide +kernel
theorem WN{K:PySem.W.Frag}{w:World}{h:Heap}{mg:Str→Option Value}{d:Addr}{es:List DictEntry}{ep:Nat}(X:K.In h)(G:h.Ns mainGlobals mg)(a:PySem.W.nsIn K mainGlobals "MARKS"=some (some (.ref d)))(l:K.lookup d=some ⟨.type "dict",none,.dict es.toArray ep,#[]⟩)(D:(d==sysModules)=false)(z:xT w QS es) :
  ∃d,mg "MARKS"=some (.ref d)∧KDict K w d lR:=by
 refine⟨d,PySem.W.mg_of X G a,D,fun P=>?_⟩
 obtain⟨vs,h1,h2,F,J⟩:=v4 (P:=P) z
 refine⟨_,es.toArray,ep,vs,l,⟨rfl,rfl,rfl⟩,rfl,?_,h1,fun e j=>J e (by simpa using j),by simpa using h2,by rw[F];exact zg⟩
 rw[ia,zG z]
 rfl
theorem SQ{P:Program}{w:World}{K:PySem.W.Frag}{h:Heap}{mg:Str→Option Value}{fa:Addr}(X:K.In h)(G:h.Ns mainGlobals mg)(hq:mg "same"=some (.ref fa))(hc:constsOk K=true)(ha:zV K=true)(hg:(["TWO_SIGNS","ONE_WORDS","PICK_WORDS"].all fun x=>Qc K x)=true)(hd:∃d,mg "READ_ALONE"=some (.ref d)∧KDict K w d mK)(hm:∃d,mg "MARKS"=some (.ref d)∧KDict K w d lR)
  (eB:∃f fd,Fn K mg "kind_of" qC f fd ["form","detail"])
  (eg:∃f fd,Fn K mg "place_of" pU f fd ["kind","position"])
  (d6:∃f fd,Fn K mg "around_of" oU f fd ["kind","position"])
  (cL:∃f fd,Fn K mg "number_within" jf f fd ["name","head","tail","count"])
  (cj:∃f fd,Fn K mg "number_of_read" JW f fd ["name"])
  (aE:∃f fd,Fn K mg "bare_name_instruction" yQ f fd ["name","n"])
  (af:∃f fd,Fn K mg "called_name_instruction" oR f fd ["name","count"])
  (b0:∃f fd,Fn K mg "instructions_of" um f fd ["node","n"])
  (bi:∃f fd,Fn K mg "own_instructions" JT f fd ["node","sizes","n"])
  (bb:∃f fd,Fn K mg "last_instructions" yO f fd ["node","n"])
  (eS:∃f fd,Fn K mg "joined" oM f fd ["rows"])
  (eu:∃f fd,Fn K mg "code_of" oO f fd ["node","n"])
  (cg:∃f fd,Fn K mg "common_divisor" J1 f fd ["a","b"])
  (c8:∃f fd,Fn K mg "lowest_terms" oK f fd ["numerator","denominator"])
  (eh:∃f fd,Fn K mg "is_digit" jg f fd ["sign"])
  (dQ:∃f fd,Fn K mg "is_letter" gP f fd ["sign"])
  (de:∃f fd,Fn K mg "is_name_sign" ul f fd ["sign"])
  (cp:∃f fd,Fn K mg "name_sign_text" JV f fd ["sign"])
  (d2:∃f fd,Fn K mg "tokens_of" yM f fd ["text"])
  (cN:∃f fd,Fn K mg "expression_of" yP f fd ["text"])
  (bp:∃f fd,Fn K mg "check_parameters" JR f fd ["n"])
  (df:∃f fd,Fn K mg "check_length" JX f fd ["numbers"])
  (dy:∃f fd,Fn K mg "taken_text" Uk f fd ["n","signs"])
  (fi:∃f fd,Fn K mg "same" Dv f fd ["n","text","other"])
  (HN:∃C,(∃f fd,M6 K mg "Node" "Node.__init__" Dy ["self","form","detail","parts"] C f fd)∧aO K C "form"∧aO K C "detail"∧aO K C "parts"∧aO K C "height")
  (HS:∃C,(∃f fd,M6 K mg "Scanner" "Scanner.__init__" (bM 0) ["self","signs"] C f fd)∧aO K C "signs"∧aO K C "at"∧aO K C "tokens"∧(∃f fd,Fm K C "peek" "Scanner.peek" (bM 1) f fd ["self","ahead"])∧(∃f fd,Fm K C "scan_token" "Scanner.scan_token" (bM 2) f fd ["self"])∧(∃f fd,Fm K C "digits_behind" "Scanner.digits_behind" (bM 3) f fd ["self","sign"])∧(∃f fd,Fm K C "take_digits" "Scanner.take_digits" (bM 4) f fd ["self","number"])∧(∃f fd,Fm K C "take_decimals" "Scanner.take_decimals" (bM 5) f fd ["self","whole"])∧(∃f fd,Fm K C "scan_number" "Scanner.scan_number" (bM 6) f fd ["self"])∧(∃f fd,Fm K C "take_name_signs" "Scanner.take_name_signs" (bM 7) f fd ["self"])∧(∃f fd,Fm K C "scan_name" "Scanner.scan_name" (bM 8) f fd ["self"])∧(∃f fd,Fm K C "scan_sign" "Scanner.scan_sign" (bM 9) f fd ["self"]))
  (HF:∃C,(∃f fd,M6 K mg "Frame" "Frame.__init__" (wY 0) ["self","form","detail","parts"] C f fd)∧aO K C "form"∧aO K C "detail"∧aO K C "parts"∧aO K C "place"∧aO K C "around"∧aO K C "bracket"∧(∃f fd,Fm K C "ends_with_part" "Frame.ends_with_part" (wY 1) f fd ["self"]))
  (HP:∃C,(∃f fd,M6 K mg "Parser" "Parser.__init__" (aY 0) ["self","tokens"] C f fd)∧aO K C "tokens"∧aO K C "at"∧aO K C "frames"∧aO K C "nesting"∧aO K C "ended"∧aO K C "kind"∧(∃f fd,Fm K C "take" "Parser.take" (aY 1) f fd ["self"])∧(∃f fd,Fm K C "step" "Parser.step" (aY 2) f fd ["self"])∧(∃f fd,Fm K C "push" "Parser.push" (aY 3) f fd ["self","form","detail","parts"])∧(∃f fd,Fm K C "begin" "Parser.begin" (aY 4) f fd ["self","token"])∧(∃f fd,Fm K C "begin_name" "Parser.begin_name" (aY 5) f fd ["self","name"])∧(∃f fd,Fm K C "begin_word" "Parser.begin_word" (aY 6) f fd ["self","word"])∧(∃f fd,Fm K C "begin_brackets" "Parser.begin_brackets" (aY 7) f fd ["self","form","detail"])∧(∃f fd,Fm K C "go_on" "Parser.go_on" (aY 8) f fd ["self","token"])∧(∃f fd,Fm K C "go_on_around" "Parser.go_on_around" (aY 9) f fd ["self","token"])∧(∃f fd,Fm K C "join_two" "Parser.join_two" (aY 10) f fd ["self","form","detail"])∧(∃f fd,Fm K C "end_parts" "Parser.end_parts" (aY 11) f fd ["self"])∧(∃f fd,Fm K C "end_frame" "Parser.end_frame" (aY 12) f fd ["self"])∧(∃f fd,Fm K C "end_with" "Parser.end_with" (aY 13) f fd ["self","form","detail","parts"])∧(∃f fd,Fm K C "next_of_if" "Parser.next_of_if" (aY 14) f fd ["self","count"])∧(∃f fd,Fm K C "next_in_brackets" "Parser.next_in_brackets" (aY 15) f fd ["self"])∧(∃f fd,Fm K C "keep_part" "Parser.keep_part" (aY 16) f fd ["self"])∧(∃f fd,Fm K C "close_brackets" "Parser.close_brackets" (aY 17) f fd ["self"]))
  (HX:∃Rc,(mg "Refusal"=some (.ref Rc)∧∃f fd,g_ K Rc "__init__" f∧fc K "__init__" "Refusal.__init__" vh f fd∧Binds K fd ["self","number"] [])∧(∃C f fd,C_ K mg "WrongParameterCount" "WrongParameterCount.__init__" (yN 26) Rc C f fd)∧(∃C f fd,C_ K mg "CodeTooLong" "CodeTooLong.__init__" (yN 27) Rc C f fd)∧(∃C f fd,C_ K mg "TextTooLong" "TextTooLong.__init__" wV Rc C f fd)∧(∃C f fd,C_ K mg "NoExpression" "NoExpression.__init__" wX Rc C f fd)∧(∃C f fd,C_ K mg "TextTooHigh" "TextTooHigh.__init__" wW Rc C f fd)∧(∃C f fd,C_ K mg "WrongName" "WrongName.__init__" wU Rc C f fd))
  : ∃fd:FuncData,(∀(s:Shared)(us:List Value),us.length=(["n","text","other"]:List Str).length→BindsTo s fd ⟨us,[]⟩ ((["n","text","other"]:List Str).zip us))∧∀base:Heap,K.In base→base.Ns mainGlobals mg→aF P w K mg base (aW P w) 67 fa fd ["n","text","other"] (Ak K):=by
 obtain⟨fO,fF,a3⟩:=eB
 obtain⟨fy,fB,c3⟩:=eg
 obtain⟨fo,fv,ee⟩:=d6
 obtain⟨cE,c0,z⟩:=cL
 obtain⟨cx,cb,ax⟩:=cj
 obtain⟨aC,aI,D⟩:=aE
 obtain⟨ag,ac,j⟩:=af
 obtain⟨b4,b3,ai⟩:=b0
 obtain⟨bo,bg,U⟩:=bi
 obtain⟨ba,bd,L⟩:=bb
 obtain⟨fS,fP,eM⟩:=eS
 obtain⟨et,ez,dt⟩:=eu
 obtain⟨eK,eH,b5⟩:=cg
 obtain⟨c7,db,a7⟩:=c8
 obtain⟨fC,fA,J⟩:=eh
 obtain⟨dU,dS,Z⟩:=dQ
 obtain⟨dc,c9,a6⟩:=de
 obtain⟨cq,ca,al⟩:=cp
 obtain⟨ed,eb,cs⟩:=d2
 obtain⟨cC,cK,aT⟩:=cN
 obtain⟨bt,bq,S⟩:=bp
 obtain⟨c6,c5,a5⟩:=df
 obtain⟨dJ,dO,bS⟩:=dy
 obtain⟨f8,fq,dW⟩:=fi
 obtain⟨C,⟨fN,dN,KN⟩,fg,e0,e6,e4⟩:=HN
 obtain⟨ZS,⟨iS,jS,KS⟩,eW,fJ,ey,⟨f7,gl,a4⟩,⟨dG,dP,bX⟩,⟨c1,cS,a0⟩,⟨dr,dn,ae⟩,⟨cB,cA,aS⟩,⟨dk,dg,a9⟩,⟨b2,b1,ah⟩,⟨dV,d5,b6⟩,⟨ec,d7,cn⟩⟩:=HS
 obtain⟨ZF,⟨iF,jF,KF⟩,e7,eD,eT,eR,eA,ek,⟨cc,b9,aw⟩⟩:=HF
 obtain⟨ZP,⟨iP,jP,KP⟩,ew,fD,eC,ef,eP,ff,⟨gi,gd,eJ⟩,⟨fk,fx,eI⟩,⟨fu,ft,be⟩,⟨e9,e5,ei⟩,⟨dA,dD,bv⟩,⟨dC,dF,bP⟩,⟨ck,cm,av⟩,⟨fb,e8,eo⟩,⟨c4,da,a8⟩,⟨el,er,c2⟩,⟨d3,ea,cy⟩,⟨d1,d4,aa⟩,⟨em,ej,ay⟩,⟨dB,dE,bE⟩,⟨bf,bn,Y⟩,⟨fw,fm,cv⟩,⟨cw,cf,ar⟩⟩:=HP
 obtain⟨Rc,⟨mR,fR,dR,eL,FR,bR⟩,⟨Cw,hv,hE,Xw⟩,⟨Cl,gE,hp,Xl⟩,⟨Ct,hL,gI,Xt⟩,⟨Ce,ht,hj,Xe⟩,⟨Ch,hH,gz,Xh⟩,⟨Cg,gL,hb,Xg⟩⟩:=HX
 obtain⟨dm,gu,he⟩:=hm
 have e:=hq.symm.trans dW.m
 cases e
 have no:∀(i:Nat){x:Str},absent[i]?=some x→mg x=none:=fun i _ e=>Uw X G ha i e
 have O:∀(i:Nat){x:Str}{c:TV},consts[i]?=some (x,c)→GC K mg x c:=fun i _ _ e=>U9 X G hc i e
 have gg:∀x∈["TWO_SIGNS","ONE_WORDS","PICK_WORDS"],Qc K x=true:=j5.mp hg
 have TN:wk K C:=⟨KN.cl,fg,e0,e6,e4⟩
 have TS:jC K ZS:=⟨KS.cl,eW,fJ,ey⟩
 have TF:gb K ZF:=⟨KF.cl,e7,eD,eT,eR,eA,ek⟩
 have TP:iY K ZP:=⟨KP.cl,ew,fD,eC,ef,eP,ff⟩
 have TQ:CN K mg:=⟨O 0 rfl,O 1 rfl,O 2 rfl,O 3 rfl,O 4 rfl,O 5 rfl,O 6 rfl,O 7 rfl,O 8 rfl,O 9 rfl⟩
 have TY:CP K mg:=⟨O 10 rfl,O 11 rfl,O 12 rfl,O 13 rfl,O 14 rfl,O 15 rfl,no 2 rfl,no 3 rfl,no 4 rfl,no 1 rfl⟩
 have fT:SB.CR K mg:=⟨O 16 rfl,O 17 rfl,O 18 rfl⟩
 have TU:CS K mg:=⟨O 20 rfl,O 21 rfl,O 23 rfl,O 24 rfl,no 1 rfl⟩
 have TM:CM K w mg:=⟨hd,O 26 rfl,no 2 rfl⟩
 have TT:CT K mg:=⟨O 27 rfl,O 28 rfl,O 29 rfl,O 25 rfl,O 30 rfl,O 31 rfl⟩
 have TG:CG K mg:=⟨O 5 rfl,O 24 rfl,O 34 rfl,O 35 rfl,O 36 rfl,no 1 rfl⟩
 have TO:CO K mg:=⟨O 37 rfl,O 38 rfl⟩
 obtain⟨t2,x2,G2⟩:=Ma (l:=dY.map tvs) X G (O 15 rfl) (gg _ (by simp))
 obtain⟨t3,x3,G3⟩:=Ma (l:=vq.map TV.s) X G (O 13 rfl) (gg _ (by simp))
 obtain⟨t4,x4,G4⟩:=Ma (l:=q_.map TV.s) X G (O 14 rfl) (gg _ (by simp))
 have f0:mg "max"=none:=no 0 rfl
 have hex:mg "Exception"=none:=no 6 rfl
 have bx:mg "len"=none:=no 1 rfl
 have hint:mg "int"=none:=no 7 rfl
 have fz:mg "str"=none:=no 2 rfl
 have f4:mg "zip"=none:=no 8 rfl
 have f5:mg "abs"=none:=no 9 rfl
 have fh:mg "range"=none:=no 4 rfl
 have f6:mg "tuple"=none:=no 5 rfl
 obtain⟨oc,od,kV,doc,pm,an,cdv,ct,osl,gp,_,_⟩:=dW.F.ex
 refine⟨fq,fun s us hu=>by rw[gp];exact .of_eq (EY kV doc pm an cdv ct us hu),fun base _ _=>?_⟩
 have Yw:XC P w K mg base "WrongParameterCount" Cw hv hE (-1):=⟨Xw.made,Xw.cls,Xw.m,Xw.b,RL Xw.F FR bR mR eL hex⟩
 have Yl:XC P w K mg base "CodeTooLong" Cl gE hp (-2):=⟨Xl.made,Xl.cls,Xl.m,Xl.b,Oz Xl.F FR bR mR eL hex⟩
 have Yt:XC P w K mg base "TextTooLong" Ct hL gI (-5):=⟨Xt.made,Xt.cls,Xt.m,Xt.b,K5 Xt.F FR bR mR eL hex⟩
 have Ye:XC P w K mg base "NoExpression" Ce ht hj (-6):=⟨Xe.made,Xe.cls,Xe.m,Xe.b,K_ Xe.F FR bR mR eL hex⟩
 have Yh:XC P w K mg base "TextTooHigh" Ch hH gz (-7):=⟨Xh.made,Xh.cls,Xh.m,Xh.b,K6 Xh.F FR bR mR eL hex⟩
 have Yg:XC P w K mg base "WrongName" Cg gL hb (-8):=⟨Xg.made,Xg.cls,Xg.m,Xg.b,K4 Xg.F FR bR mR eL hex⟩
 have fG:aF P w K mg base (aW P w) 1 cE c0 ["name","head","tail","count"] (jO):=Gx z bx hint fz
 have hy:aF P w K mg base (aW P w) 2 cx cb ["name"] (Jh):=RV ax TM z fG
 have gv:aF P w K mg base (aW P w) 4 aC aI ["name","n"] (Ax Cg):=O7 D z fG ax hy Yg fT
 have hI:aF P w K mg base (aW P w) 4 ag ac ["name","count"] (uc Cg):=GQ j z fG Yg fT
 have hf:aF P w K mg base (aW P w) 5 ba bd ["node","n"] (Am C Cg):=OD L TN TY TQ D gv j hI
 have gy:aF P w K mg base (aW P w) 6 bo bg ["node","sizes","n"] (Jg C Cg):=RQ U TN TY TQ L hf
 have gx:aF P w K mg base (aW P w) 39 b4 b3 ["node","n"] (rT C Cg 32):=La ai TN TY f4 U gy 32
 have hM:aF P w K mg base (aW P w) 40 et ez ["node","n"] (wL C Cg):=Lb dt ai gx eM
 have fU:aF P w K mg base (aW P w) 2 dr dn ["self","number"] (wG K ZS):=Om ae.F TS a4 bx J
 have ho:aF P w K mg base (aW P w) 2 c1 cS ["self","sign"] (Aw K ZS):=O6 a0.F TS a4 bx J
 have hn:aF P w K mg base (aW P w) 3 cB cA ["self","whole"] (Ai K ZS):=Oo aS.F TS ae fU fh
 have hN:aF P w K mg base (aW P w) 2 c7 db ["numerator","denominator"] (tZ):=Gz a7 f5 b5
 have g5:aF P w K mg base (aW P w) 4 dk dg ["self"] (wJ K ZS Ce):=K9 (fL:=dU) (dL:=dS) a9.F TS TT Ye a4 bx Z ae fU a0 ho aS hn a7 hN
 have hF:aF P w K mg base (aW P w) 2 dc c9 ["sign"] (wF):=KZ a6 J Z (O 29 rfl)
 have g4:aF P w K mg base (aW P w) 2 cq ca ["sign"] (Dq):=RT al J TT (O 32 rfl) fz
 have g9:aF P w K mg base (aW P w) 3 b2 b1 ["self"] (Jb K ZS):=RM ah.F TS a4 bx a6 hF al g4
 have hJ:aF P w K mg base (aW P w) 4 dV d5 ["self"] (tY K ZS Ce):=Gy b6.F TS TT (O 33 rfl) Ye a4 bx Z ah g9
 have gX:aF P w K mg base (aW P w) 4 ec d7 ["self"] (wI K ZS Ce):=K8 cn.F TS Ye a4 bx f6 gu he G2
 have hA:aF P w K mg base (aW P w) 5 dG dP ["self"] (wH K ZS Ce):=K7 bX.F TS TT a4 bx J Z a9 g5 b6 hJ cn gX
 have hK:aF P w K mg base (aW P w) 6 ed eb ["text"] (Ah K Ce):=Ol cs TS KS.mk_ (Ot KS.F TS) KS.b KS.m bx bX hA
 have hk:aF P w K mg base (aW P w) 2 iF jF ["self","form","detail","parts"] (Aq ZF):=O1 KF.F TF TQ TG a3 c3 ee
 have g7:aF P w K mg base (aW P w) 1 cc b9 ["self"] (Jm C ZF):=R3 aw.F TF TQ TG
 have fK:aF P w K mg base (aW P w) 3 em ej ["self","form","detail","parts"] (t8 C ZF ZP):=O3 ay.F TP TQ KN.mk_ (Ox KN.F TN f0) KN.b KN.m a3
 have fe:aF P w K mg base (aW P w) 4 fu ft ["self","form","detail","parts"] (jc C ZF ZP Ce):=Ov be.F TP TF TG Ye KF.mk_ hk KF.b KF.m
 have fE:aF P w K mg base (aW P w) 4 d1 d4 ["self"] (t_ C ZF ZP):=O5 aa.F TP TF TG ay fK
 have gS:aF P w K mg base (aW P w) 5 d3 ea ["self"] (Av C ZF ZP):=O4 cy.F TP TF aa fE aw g7
 have gs:aF P w K mg base (aW P w) 5 el er ["self","form","detail"] (Ao C ZF ZP Ce):=OJ c2.F TP TF TQ Ye aa fE be fe a3 c3
 have g6:aF P w K mg base (aW P w) 4 dB dE ["self","count"] (Ji C ZF ZP Ce):=RW bE.F TP TF TQ TG Ye cv
 have hs:aF P w K mg base (aW P w) 4 bf bn ["self"] (Ge C ZF ZP Ce (PM.around (Vbdeaa.sg ","))):=RX Y.F TP TF (O 12 rfl) (O 19 rfl) Ye cv
 have gT:aF P w K mg base (aW P w) 5 cw cf ["self"] (Ge C ZF ZP Ce (PM.around (Vbdeaa.sg ")"))):=Oq ar.F TP TF Ye aa fE
 have hG:aF P w K mg base (aW P w) 6 c4 da ["self","token"] (Jl C ZF ZP Ce):=R0 a8.F TP Ye bE g6 Y hs ar gT
 have g0:aF P w K mg base (aW P w) 7 fb e8 ["self","token"] (Rf C ZF ZP Ce):=Ut eo.F TP TQ c2 gs cy gS a8 hG
 have hD:aF P w K mg base (aW P w) 5 ck cm ["self","form","detail"] (Dr C ZF ZP Ce):=R5 av.F TP TO Ye eJ be fe
 have hl:aF P w K mg base (aW P w) 5 dA dD ["self","name"] (Jp C ZF ZP Ce):=R6 bv.F TP TO (O 19 rfl) (O 11 rfl) be fe ay fK
 have hB:aF P w K mg base (aW P w) 6 dC dF ["self","word"] (Jo C ZF ZP Ce):=R4 bP.F TP TF TQ TG (O 12 rfl) ⟨G3,G4⟩ Ye be fe av hD a3
 have gN:aF P w K mg base (aW P w) 7 e9 e5 ["self","token"] (Rg C ZF ZP Ce):=Uu ei.F TP TQ TG TO (O 10 rfl) Ye be fe ay fK bv hl bP hB
 have hr:aF P w K mg base (aW P w) 8 fk fx ["self"] (Jc C ZF ZP Ce):=RN eI.F TP eJ ei gN eo g0
 have hC:aF P w K mg base (aW P w) 9 cC cK ["text"] (Ar K C Ce):=O2 aT TP KP.mk_ (Ow KP.F TP TG) KP.b KP.m bx cs hK eI hr
 have f3:aF P w K mg base (aW P w) 4 bt bq ["n"] (Jf Cw):=RP S Yw TU
 have fW:aF P w K mg base (aW P w) 4 c6 c5 ["numbers"] (Jj K Cl):=RZ a5 Yl TU
 have hh:aF P w K mg base (aW P w) 41 dJ dO ["n","signs"] (Rb K Ct Ce Ch Cg Cl):=Uv bS TN TU (O 22 rfl) Yt Yh aT hC dt hM a5 fW
 exact Ou dW mR S f3 bS hh Xw.cls Xt.cls Xe.cls Xh.cls Xg.cls Xl.cls Xw.ex Xt.ex Xe.ex Xh.ex Xg.ex Xl.ex
end SB
end
section
namespace SB
open PySem PySem.Spec PyProof.Rows L2
open PySem.W (Codec OpenSpec)
variable {P:Program} {w:World} {K:PySem.W.Frag} {mg:Str→Option Value} {base:Heap}
theorem Q0{r:OpenSpec}{k:Nat}{q:Program}{D:List Str}{Z:(Str→Option Value)→Heap→Prop}{L:World→Heap→Prop}{d:DefRec}{K:Params→PySem.W.Frag}{ps:List Str}{sp:PySem.W.Frag→Sp}
  (j:r.wellSaid=true) (J:d.params.defaults=[]) (G:r.args.length=ps.length) (U:bG k callerA) (S:∀(w:World)(h:Heap),L w h→(K w.params).In h)
  (F:∀(w:World)(mg:Str→Option Value)(fa:Addr)(h:Heap),L w h→(K w.params).In h→h.Ns mainGlobals mg→mg d.name=some (.ref fa) →
   ∃fd:FuncData,(∀(s:Shared)(us:List Value),us.length=ps.length→BindsTo s fd ⟨us,[]⟩ (ps.zip us))∧∀base:Heap,(K w.params).In base→base.Ns mainGlobals mg→aF r.prog w (K w.params) mg base (XL.aW r.prog w) k fa fd ps (sp (K w.params)))
  (O:∀(K:PySem.W.Frag)(H:Hp)(xs:List V)(a:Codec.denoteAll r.args),jD K H xs (Codec.encAll r.args a)→sp K xs H (fun v H'=>Dw K H' v (r.ret.enc (Codec.app r.args r.f a))) fun _ _ _=>False) :
  PySem.W.WalkOS q D Z L r d [] (fun f vs=>PySem.call f vs) :=
 Fq (K:=K) (CX:=fun w=>XL.aW r.prog w) (sp:=fun w=>sp (K w.params)) j J G U S F (fun w H xs a _ _ _ Y=>O (K w.params) H xs a Y) fun w H s e s' z=>by
  obtain⟨_,_,_,_,_,_,_,_,_,_,q⟩:=z
  exact q
end SB
open PySem PySem.W PyProof.Rows
set_option maxRecDepth 100000 in
set_option maxHeartbeats 0 in
theorem PySem.Challenge.cw_stackback_s06_same_holds : PySem.Challenge.rw_stackback_s06_same.Holds := by
 w_on;k_headS;(case hw=>exact⟨[.int 0,.list [],.list []],by decide +kernel,by decide +kernel⟩)
 k_fillS
 refine SB.Q0 (r:=PySem.Challenge.rw_stackback_s06_same) (k:=67) (ps:=["n","text","other"]) (sp:=SB.Ak) (by decide +kernel) rfl rfl ⟨rfl,by decide,by decide⟩ (fun w h Y=>PySem.W.kIn_of Y) ?jF ?jS
 case jF =>
  intro w mg fa h Y KX G hmg
  refine' SB.SQ KX G hmg ?jcs ?jab ?jgt ?jkd ?jkm ?jh0 ?jh1 ?jh2 ?jh3 ?jh4 ?jh5 ?jh6 ?jh7 ?jh8 ?jh9 ?jh10 ?jh11 ?jh12 ?jh13 ?jh14 ?jh15 ?jh16 ?jh17 ?jh18 ?jh19 ?jh20 ?jh21 ?jh22 ?jh23 ?jhN ?jhS ?jhF ?jhP ?jhX
  (case jcs=>kernel_rfl)
  (case jab=>kernel_rfl)
  (case jgt=>kernel_rfl)
  (case jkd =>
   refine' SB.kdx KX G ?jd_a ?jd_l ?jd_s ?jd_e
   (case jd_a=>k_is);(case jd_l=>k_is);(case jd_s=>rfl)
   exact⟨⟨_,_,rfl,rfl⟩,rfl,⟨_,_,rfl,rfl⟩,rfl,⟨_,_,rfl,rfl⟩,rfl,⟨_,_,rfl,rfl⟩,rfl,⟨_,_,rfl,rfl⟩,rfl,⟨_,_,rfl,rfl⟩,rfl,⟨_,_,rfl,rfl⟩,rfl,trivial⟩)
  (case jkm =>
   refine' SB.WN KX G ?jm_a ?jm_l ?jm_s ?jm_e
   (case jm_a=>k_is);(case jm_l=>k_is);(case jm_s=>rfl)
   exact⟨⟨_,_,rfl,rfl⟩,rfl,⟨_,_,rfl,rfl⟩,rfl,⟨_,_,rfl,rfl⟩,rfl,trivial⟩)
  (case jh0 =>
   refine' SB.tu SB.Ck KX G ?jh0_a ?jh0_l ?jh0_c ?jh0_k
   (case jh0_a=>k_is);(case jh0_l=>k_is);(case jh0_c=>k_is);(case jh0_k=>k_is))
  (case jh1 =>
   refine' SB.tu SB.zO KX G ?jh1_a ?jh1_l ?jh1_c ?jh1_k
   (case jh1_a=>k_is);(case jh1_l=>k_is);(case jh1_c=>k_is);(case jh1_k=>k_is))
  (case jh2 =>
   refine' SB.tu SB.ye KX G ?jh2_a ?jh2_l ?jh2_c ?jh2_k
   (case jh2_a=>k_is);(case jh2_l=>k_is);(case jh2_c=>k_is);(case jh2_k=>k_is))
  (case jh3 =>
   refine' SB.tu SB.qt KX G ?jh3_a ?jh3_l ?jh3_c ?jh3_k
   (case jh3_a=>k_is);(case jh3_l=>k_is);(case jh3_c=>k_is);(case jh3_k=>k_is))
  (case jh4 =>
   refine' SB.tu SB.pC KX G ?jh4_a ?jh4_l ?jh4_c ?jh4_k
   (case jh4_a=>k_is);(case jh4_l=>k_is);(case jh4_c=>k_is);(case jh4_k=>k_is))
  (case jh5 =>
   refine' SB.tu SB.ir KX G ?jh5_a ?jh5_l ?jh5_c ?jh5_k
   (case jh5_a=>k_is);(case jh5_l=>k_is);(case jh5_c=>k_is);(case jh5_k=>k_is))
  (case jh6 =>
   refine' SB.tu SB.gF KX G ?jh6_a ?jh6_l ?jh6_c ?jh6_k
   (case jh6_a=>k_is);(case jh6_l=>k_is);(case jh6_c=>k_is);(case jh6_k=>k_is))
  (case jh7 =>
   refine' SB.tu SB.nY KX G ?jh7_a ?jh7_l ?jh7_c ?jh7_k
   (case jh7_a=>k_is);(case jh7_l=>k_is);(case jh7_c=>k_is);(case jh7_k=>k_is))
  (case jh8 =>
   refine' SB.tu SB.mO KX G ?jh8_a ?jh8_l ?jh8_c ?jh8_k
   (case jh8_a=>k_is);(case jh8_l=>k_is);(case jh8_c=>k_is);(case jh8_k=>k_is))
  (case jh9 =>
   refine' SB.tu SB.lg KX G ?jh9_a ?jh9_l ?jh9_c ?jh9_k
   (case jh9_a=>k_is);(case jh9_l=>k_is);(case jh9_c=>k_is);(case jh9_k=>k_is))
  (case jh10 =>
   refine' SB.tu SB.Hn KX G ?jh10_a ?jh10_l ?jh10_c ?jh10_k
   (case jh10_a=>k_is);(case jh10_l=>k_is);(case jh10_c=>k_is);(case jh10_k=>k_is))
  (case jh11 =>
   refine' SB.tu SB.Cm KX G ?jh11_a ?jh11_l ?jh11_c ?jh11_k
   (case jh11_a=>k_is);(case jh11_l=>k_is);(case jh11_c=>k_is);(case jh11_k=>k_is))
  (case jh12 =>
   refine' SB.tu SB.pF KX G ?jh12_a ?jh12_l ?jh12_c ?jh12_k
   (case jh12_a=>k_is);(case jh12_l=>k_is);(case jh12_c=>k_is);(case jh12_k=>k_is))
  (case jh13 =>
   refine' SB.tu SB.rF KX G ?jh13_a ?jh13_l ?jh13_c ?jh13_k
   (case jh13_a=>k_is);(case jh13_l=>k_is);(case jh13_c=>k_is);(case jh13_k=>k_is))
  (case jh14 =>
   refine' SB.tu SB.zP KX G ?jh14_a ?jh14_l ?jh14_c ?jh14_k
   (case jh14_a=>k_is);(case jh14_l=>k_is);(case jh14_c=>k_is);(case jh14_k=>k_is))
  (case jh15 =>
   refine' SB.tu SB.yd KX G ?jh15_a ?jh15_l ?jh15_c ?jh15_k
   (case jh15_a=>k_is);(case jh15_l=>k_is);(case jh15_c=>k_is);(case jh15_k=>k_is))
  (case jh16 =>
   refine' SB.tu SB.rG KX G ?jh16_a ?jh16_l ?jh16_c ?jh16_k
   (case jh16_a=>k_is);(case jh16_l=>k_is);(case jh16_c=>k_is);(case jh16_k=>k_is))
  (case jh17 =>
   refine' SB.tu SB.pD KX G ?jh17_a ?jh17_l ?jh17_c ?jh17_k
   (case jh17_a=>k_is);(case jh17_l=>k_is);(case jh17_c=>k_is);(case jh17_k=>k_is))
  (case jh18 =>
   refine' SB.tu SB.yc KX G ?jh18_a ?jh18_l ?jh18_c ?jh18_k
   (case jh18_a=>k_is);(case jh18_l=>k_is);(case jh18_c=>k_is);(case jh18_k=>k_is))
  (case jh19 =>
   refine' SB.tu SB.qu KX G ?jh19_a ?jh19_l ?jh19_c ?jh19_k
   (case jh19_a=>k_is);(case jh19_l=>k_is);(case jh19_c=>k_is);(case jh19_k=>k_is))
  (case jh20 =>
   refine' SB.tu SB.mQ KX G ?jh20_a ?jh20_l ?jh20_c ?jh20_k
   (case jh20_a=>k_is);(case jh20_l=>k_is);(case jh20_c=>k_is);(case jh20_k=>k_is))
  (case jh21 =>
   refine' SB.tu SB.rH KX G ?jh21_a ?jh21_l ?jh21_c ?jh21_k
   (case jh21_a=>k_is);(case jh21_l=>k_is);(case jh21_c=>k_is);(case jh21_k=>k_is))
  (case jh22 =>
   refine' SB.tu SB.vp KX G ?jh22_a ?jh22_l ?jh22_c ?jh22_k
   (case jh22_a=>k_is);(case jh22_l=>k_is);(case jh22_c=>k_is);(case jh22_k=>k_is))
  (case jh23 =>
   refine' SB.tu SB.EY KX G ?jh23_a ?jh23_l ?jh23_c ?jh23_k
   (case jh23_a=>k_is);(case jh23_l=>k_is);(case jh23_c=>k_is);(case jh23_k=>k_is))
  (case jhN =>
   refine'⟨_,SB.Vr SB.Qp KX G ?jhN_aC ?jhN_pg ?jhN_hd ?jhN_po ?jhN_sa ?jhN_mk ?jhN_kc ?jhN_a ?jhN_i ?jhN_l ?jhN_c ?jhN_k,?jhN_n0,?jhN_n1,?jhN_n2,?jhN_n3⟩
   (case jhN_aC=>k_is);(case jhN_pg=>k_is);(case jhN_hd=>k_is);(case jhN_po=>k_is);(case jhN_sa=>k_is);(case jhN_mk=>k_is);(case jhN_kc=>k_is);(case jhN_a=>k_is);(case jhN_i=>k_is);(case jhN_l=>k_is);(case jhN_c=>k_is);(case jhN_k=>k_is)
   (case jhN_n0=>unfold L2.aO;k_is);(case jhN_n1=>unfold L2.aO;k_is);(case jhN_n2=>unfold L2.aO;k_is);(case jhN_n3=>unfold L2.aO;k_is))
  (case jhS =>
   refine'⟨_,SB.Vr SB.Cr KX G ?jhS_aC ?jhS_pg ?jhS_hd ?jhS_po ?jhS_sa ?jhS_mk ?jhS_kc ?jhS_a ?jhS_i ?jhS_l ?jhS_c ?jhS_k,?jhS_n0,?jhS_n1,?jhS_n2,(SB.qj SB.rJ ?ja_peek ?ji_peek ?jl_peek ?jc_peek ?jk_peek),(SB.qj SB.jH ?ja_scan_token ?ji_scan_token ?jl_scan_token ?jc_scan_token ?jk_scan_token),(SB.qj SB.iw ?ja_digits_behind ?ji_digits_behind ?jl_digits_behind ?jc_digits_behind ?jk_digits_behind),(SB.qj SB.jq ?ja_take_digits ?ji_take_digits ?jl_take_digits ?jc_take_digits ?jk_take_digits),(SB.qj SB.iu ?ja_take_decimals ?ji_take_decimals ?jl_take_decimals ?jc_take_decimals ?jk_take_decimals),(SB.qj SB.jr ?ja_scan_number ?ji_scan_number ?jl_scan_number ?jc_scan_number ?jk_scan_number),(SB.qj SB.gG ?ja_take_name_signs ?ji_take_name_signs ?jl_take_name_signs ?jc_take_name_signs ?jk_take_name_signs),(SB.qj SB.lu ?ja_scan_name ?ji_scan_name ?jl_scan_name ?jc_scan_name ?jk_scan_name),(SB.qj SB.lq ?ja_scan_sign ?ji_scan_sign ?jl_scan_sign ?jc_scan_sign ?jk_scan_sign)⟩
   (case jhS_aC=>k_is);(case jhS_pg=>k_is);(case jhS_hd=>k_is);(case jhS_po=>k_is);(case jhS_sa=>k_is);(case jhS_mk=>k_is);(case jhS_kc=>k_is);(case jhS_a=>k_is);(case jhS_i=>k_is);(case jhS_l=>k_is);(case jhS_c=>k_is);(case jhS_k=>k_is)
   (case jhS_n0=>unfold L2.aO;k_is);(case jhS_n1=>unfold L2.aO;k_is);(case jhS_n2=>unfold L2.aO;k_is)
   (case ja_peek=>k_is);(case ji_peek=>k_is);(case jl_peek=>k_is);(case jc_peek=>k_is);(case jk_peek=>k_is)
   (case ja_scan_token=>k_is);(case ji_scan_token=>k_is);(case jl_scan_token=>k_is);(case jc_scan_token=>k_is);(case jk_scan_token=>k_is)
   (case ja_digits_behind=>k_is);(case ji_digits_behind=>k_is);(case jl_digits_behind=>k_is);(case jc_digits_behind=>k_is);(case jk_digits_behind=>k_is)
   (case ja_take_digits=>k_is);(case ji_take_digits=>k_is);(case jl_take_digits=>k_is);(case jc_take_digits=>k_is);(case jk_take_digits=>k_is)
   (case ja_take_decimals=>k_is);(case ji_take_decimals=>k_is);(case jl_take_decimals=>k_is);(case jc_take_decimals=>k_is);(case jk_take_decimals=>k_is)
   (case ja_scan_number=>k_is);(case ji_scan_number=>k_is);(case jl_scan_number=>k_is);(case jc_scan_number=>k_is);(case jk_scan_number=>k_is)
   (case ja_take_name_signs=>k_is);(case ji_take_name_signs=>k_is);(case jl_take_name_signs=>k_is);(case jc_take_name_signs=>k_is);(case jk_take_name_signs=>k_is)
   (case ja_scan_name=>k_is);(case ji_scan_name=>k_is);(case jl_scan_name=>k_is);(case jc_scan_name=>k_is);(case jk_scan_name=>k_is)
   (case ja_scan_sign=>k_is);(case ji_scan_sign=>k_is);(case jl_scan_sign=>k_is);(case jc_scan_sign=>k_is);(case jk_scan_sign=>k_is))
  (case jhF =>
   refine'⟨_,SB.Vr SB.Mv KX G ?jhF_aC ?jhF_pg ?jhF_hd ?jhF_po ?jhF_sa ?jhF_mk ?jhF_kc ?jhF_a ?jhF_i ?jhF_l ?jhF_c ?jhF_k,?jhF_n0,?jhF_n1,?jhF_n2,?jhF_n3,?jhF_n4,?jhF_n5,(SB.qj SB.iV ?ja_ends_with_part ?ji_ends_with_part ?jl_ends_with_part ?jc_ends_with_part ?jk_ends_with_part)⟩
   (case jhF_aC=>k_is);(case jhF_pg=>k_is);(case jhF_hd=>k_is);(case jhF_po=>k_is);(case jhF_sa=>k_is);(case jhF_mk=>k_is);(case jhF_kc=>k_is);(case jhF_a=>k_is);(case jhF_i=>k_is);(case jhF_l=>k_is);(case jhF_c=>k_is);(case jhF_k=>k_is)
   (case jhF_n0=>unfold L2.aO;k_is);(case jhF_n1=>unfold L2.aO;k_is);(case jhF_n2=>unfold L2.aO;k_is);(case jhF_n3=>unfold L2.aO;k_is);(case jhF_n4=>unfold L2.aO;k_is);(case jhF_n5=>unfold L2.aO;k_is)
   (case ja_ends_with_part=>k_is);(case ji_ends_with_part=>k_is);(case jl_ends_with_part=>k_is);(case jc_ends_with_part=>k_is);(case jk_ends_with_part=>k_is))
  (case jhP =>
   refine'⟨_,SB.Vr SB.Hq KX G ?jhP_aC ?jhP_pg ?jhP_hd ?jhP_po ?jhP_sa ?jhP_mk ?jhP_kc ?jhP_a ?jhP_i ?jhP_l ?jhP_c ?jhP_k,?jhP_n0,?jhP_n1,?jhP_n2,?jhP_n3,?jhP_n4,?jhP_n5,(SB.qj SB.uU ?ja_take ?ji_take ?jl_take ?jc_take ?jk_take),(SB.qj SB.uV ?ja_step ?ji_step ?jl_step ?jc_step ?jk_step),(SB.qj SB.uW ?ja_push ?ji_push ?jl_push ?jc_push ?jk_push),(SB.qj SB.rM ?ja_begin ?ji_begin ?jl_begin ?jc_begin ?jk_begin),(SB.qj SB.lB ?ja_begin_name ?ji_begin_name ?jl_begin_name ?jc_begin_name ?jk_begin_name),(SB.qj SB.lA ?ja_begin_word ?ji_begin_word ?jl_begin_word ?jc_begin_word ?jk_begin_word),(SB.qj SB.iz ?ja_begin_brackets ?ji_begin_brackets ?jl_begin_brackets ?jc_begin_brackets ?jk_begin_brackets),(SB.qj SB.rK ?ja_go_on ?ji_go_on ?jl_go_on ?jc_go_on ?jk_go_on),(SB.qj SB.jt ?ja_go_on_around ?ji_go_on_around ?jl_go_on_around ?jc_go_on_around ?jk_go_on_around),(SB.qj SB.nZ ?ja_join_two ?ji_join_two ?jl_join_two ?jc_join_two ?jk_join_two),(SB.qj SB.mV ?ja_end_parts ?ji_end_parts ?jl_end_parts ?jc_end_parts ?jk_end_parts),(SB.qj SB.mW ?ja_end_frame ?ji_end_frame ?jl_end_frame ?jc_end_frame ?jk_end_frame),(SB.qj SB.n6 ?ja_end_with ?ji_end_with ?jl_end_with ?jc_end_with ?jk_end_with),(SB.qj SB.lz ?ja_next_of_if ?ji_next_of_if ?jl_next_of_if ?jc_next_of_if ?jk_next_of_if),(SB.qj SB.gH ?ja_next_in_brackets ?ji_next_in_brackets ?jl_next_in_brackets ?jc_next_in_brackets ?jk_next_in_brackets),(SB.qj SB.mU ?ja_keep_part ?ji_keep_part ?jl_keep_part ?jc_keep_part ?jk_keep_part),(SB.qj SB.iy ?ja_close_brackets ?ji_close_brackets ?jl_close_brackets ?jc_close_brackets ?jk_close_brackets)⟩
   (case jhP_aC=>k_is);(case jhP_pg=>k_is);(case jhP_hd=>k_is);(case jhP_po=>k_is);(case jhP_sa=>k_is);(case jhP_mk=>k_is);(case jhP_kc=>k_is);(case jhP_a=>k_is);(case jhP_i=>k_is);(case jhP_l=>k_is);(case jhP_c=>k_is);(case jhP_k=>k_is)
   (case jhP_n0=>unfold L2.aO;k_is);(case jhP_n1=>unfold L2.aO;k_is);(case jhP_n2=>unfold L2.aO;k_is);(case jhP_n3=>unfold L2.aO;k_is);(case jhP_n4=>unfold L2.aO;k_is);(case jhP_n5=>unfold L2.aO;k_is)
   (case ja_take=>k_is);(case ji_take=>k_is);(case jl_take=>k_is);(case jc_take=>k_is);(case jk_take=>k_is)
   (case ja_step=>k_is);(case ji_step=>k_is);(case jl_step=>k_is);(case jc_step=>k_is);(case jk_step=>k_is)
   (case ja_push=>k_is);(case ji_push=>k_is);(case jl_push=>k_is);(case jc_push=>k_is);(case jk_push=>k_is)
   (case ja_begin=>k_is);(case ji_begin=>k_is);(case jl_begin=>k_is);(case jc_begin=>k_is);(case jk_begin=>k_is)
   (case ja_begin_name=>k_is);(case ji_begin_name=>k_is);(case jl_begin_name=>k_is);(case jc_begin_name=>k_is);(case jk_begin_name=>k_is)
   (case ja_begin_word=>k_is);(case ji_begin_word=>k_is);(case jl_begin_word=>k_is);(case jc_begin_word=>k_is);(case jk_begin_word=>k_is)
   (case ja_begin_brackets=>k_is);(case ji_begin_brackets=>k_is);(case jl_begin_brackets=>k_is);(case jc_begin_brackets=>k_is);(case jk_begin_brackets=>k_is)
   (case ja_go_on=>k_is);(case ji_go_on=>k_is);(case jl_go_on=>k_is);(case jc_go_on=>k_is);(case jk_go_on=>k_is)
   (case ja_go_on_around=>k_is);(case ji_go_on_around=>k_is);(case jl_go_on_around=>k_is);(case jc_go_on_around=>k_is);(case jk_go_on_around=>k_is)
   (case ja_join_two=>k_is);(case ji_join_two=>k_is);(case jl_join_two=>k_is);(case jc_join_two=>k_is);(case jk_join_two=>k_is)
   (case ja_end_parts=>k_is);(case ji_end_parts=>k_is);(case jl_end_parts=>k_is);(case jc_end_parts=>k_is);(case jk_end_parts=>k_is)
   (case ja_end_frame=>k_is);(case ji_end_frame=>k_is);(case jl_end_frame=>k_is);(case jc_end_frame=>k_is);(case jk_end_frame=>k_is)
   (case ja_end_with=>k_is);(case ji_end_with=>k_is);(case jl_end_with=>k_is);(case jc_end_with=>k_is);(case jk_end_with=>k_is)
   (case ja_next_of_if=>k_is);(case ji_next_of_if=>k_is);(case jl_next_of_if=>k_is);(case jc_next_of_if=>k_is);(case jk_next_of_if=>k_is)
   (case ja_next_in_brackets=>k_is);(case ji_next_in_brackets=>k_is);(case jl_next_in_brackets=>k_is);(case jc_next_in_brackets=>k_is);(case jk_next_in_brackets=>k_is)
   (case ja_keep_part=>k_is);(case ji_keep_part=>k_is);(case jl_keep_part=>k_is);(case jc_keep_part=>k_is);(case jk_keep_part=>k_is)
   (case ja_close_brackets=>k_is);(case ji_close_brackets=>k_is);(case jl_close_brackets=>k_is);(case jc_close_brackets=>k_is);(case jk_close_brackets=>k_is))
  (case jhX =>
   refine'⟨_,⟨PySem.W.mg_of KX G ?jX_aR,_,_,⟨?jX_ga,?jX_rd,?jX_at,?jX_kp⟩,L2.qi ?jX_l ?jX_c ?jX_k,L2.fc.binds (L2.qi ?jX_l ?jX_c ?jX_k) SB.Cu⟩,(SB.Ti SB.ju KX G ?jaC_r0 ?jcls_r0 ?jkc_r0 ?ja_r0 ?ji_r0 ?jl_r0 ?jc_r0 ?jk_r0 ?jov_r0 ?jsa_r0 ?jtk_r0 ?jhd_r0 ?jga_r0 ?jgh_r0 ?jnn_r0 ?jex_r0),(SB.Ti SB.uZ KX G ?jaC_r1 ?jcls_r1 ?jkc_r1 ?ja_r1 ?ji_r1 ?jl_r1 ?jc_r1 ?jk_r1 ?jov_r1 ?jsa_r1 ?jtk_r1 ?jhd_r1 ?jga_r1 ?jgh_r1 ?jnn_r1 ?jex_r1),(SB.Ti SB.uX KX G ?jaC_r2 ?jcls_r2 ?jkc_r2 ?ja_r2 ?ji_r2 ?jl_r2 ?jc_r2 ?jk_r2 ?jov_r2 ?jsa_r2 ?jtk_r2 ?jhd_r2 ?jga_r2 ?jgh_r2 ?jnn_r2 ?jex_r2),(SB.Ti SB.rN KX G ?jaC_r3 ?jcls_r3 ?jkc_r3 ?ja_r3 ?ji_r3 ?jl_r3 ?jc_r3 ?jk_r3 ?jov_r3 ?jsa_r3 ?jtk_r3 ?jhd_r3 ?jga_r3 ?jgh_r3 ?jnn_r3 ?jex_r3),(SB.Ti SB.uY KX G ?jaC_r4 ?jcls_r4 ?jkc_r4 ?ja_r4 ?ji_r4 ?jl_r4 ?jc_r4 ?jk_r4 ?jov_r4 ?jsa_r4 ?jtk_r4 ?jhd_r4 ?jga_r4 ?jgh_r4 ?jnn_r4 ?jex_r4),(SB.Ti SB.yf KX G ?jaC_r5 ?jcls_r5 ?jkc_r5 ?ja_r5 ?ji_r5 ?jl_r5 ?jc_r5 ?jk_r5 ?jov_r5 ?jsa_r5 ?jtk_r5 ?jhd_r5 ?jga_r5 ?jgh_r5 ?jnn_r5 ?jex_r5)⟩
   (case jX_aR=>k_is);(case jX_ga=>k_is);(case jX_rd=>k_is);(case jX_at=>k_is);(case jX_kp=>k_is);(case jX_l=>k_is);(case jX_c=>k_is);(case jX_k=>k_is)
   (case jaC_r0=>k_is)
   (case jcls_r0 =>
    refine' SB.Tf ?jlk_r0 ?je1_r0 ?je2_r0 ?je3_r0 ?je4_r0
    (case jlk_r0=>k_is)
    all_goals kernel_rfl)
   (case jkc_r0=>k_is);(case ja_r0=>k_is);(case ji_r0=>k_is);(case jl_r0=>k_is);(case jc_r0=>k_is);(case jk_r0=>k_is)
   (case jov_r0=>kernel_rfl);(case jsa_r0=>k_is);(case jtk_r0=>k_is);(case jhd_r0=>k_is);(case jga_r0=>k_is);(case jgh_r0=>k_is);(case jnn_r0=>k_is);(case jex_r0=>kernel_rfl)
   (case jaC_r1=>k_is)
   (case jcls_r1 =>
    refine' SB.Tf ?jlk_r1 ?je1_r1 ?je2_r1 ?je3_r1 ?je4_r1
    (case jlk_r1=>k_is)
    all_goals kernel_rfl)
   (case jkc_r1=>k_is);(case ja_r1=>k_is);(case ji_r1=>k_is);(case jl_r1=>k_is);(case jc_r1=>k_is);(case jk_r1=>k_is)
   (case jov_r1=>kernel_rfl);(case jsa_r1=>k_is);(case jtk_r1=>k_is);(case jhd_r1=>k_is);(case jga_r1=>k_is);(case jgh_r1=>k_is);(case jnn_r1=>k_is);(case jex_r1=>kernel_rfl)
   (case jaC_r2=>k_is)
   (case jcls_r2 =>
    refine' SB.Tf ?jlk_r2 ?je1_r2 ?je2_r2 ?je3_r2 ?je4_r2
    (case jlk_r2=>k_is)
    all_goals kernel_rfl)
   (case jkc_r2=>k_is);(case ja_r2=>k_is);(case ji_r2=>k_is);(case jl_r2=>k_is);(case jc_r2=>k_is);(case jk_r2=>k_is)
   (case jov_r2=>kernel_rfl);(case jsa_r2=>k_is);(case jtk_r2=>k_is);(case jhd_r2=>k_is);(case jga_r2=>k_is);(case jgh_r2=>k_is);(case jnn_r2=>k_is);(case jex_r2=>kernel_rfl)
   (case jaC_r3=>k_is)
   (case jcls_r3 =>
    refine' SB.Tf ?jlk_r3 ?je1_r3 ?je2_r3 ?je3_r3 ?je4_r3
    (case jlk_r3=>k_is)
    all_goals kernel_rfl)
   (case jkc_r3=>k_is);(case ja_r3=>k_is);(case ji_r3=>k_is);(case jl_r3=>k_is);(case jc_r3=>k_is);(case jk_r3=>k_is)
   (case jov_r3=>kernel_rfl);(case jsa_r3=>k_is);(case jtk_r3=>k_is);(case jhd_r3=>k_is);(case jga_r3=>k_is);(case jgh_r3=>k_is);(case jnn_r3=>k_is);(case jex_r3=>kernel_rfl)
   (case jaC_r4=>k_is)
   (case jcls_r4 =>
    refine' SB.Tf ?jlk_r4 ?je1_r4 ?je2_r4 ?je3_r4 ?je4_r4
    (case jlk_r4=>k_is)
    all_goals kernel_rfl)
   (case jkc_r4=>k_is);(case ja_r4=>k_is);(case ji_r4=>k_is);(case jl_r4=>k_is);(case jc_r4=>k_is);(case jk_r4=>k_is)
   (case jov_r4=>kernel_rfl);(case jsa_r4=>k_is);(case jtk_r4=>k_is);(case jhd_r4=>k_is);(case jga_r4=>k_is);(case jgh_r4=>k_is);(case jnn_r4=>k_is);(case jex_r4=>kernel_rfl)
   (case jaC_r5=>k_is)
   (case jcls_r5 =>
    refine' SB.Tf ?jlk_r5 ?je1_r5 ?je2_r5 ?je3_r5 ?je4_r5
    (case jlk_r5=>k_is)
    all_goals kernel_rfl)
   (case jkc_r5=>k_is);(case ja_r5=>k_is);(case ji_r5=>k_is);(case jl_r5=>k_is);(case jc_r5=>k_is);(case jk_r5=>k_is)
   (case jov_r5=>kernel_rfl);(case jsa_r5=>k_is);(case jtk_r5=>k_is);(case jhd_r5=>k_is);(case jga_r5=>k_is);(case jgh_r5=>k_is);(case jnn_r5=>k_is);(case jex_r5=>kernel_rfl))
 case jS =>
  intro K H xs a hx
  cases hx with
  | cons h1 h2 =>
   cases h2 with
   | cons h2 h3 =>
    cases h3 with
    | cons h3 h4 =>
     cases h4
     cases h1
     cases h2 with
     | lst hs ha =>
      cases h3 with
      | lst hs2 ha2 =>
       have e:=L2.xK a.2.1 _ ha
       subst e
       have e2:=L2.xK a.2.2.1 _ ha2
       subst e2
       exact⟨_,_,_,a.2.1,a.2.2.1,rfl,hs,hs2,fun l H' _ _ hl=>.lst (L2.bV.of hl) (L2.Ep _)⟩
end
