import PyProof.Rows.All
import Wide.All
import OpenK.AllK
import Wide.FinOn
import PyProof.EqAt
import PyProof.EqKinds
import PyProof.TupleCall
import KE.BitLaws
import Open.SpecLaws
import KE.OsHead
import KE.OsGo
import PyProof.ExcInit
import PyProof.ExcClass3
import PyProof.ExcBaseAll.Exception
import PyProof.InstStoreFacts
import PyProof.ExcArgs
import KE.KTryMore
import VbdeamSpec
import VbdeaaSpec
import PySem.Challenge.RW_stackback_s03_fold
import PyVbdeam
set_option linter.all false
set_option bootstrap.genMatcherCode false
set_option maxRecDepth 100000
set_option Elab.async false
set_option maxHeartbeats 4000000
noncomputable def am:=@List.mem_cons_of_mem
noncomputable def ap:=@List.length_map
noncomputable def ci:=@List.mem_cons_self
noncomputable def cr:=@Option.map_eq_some_iff
noncomputable def io:=@List.length_cons
noncomputable def i':=@Nat.le_refl
noncomputable def jp:=@List.length_append
noncomputable def j':=@List.mem_cons
noncomputable def lf:=@List.getElem?_eq_some_iff
noncomputable def lj:=@Bool.and_eq_true
noncomputable def ll:=@List.size_toArray
noncomputable def lm:=@Nat.lt_of_lt_of_le
noncomputable def ln:=@List.getElem?_eq_getElem
noncomputable def lp:=@List.length_take
noncomputable def lv:=@List.append_assoc
noncomputable def lI:=@Option.bind_eq_some_iff
noncomputable def lP:=@Bool.false_ne_true
noncomputable def lS:=@Nat.le_trans
noncomputable def lT:=@List.length_nil
noncomputable def l0:=@List.getElem?_map
noncomputable def l4:=@Int.natAbs_natCast
noncomputable def l5:=@List.not_mem_nil
noncomputable def l6:=@Nat.lt_of_le_of_lt
noncomputable def l7:=@Int.toNat_of_nonneg
noncomputable def l9:=@Bool.eq_iff_iff
noncomputable def ma:=@List.cons_append
noncomputable def md:=@Nat.ne_of_lt
noncomputable def mf:=@List.map_cons
noncomputable def mh:=@List.append_nil
noncomputable def mi:=@decide_eq_true
noncomputable def ml:=@if_neg
noncomputable def mn:=@of_decide_eq_true
noncomputable def mo:=@decide_eq_true_eq
noncomputable def mr:=@if_pos
noncomputable def mu:=@decide_eq_false
noncomputable def mv:=@List.all_eq_true
noncomputable def mw:=@List.mem_of_getElem?
noncomputable def mx:=@List.mem_range
noncomputable def mB:=@List.map_append
noncomputable def mE:=@List.getElem?_cons_succ
noncomputable def mI:=@List.getElem?_cons_zero
noncomputable def mM:=@List.length_drop
structure PySem.W.Fast:Prop where(tw12333844491149123875 tw15696779946091772820 tw12195678113552987583 tw11542179421077340803 tw11903469213855179078 tw17203354338799528123 tw7729061994349116166 tw10170699097451414183 tw12196403500536652178 tw1115767235911309946 tw13975020844186335783 tw1745597189766034686 tw1871026182572323660 tw12371918273221669339 tw287738546494547559 tw10296974342777620349 tw17040554922731865331 tw11932095733457126438 tw2060447816176126307 tw17612932052887694876 tw8894333132796108568 tw3152890109540875454 tw3888664542439942535 tw10522046311655153625 tw10644104236254278819 tw6399955427875272516 tw7035494172568471082 tw2820487842606328524 tw6121923426100684482 tw12221125550053499747 tw94417989968222240 tw191763054357740499 tw1666782992848981771 tw11663468045097895581 tw15836797803879185958 tw8974168184702486565 tw7001944729091668115 tw336324247649029807 tw303051406035924737 tw10055323698602834587 tw15082196388961988504 tw16969815611745258316 tw3530241918567683015 tw10274706438264478917 tw11397025869025767446 tw4125706869051746003 tw500869071317233464 tw17642433424552244030 tw5691185509678450191 tw2712491135336512761 tw3636915886535545627 tw13048845861530654866 tw5535541805252446035 tw15406830820238964684 tw1628503960238132145 tw15419212472141872448 tw7003449536045984786 tw11588339137618563577 tw7199131432516664890 tw13596504312695219731 tw15954569538544450917 tw10252325954490889356 tw13945811876933368706 tw1057762885913795701 tw9396889250496002246 tw15199683753831552050 tw7910760357138941050 tw4252549084977347675 tw6651727738468741255 tw9188977849349133907 tw6290150665542079302 tw1740525224525056728 tw7808445957591674945 tw3703773052866086331 tw13681409496339107704 tw10507490269408837236 tw4263185918423563287 tw17298302264966532063 tw4730767405949144641 tw11483842082930200217 tw1053736311393044775 tw10536839970373503576 tw7238294380489941186 tw16030352444848000205 tw638909856368240615 tw8148333540802490732 tw13684027500895038434 tw3789007229588559024 tw1092449406458842950 tw4472756264506584283 tw6218240405479735231 tw14939712236722673863 tw16481654614231899176 tw5154511775657446741 tw10703933746225826535 tw8465319394969293595 tw10096268550950202637 tw11553628140298348275 tw3636371955082778605 tw13749180464871013215 tw18288878915784796190 tw12420970052197371248 tw6753182283171457378 tw9927618145385328698 tw7179990319209724613 tw15482282157769726246 tw10910975365015830224 tw17998419513743616935 tw6855189633851189167 tw8754994288554428416 tw8438120698859555844 tw7085367910610860556 tw1740152018002108417 tw14473721468774089169 tw6689307267360752372 tw14082708583314998282 tw8831221799276421851 tw3250151200965398861 tw8496831754211274773 tw5580793642833149103 tw6513834876886869703 tw6390309597176605440 tw17468173603178127731 tw11387641269706300652 tw1657868014761075965 tw16525136224133627561 tw2006361728598982929 tw5540999716240828091 tw3078586634969384221 tw15924867176479981811 tw5912399098681243199 tw17503575961120368635 tw14327645923471868770 tw469182388641507795 tw14748247108816832696 tw9481032798523877935 tw7129344106437676334 tw17392236679930604801 tw12351573167164153405 tw10589204320931040806 tw12151983802467173942 tw8124392741045575038 tw4630884085249682660 tw12817947947988500139 tw9841422676914709296 tw7747101934461063601 tw11763461050946663128 tw6028377917135022890 tw4084432775528915158 tw13030932020589760927 tw10201409518133672824 tw5130965943803111945 tw6879050549279626256 tw2745960457844526944 tw24555401553615673 tw13558254595454848516 tw7344486694983496001 tw17126381104982030243 tw573534094177690690 tw629537451569509575 tw14709883405373514805 tw10070117575284747740 tw7835314810345500401 tw16338962162158810653 tw1910072690073663056 tw17424399693427777940 tw16401967017262331992 tw7870922046276432282 tw5902946988282948352 tw10529077834182942999 tw5872752647644728864 tw547640156837012540 tw15235281822470720299 tw13490683320434989770 tw5745481441438123065 tw4095194811594641934 tw2554564180261852884 tw235430682203560503 tw8822460892435366024 tw4015338361452852524 tw7615693976180964378 tw17025621251422173269 tw11268133521042011344 tw16817819802521713718 tw8548821338474598879 tw964510938581004358 tw4458641741296019709 tw7953139393485619518 tw13059377563906532181 tw10190357604766753209 tw4444691442773056567 tw5502466453482212645 tw2624135767202397259 tw7751371226856462569 tw6147300982186454554 tw13996905890224895214 tw207405813055927844 tw12340352753709228032 tw7768758359670983078 tw16220896572492692247 tw2169379011501799992 tw4718660735103058001 tw851251113458780812 tw16755763633990877131 tw13031106551470372485 tw11193070406855479453 tw4532478543781717191 tw18281544314718810787 tw8311615685426973917 tw14959443473390673030 tw11369041752266139019 tw9407421009507334456 tw791543992065784017 tw16521736045279262469 tw2218414073055670578 tw6995350369737136520 tw9651518000352722958 tw9708330111731989691 tw16111884604448691600 tw12190790173732377790 tw10774700826688341551 tw11050766471862472805 tw3809582748788408287 tw3537729744170732777 tw2454279575021465474 tw17515593542783139647 tw10109693255923563091 tw7403894694452522255 tw9666260066739193872 tw12728700289057507894 tw3542788739562554539 tw6437078278523582172 tw6863494944380475872 tw5010698436052623033 tw17978907180651953008 tw17707132993689309292 tw16452975131417756335 tw7938527042683074840 tw16534592236307999530 tw15176609328648368259 tw6729932971534248084 tw15316138595908562240 tw2767578130572161899 tw6773674712466311134 tw9938333672036427171 tw10452518441865404004 tw13093700435856485653 tw5564879936131590774 tw143391167885218646 tw12185316897941538508 tw11471301854408944446 tw6977941083740325468 tw12546055259623504320 tw16129934943729575112 tw8165663492477749681 tw3005537673125567741 tw13675333485307191972 tw18063069956826543442 tw621957738979987343 tw10613245120901476937 tw34189572887606115 tw2444832867685530539 tw8191065724698232242 tw3238549169350314486 tw3759021212811133615 tw15147970097345888794 tw3510852424539951021 tw7648405781834474399 tw16165377350106786153 tw6451332610360449157 tw14946266725278071047 tw7710888217596668948 tw14810811657442323326 tw6844428672677432226 tw17811305663731720393 tw9656827621664981743 tw15366794352584350088 tw15927707053248504167 tw1510689072289426904 tw5488959865700729086 tw8834803906509129206 tw4959140528545067457 tw950705351341506605 tw17982494093223776408 tw776705783433166264 tw3793511644353553976 tw18333960579089520775 tw2302294983314548403 tw11505859229230421268 tw4394576992025566604 tw3820048962790234309 tw16281119733233314544 tw9022459381137438625 tw4789792598965422490 tw9486534236476220845 tw14053865667053874144 tw16671299532031359392 tw7671624397733617532 tw5478095814632342536 tw5318810295984784056 tw6514284259323388913 tw5875549755288559745 tw15381181104296341204 tw1292670453960938493 tw18294189311223585126 tw12605502011856920456 tw2574950875154616205 tw5370109887213719711 tw10814396646506289425 tw6733359826237137212 tw2333223533691858106 tw3902562815393325846 tw10632614679297204789 tw1792337461213998656 tw15155387925488925257 tw10264371556976331873 tw7651529797051170487 tw3359562229000013752 tw3556327711083020801 tw2958188919909218214 tw707522444607846218 tw10424249744434899487 tw10573231672498677317 tw14514473840054692684 tw11959170866993368093 tw1537525467657362802 tw16284941168025845581 tw3286335479115921053 tw375042652657102519 tw5902675514946535513 tw16304162518598605743 tw3354595222433510218 tw1203927666812053982 tw9685620007813518379 tw9962945965172526415 tw1571925817403401581 tw1116821681863559126 tw16902506836513360106 tw12727856388483107662 tw16847336693710059470 tw10176138447591174764 tw3380312484977906180 tw2307324102025321600 tw11207388554680489862 tw13983146911439651781 tw9095540582018522088 tw8516353288867501547 tw5826535662219072047 tw9990800699240402177 tw16755737884350807718 tw7874797819453981658 tw4881248686930862303 tw8709392029462865084 tw12352697912950505065 tw14281070105108116858 tw7580429918391383528 tw6731145319982245829 tw17696444664310432618 tw3489759712492275449 tw12317559606829542657 tw6932060739555553250 tw15467117799876400816 tw13804969162788595551 tw3645434235179921618 tw319645635113251913 tw8167895548055768322 tw3826039402888666040 tw14649382626603410770 tw13376522646600090114 tw2237518555475315772 tw4853063518343029805 tw3421613444767669378 tw17503273505856115201 tw12906216054614772612 tw13204436218066836445 tw13457376521665892043 tw12317907260391367154 tw11802431401651911120 tw4710060565882851732 tw6251756094665952276 tw17984397728072593605 tw13573192494758394783 tw7948033150105604194 tw15941319063670441547 tw9586388896049790051 tw14806864241289508416 tw12965284483302501647 tw13956140551108478979 tw2978476167670940123 tw4700848032989469945 tw12689240396242357663 tw11476969565223022728 tw7767560171344853329 tw1760866759062093 tw13175260716830495389 tw15492497554341565486 tw5717854523818858783 tw17341517701252470489 tw13658674904222090290 tw9798752502457732648 tw1213655616913856296 tw5945775300792894369 tw13945890122872723046 tw10967539964534133283 tw9928270231268672852 tw6220637775725208730 tw12659105325410503246 tw14135105677823636984 tw2792869416558328404 tw6758017577204555543 tw12036175901200935595 tw1411670201014618776 tw17683931869202909853 tw14746122788859566341 tw8111624796525360323 tw2735781931653401917 tw5565679060696283981 tw8359073769061150408 tw4118565866439605174 tw10475412671961456140 tw13172838777324204689 tw1344178210888487274 tw5171590857087618387 tw12604727459160819898 tw546354013463350934 tw14521464858876235085 tw15155714743964643106 tw13122534084648610513 tw12662625707566193578 tw10276071253154608208 tw16412798955197526805 tw11491492703862819106 tw11771824123569014070 tw2287814914387252942 tw5705956285564010550 tw6382189720921384482 tw13776694416940562815 tw11454505729404703317 tw3664461503580038545 tw17440271423834703151 tw12867375601441255361 tw13111741677551524627 tw4946960331299158320 tw820223113662552773 tw16251486351381841723 tw455320014623868260 tw17985146897878859721 tw13349121838507707105 tw12497305103492364907 tw5849096487527291952 tw4193170315079243425 tw11176799215212981778 tw4435890131663960650 tw6427333727239641857 tw13427248483171581292 tw12128972570086032507 tw11904428627589608927 tw6687519744614264489 tw2481198376843812477 tw16529449272873194904 tw7939912129092055153 tw5605143739871240810 tw12481046395353690144 tw9945185517776865706 tw11301627072248468838 tw8274583975071777137 tw890447244823060637 tw15538941118083432211 tw202876692540866342 tw8369958882084335348 tw15554070822305928601 tw17722472009161839035 tw5911922089657950984 tw3062371867528805599 tw7973063066955311540 tw11025626242412467771 tw12117524644285619839 tw1129282364445410848 tw4285834094367288953 tw18362886174882062430 tw11960957109160054796 tw16336541407829385421 tw1962726837650690879 tw9721681332851315990 tw9073744345568872160 tw8291938196953700796 tw11183497217420495004 tw10939635505627078481 tw6857999481380094042 tw1872470253657001360 tw16910385391521044676:True)
section
-- CHANGE: your row's module here,as the last of these rows
namespace L2
open PySem PySem.Spec PyProof.Rows
noncomputable abbrev Key:=Sum Int Str
noncomputable def tW:Key→Value→Bool
 | .inl k,v=>Value.isInt k v
 | .inr x,v=>Value.isStrOf x v
noncomputable def Z1(w:World):Key→Int
 | .inl k=>hashInt k
 | .inr x=>hashStr w x
theorem cR:∀{k:Key}{v:Value},tW k v=true→(∃i t,k=Sum.inl i∧v=Value.int i t)∨(∃x t,k=Sum.inr x∧v=Value.str x t)
 | .inl i,v,h=>by
  obtain⟨t,e⟩:=Value.isInt_shape (k:=i) (v:=v) h
  exact .inl ⟨i,t,rfl,e⟩
 | .inr x,v,h=>by
  obtain⟨t,e⟩:=Value.isStrOf_shape (x:=x) (v:=v) h
  exact .inr ⟨x,t,rfl,e⟩
theorem Lr(i:Int)(t:Tok):tW (.inl i) (.int i t)=true:=by simp[tW,Value.isInt]
theorem Lq(x:Str)(t:Tok):tW (.inr x) (.str x t)=true:=by simp[tW,Value.isStrOf]
theorem W6(a b:Int):decide ((Sum.inl a:Key)=Sum.inl b)=(a==b):=by
 by_cases e:a=b
 ·subst e;simp
 ·have h:¬(Sum.inl a:Key)=Sum.inl b:=fun q=>e (Sum.inl.inj q)
  rw[mu h]
  exact(beq_eq_false_iff_ne.mpr e).symm
theorem QJ(a b:Str):decide ((Sum.inr a:Key)=Sum.inr b)=decide (a=b):=by
 by_cases e:a=b
 ·subst e;simp
 ·have h:¬(Sum.inr a:Key)=Sum.inr b:=fun q=>e (Sum.inr.inj q)
  rw[mu h,mu e]
theorem W5(a:Int)(b:Str):decide ((Sum.inl a:Key)=Sum.inr b)=false:=mu (fun q=>nomatch q)
theorem W4(a:Str)(b:Int):decide ((Sum.inr a:Key)=Sum.inl b)=false:=mu (fun q=>nomatch q)
noncomputable def du(prog:Program)(w:World):PySem.KeyKind prog w Key where
 is:=tW
 hash:=Z1 w
 inj:=fun v a b J F=>by
  rcases cR J with⟨i,t,rfl,rfl⟩ | ⟨x,t,rfl,rfl⟩
  ·rcases cR F with⟨j,u,rfl,e⟩ | ⟨y,u,rfl,e⟩
   ·injection e with z _;rw[z]
   ·exact nomatch e
  ·rcases cR F with⟨j,u,rfl,e⟩ | ⟨y,u,rfl,e⟩
   ·exact nomatch e
   ·injection e with z _;rw[z]
 byValue:=fun k v h=>by
  rcases cR h with⟨i,t,rfl,rfl⟩ | ⟨x,t,rfl,rfl⟩<;>rfl
 pyHash:=fun D h=>by
  rcases cR D with⟨i,t,rfl,rfl⟩ | ⟨x,t,rfl,rfl⟩
  ·exact wpAny_pyHash_int h
  ·exact wpAny_pyHash_str h
 eqBool:=fun G D h=>by
  rcases cR G with⟨i,t,rfl,rfl⟩ | ⟨x,t,rfl,rfl⟩
  ·rcases cR D with⟨j,u,rfl,rfl⟩ | ⟨y,u,rfl,rfl⟩
   ·rw[W6]at h;exact wpAny_eqBool_int h
   ·rw[W5]at h;exact SeqAt.EqAt.int_str i t y u _ _ _ _ h
  ·rcases cR D with⟨j,u,rfl,rfl⟩ | ⟨y,u,rfl,rfl⟩
   ·rw[W4]at h;exact SeqAt.EqAt.str_int x t j u _ _ _ _ h
   ·rw[QJ]at h;exact wpAny_eqBool_str h
 «strs»:=fun k x t v h=>by
  rcases cR h with⟨i,u,rfl,e⟩ | ⟨y,u,rfl,e⟩
  ·exact nomatch e
  ·injection e with z _
   subst z
   cases v<;>rfl
theorem CJ(prog:Program)(w:World)(i:Int)(t:Tok):(du prog w).is (.inl i) (.int i t)=true:=Lr i t
theorem lZ(prog:Program)(w:World)(x:Str)(t:Tok):(du prog w).is (.inr x) (.str x t)=true:=Lq x t
end L2
namespace L2
open PySem PySem.Spec PyProof.Rows
inductive V where
 | non | bl (b:Bool) | int (i:Int) | str (x:Str) | byt (b:Array UInt8) | flt (b:UInt64) | ref (a:Addr) | ty (n:String)
 deriving DecidableEq
noncomputable def RelV:V→Value→Prop
 | .non,u=>u=Value.none
 | .bl b,u=>u=Value.bool b
 | .int i,u=>∃t,u=Value.int i t
 | .str x,u=>∃t,u=Value.str x t
 | .byt b,u=>∃t,u=Value.bytes b t
 | .flt b,u=>∃t,u=Value.float b t
 | .ref a,u=>u=Value.ref a
 | .ty n,u=>u=Value.type n
noncomputable abbrev Vals:List V→List Value→Prop:=Paired RelV
theorem Vals.length{xs:List V}{us:List Value}(r:Vals xs us):xs.length=us.length:=Paired.length r
theorem Vals.get:∀{xs:List V}{us:List Value}{i:Nat}{x:V},Vals xs us→xs[i]?=some x→∃u,us[i]?=some u∧RelV x u
 | _,_,_,_,.nil,e=>by simp at e
 | _,_,0,_,.cons r _,e=>by simp at e;subst e;exact⟨_,rfl,r⟩
 | _,_,i+1,x,.cons _ t,e=>by
  obtain⟨u,h1,h2⟩:=Vals.get (i:=i) (x:=x) t (by simpa using e)
  exact⟨u,by simpa using h1,h2⟩
theorem Vals.append:∀{xs ys:List V}{us ws:List Value},Vals xs us→Vals ys ws→Vals (xs++ys) (us++ws)
 | _,_,_,_,.nil,s=>s
 | _,_,_,_,.cons r t,s=>.cons r (Vals.append t s)
theorem Vals.take:∀{xs:List V}{us:List Value}(n:Nat),Vals xs us→Vals (xs.take n) (us.take n)
 | _,_,0,_=>.nil
 | _,_,_+1,.nil=>.nil
 | _,_,n+1,.cons r t=>.cons r (Vals.take n t)
theorem Vals.drop:∀{xs:List V}{us:List Value}(n:Nat),Vals xs us→Vals (xs.drop n) (us.drop n)
 | _,_,0,r=>r
 | _,_,_+1,.nil=>.nil
 | _,_,n+1,.cons _ t=>Vals.drop n t
noncomputable def pF:Option V→Option Value→Prop
 | some v,some u=>RelV v u
 | none,none=>True
 | _,_=>False
noncomputable def KV{κ:Type}:List (κ×V)→List (κ×Value)→Prop:=Paired fun(p:κ×V)(q:κ×Value)=>p.1=q.1∧RelV p.2 q.2
noncomputable def kV:Key→V
 | .inl i=>.int i
 | .inr x=>.str x
inductive HO where
 | lst (xs:List V)
 | tup (xs:List V)
 | dK (kvs:List (Key×V)) | dT (kvs:List (List Key×V))
 | set (S:Int→Bool) (n:Nat)
 | ins (C dx:Addr) (fs:List (Str×V))
 | own (x:Addr)
 | xd (fs:List (Str×V))
 | met (f x:Addr)
 | rng (lo hi:Int)
 | frz (o:Obj) (u:HO)
 | tbl (ps:Array Value)
 | ext (φ:Heap→Prop)
noncomputable abbrev Hp:=Addr→Option HO
noncomputable def upd(H:Hp)(a:Addr)(o:HO):Hp:=fun b=>if b=a then some o else H b
theorem au{H:Hp}{a:Addr}{o:HO}:upd H a o a=some o:=by unfold upd;rw[mr rfl]
theorem aA{H:Hp}{a b:Addr}{o:HO}(h:b≠a):upd H a o b=H b:=by unfold upd;rw[ml h]
theorem qt{H:Hp}{a b:Addr}{o u:HO}(h:H a=some o)(h':H b=some u)(d:o≠u):a≠b:=by
 intro e;subst e;rw[h]at h';exact d (Option.some.inj h')
theorem aP{H:Hp}{a b:Addr}{o:HO}(h:H a=some o)(h':H b=none):a≠b:=by
 intro e;subst e;rw[h]at h';cases h'
section
variable (P:Program) (w:World)
noncomputable def dq(H:Hp)(h:Heap)(a:Addr):HO→Prop
 | .lst xs=>xs.length≤sizeLine∧∃(its:List Value)(n:Nat),Vals xs its∧h.get? a=some { cls:=.type "list",data:=.seq its.toArray n }
 | .tup xs=>xs.length≤sizeLine∧∃its:List Value,Vals xs its∧IsTup h a its.toArray
 | .dK kvs=>kvs.length≤sizeLine∧(a==sysModules)=false∧∃vs,KV kvs vs∧h.DictOf (du P w) a vs
 | .dT kvs=>kvs.length≤sizeLine∧(a==sysModules)=false∧∃xs:List (List Key×Addr×Value),
   Paired (fun(p:List Key×V)(q:List Key×Addr×Value)=>p.1=q.1∧H q.2.1=some (.tup (p.1.map kV))∧RelV p.2 q.2.2) kvs xs ∧
   ∃o es ep,h.get? a=some o∧o.ExactDict∧o.data=.dict es ep∧es.toList=xs.map (entryOfKey (tupleKind (du P w)))∧(xs.map (·.1)).Nodup
 | .set S n=>h.SetOf (intKind P w) a S n
 | .ins C dx fs=>H dx=some (.own a)∧fs.length≤1000∧dx≠a∧h.get? a=some (PySem.W.instObj C dx) ∧
   ∃mA,h.Ns1 dx mA∧(∀f,pF (fs.lookup f) (mA f))∧PySem.Within mA (fs.map (·.1))
 | .own _=>∃o,h.get? a=some o
 | .xd fs=>∃mA,h.Ns1 a mA∧∀f,pF (fs.lookup f) (mA f)
 | .rng lo hi=>∃t u v,h.get? a=some { cls:=.type "range",data:=.fields #[.int lo t,.int hi u,.int 1 v] }
 | .frz o u=>h.get? a=some o∧dq H h a u
 | .tbl ps=>h.get? a=some { cls:=.none,data:=.fields ps }
 | .met f x=>h.get? a=some (PySem.W.methodObj (.ref f) (.ref x))
 | .ext φ=>φ h∧(∃o,h.get? a=some o)∧∀h1 h2:Heap,φ h1→(∀o,h1.get? a=some o→h2.get? a=some o)→φ h2
noncomputable def ou(H:Hp)(h:Heap):Prop:=∀a o,H a=some o→dq P w H h a o
end
section
variable {P:Program} {w:World} {H H':Hp} {h h':Heap} {a:Addr} {o:HO}
theorem dq.lt(x:dq P w H h a o):a<h.objs.size:=by
 cases o with
 | lst xs=>obtain⟨_,_,_,_,e⟩:=x;exact Heap.lt_size e
 | tup xs=>obtain⟨_,_,_,p⟩:=x;exact p.lt
 | dK kvs=>obtain⟨_,_,_,_,o,_,_,e,_⟩:=x;exact Heap.lt_size e
 | dT kvs=>obtain⟨_,_,_,_,o,_,_,e,_⟩:=x;exact Heap.lt_size e
 | set S n=>obtain⟨o,_,_,_,e,_⟩:=x;exact Heap.lt_size e
 | ins C dx fs=>obtain⟨_,_,_,e,_⟩:=x;exact Heap.lt_size e
 | own y=>obtain⟨_,e⟩:=x;exact Heap.lt_size e
 | xd fs=>obtain⟨_,⟨_,_,_,e,_⟩,_⟩:=x;exact Heap.lt_size e
 | rng lo hi=>obtain⟨_,_,_,e⟩:=x;exact Heap.lt_size e
 | frz j u=>obtain⟨e,_⟩:=x;exact Heap.lt_size e
 | tbl ps=>exact Heap.lt_size (show h.get? a=some _ from x)
 | met f y=>exact Heap.lt_size (show h.get? a=some _ from x)
 | ext φ=>obtain⟨_,⟨_,e⟩,_⟩:=x;exact Heap.lt_size e
theorem Paired.YD{α β:Type}{F G:α→β→Prop}:∀{l₁:List α}{l₂:List β},Paired F l₁ l₂→(∀a b,F a b→G a b)→Paired G l₁ l₂
 | _,_,.nil,_=>.nil
 | _,_,.cons r t,f=>.cons (f _ _ r) (Paired.YD t f)
theorem dq.stay(x:dq P w H h a o)(k:∀b u,(b=a∨H b=some (.own a))→h.get? b=some u→h'.get? b=some u)
  (J:∀b,H b=some (.own a)→H' b=some (.own a)) (G:∀b xs,H b=some (.tup xs)→H' b=some (.tup xs)):dq P w H' h' a o:=by
 induction o with
 | lst xs=>obtain⟨z,its,n,r,e⟩:=x;exact⟨z,its,n,r,k _ _ (.inl rfl) e⟩
 | tup xs=>obtain⟨z,its,r,j,e,c⟩:=x;exact⟨z,its,r,j,k _ _ (.inl rfl) e,c⟩
 | dK kvs=>obtain⟨z,y,vs,r,j,es,ep,e,c⟩:=x;exact⟨z,y,vs,r,j,es,ep,k _ _ (.inl rfl) e,c⟩
 | dT kvs =>
  obtain⟨z,y,xs,r,j,es,ep,e,c⟩:=x
  exact⟨z,y,xs,Paired.YD r fun p q z=>⟨z.1,G _ _ z.2.1,z.2.2⟩,j,es,ep,k _ _ (.inl rfl) e,c⟩
 | set S n=>obtain⟨j,es,ep,t,e,c⟩:=x;exact⟨j,es,ep,t,k _ _ (.inl rfl) e,c⟩
 | ins C dx fs =>
  obtain⟨d,z,ne,e,mA,⟨od,es,ep,F,c⟩,r⟩:=x
  exact⟨J _ d,z,ne,k _ _ (.inl rfl) e,mA,⟨od,es,ep,k _ _ (.inr d) F,c⟩,r⟩
 | own y=>obtain⟨j,e⟩:=x;exact⟨j,k _ _ (.inl rfl) e⟩
 | xd fs=>obtain⟨mA,⟨od,es,ep,e,c⟩,r⟩:=x;exact⟨mA,⟨od,es,ep,k _ _ (.inl rfl) e,c⟩,r⟩
 | rng lo hi=>obtain⟨t,u,v,e⟩:=x;exact⟨t,u,v,k _ _ (.inl rfl) e⟩
 | frz j u D=>obtain⟨e,q⟩:=x;exact⟨k _ _ (.inl rfl) e,D q⟩
 | tbl ps =>
  have e:h.get? a=some { cls:=.none,data:=.fields ps }:=x
  show h'.get? a=some { cls:=.none,data:=.fields ps }
  exact k a _ (.inl rfl) e
 | met f y =>
  have e:h.get? a=some (PySem.W.methodObj (.ref f) (.ref y)):=x
  show h'.get? a=some (PySem.W.methodObj (.ref f) (.ref y))
  exact k a _ (.inl rfl) e
 | ext φ=>obtain⟨p,⟨o,e⟩,st⟩:=x;exact⟨st _ _ p fun o q=>k _ _ (.inl rfl) q,⟨o,k _ _ (.inl rfl) e⟩,st⟩
theorem ou.lt(x:ou P w H h)(e:H a=some o):a<h.objs.size:=(x a o e).lt
theorem ou.fresh(x:ou P w H h)(e:h.objs.size≤a):H a=none:=by
 cases q:H a with
 | none=>rfl
 | some u=>exact absurd (lm (x.lt q) e) (Nat.lt_irrefl _)
theorem ou.kept(x:ou P w H h)(k:∀b u,h.get? b=some u→h'.get? b=some u):ou P w H h':=fun a o e =>
 (x a o e).stay (fun b u _ q=>k b u q) (fun _ q=>q) fun _ _ q=>q
theorem ou.laid(x:ou P w H h)(k:∀b u,h.get? b=some u→h'.get? b=some u)(D:h.objs.size≤a)(new:dq P w (upd H a o) h' a o):ou P w (upd H a o) h':=fun b u e=>by
 have j:=x.fresh D
 by_cases z:b=a
 ·subst z;rw[au]at e;cases e;exact new
 ·rw[aA z]at e
  exact(x b u e).stay (fun c v _ q=>k c v q) (fun c q=>by rw[aA (aP q j)];exact q) fun c xs q=>by rw[aA (aP q j)];exact q
end
noncomputable def Rd(H:Hp)(a:Addr)(u:HO):Prop:=H a=some u∨∃o,H a=some (.frz o u)
theorem Rd.ok{P:Program}{w:World}{H:Hp}{h:Heap}{a:Addr}{u:HO}(r:Rd H a u)(x:ou P w H h):dq P w H h a u:=by
 rcases r with r | ⟨o,r⟩
 ·exact x a u r
 ·obtain⟨_,q⟩:=x a _ r
  exact q
noncomputable def Zi:Option HO→Prop
 | some (.lst _)=>True
 | some (.dK _)=>True
 | some (.dT _)=>True
 | some (.set _ _)=>True
 | some (.ins _ _ _)=>True
 | some (.ext _)=>True
 | _=>False
section
variable {P:Program} {w:World} {H:Hp} {h h':Heap} {x e:Addr} {o':HO}
theorem ou.write(ok:ou P w H h)(L:Zi (H x))(U:e=x∨H e=some (.own x))(k:∀b u,b≠e→h.get? b=some u→h'.get? b=some u)(O:∃u,h'.get? e=some u)
  (new:dq P w (upd H x o') h' x o'):ou P w (upd H x o') h':=fun b u q=>by
 have D:∀c y,H c=some (.own y)→c≠x:=fun c y r z=>by subst z;rw[r]at L;exact L
 have F:∀c xs,H c=some (.tup xs)→c≠x:=fun c xs r z=>by subst z;rw[r]at L;exact L
 by_cases J:b=x
 ·subst J;rw[au]at q;cases q;exact new
 ·rw[aA J]at q
  by_cases j:b=e
  ·have S:H b=some (.own x):=by
    rcases U with z | z
    ·exact absurd (j.trans z) J
    ·rw[j];exact z
   rw[q]at S;cases S
   obtain⟨v,Y⟩:=O
   exact⟨v,by rw[j];exact Y⟩
  ·refine(ok b u q).stay (fun c v G r=>k c v ?_ r) (fun c r=>by rw[aA (D c b r)];exact r) fun c xs r=>by rw[aA (F c xs r)];exact r
   rcases G with rfl | G
   ·exact j
   ·rintro rfl
    rcases U with z | z
    ·exact D c b G z
    ·rw[G]at z;cases z;exact J rfl
end
structure Un (fs ex:List Addr) (H H':Hp) (h h':Heap):Prop where
 keep:∀b o,h.get? b=some o→H b=none→b∉fs→b∉ex→h'.get? b=some o
 slot:∀b o,h.get? b=some o→H b=none→b∈fs→b∉ex→∃sl,h'.get? b=some { o with slots:=sl }
 free:∀b o,h.get? b=some o→H b=none→b∉ex→H' b=none
 there:∀b o,h.get? b=some o→b∉ex→∃o',h'.get? b=some o'
 tups:∀b xs,H b=some (.tup xs)→H' b=some (.tup xs)
 frzs:∀b o u,H b=some (.frz o u)→H' b=some (.frz o u)
 tbls:∀b ps,H b=some (.tbl ps)→∃more,H' b=some (.tbl (ps++more))
section
variable {fs fs' ex ex':List Addr} {H H1 H2:Hp} {h h1 h2 h':Heap} {a x e:Addr} {o:HO}
theorem Un.any(u:Un fs ex H H1 h h1){b:Addr}{j:Obj}(q:h.get? b=some j)(n:H b=none)(hx:b∉ex):∃sl,h1.get? b=some { j with slots:=sl }:=by
 by_cases z:b∈fs
 ·exact u.slot b j q n z hx
 ·exact⟨j.slots,u.keep b j q n z hx⟩
theorem Un.kept(k:∀b u,h.get? b=some u→h'.get? b=some u):Un fs ex H H h h' :=
 ⟨fun b j q _ _ _=>k b j q,fun b j q _ _ _=>⟨j.slots,k b j q⟩,fun _ _ _ n _=>n,fun b j q _=>⟨j,k b j q⟩,fun _ _ q=>q,fun _ _ _ q=>q,fun _ ps q=>⟨#[],by rw[q];simp⟩⟩
theorem Un.refl:Un fs ex H H h h:=Un.kept fun _ _ q=>q
theorem Un.laid(k:∀b u,h.get? b=some u→h'.get? b=some u)(z:h.objs.size≤a)(j:H a=none):Un fs ex H (upd H a o) h h' where
 keep:=fun b u q _ _ _=>k b u q
 slot:=fun b u q _ _ _=>⟨u.slots,k b u q⟩
 free:=fun b u q n _=>by rw[aA (md (lm (Heap.lt_size q) z))];exact n
 there:=fun b u q _=>⟨u,k b u q⟩
 tups:=fun b xs q=>by rw[aA (aP q j)];exact q
 frzs:=fun b u xs q=>by rw[aA (aP q j)];exact q
 tbls:=fun b ps q=>⟨#[],by rw[aA (aP q j),q];simp⟩
theorem Un.write(D:Zi (H x))(L:e=x∨H e=some (.own x))(k:∀b u,b≠e→h.get? b=some u→h'.get? b=some u)(F:∃u,h'.get? e=some u):Un fs ex H (upd H x o) h h':=by
 have hx:∀b,H b=none→b≠x:=fun b n z=>by subst z;rw[n]at D;exact D
 have J:∀b,H b=none→b≠e:=fun b n z=>by
  subst z
  rcases L with r | r
  ·exact hx b n r
  ·rw[n]at r;cases r
 have G:∀b u,H b=some u→¬Zi (some u)→b≠x:=fun b u q nm z=>by subst z;rw[q]at D;exact nm D
 refine⟨fun b u q n _ _=>k b u (J b n) q,fun b u q n _ _=>⟨u.slots,k b u (J b n) q⟩,fun b u q n _=>by rw[aA (hx b n)];exact n,fun b u q _=>?_,
  fun b xs q=>by rw[aA (G b _ q fun z=>z)];exact q,fun b u xs q=>by rw[aA (G b _ q fun z=>z)];exact q,fun b ps q=>⟨#[],by rw[aA (G b _ q fun z=>z),q];simp⟩⟩
 by_cases j:b=e
 ·subst j;exact F
 ·exact⟨u,k b u j q⟩
end
noncomputable def Zd(h:Heap)(H:Hp):List Addr:=(List.range h.objs.size).filter fun a=>(H a).isSome
noncomputable def zV(h:Heap)(H:Hp):Heap:=PySem.W.hideAll h (Zd h H)
theorem Lz(h:Heap)(H:Hp):(zV h H).objs.size=h.objs.size:=PySem.W.hideAll_size _ _
theorem QW{h:Heap}{H:Hp}{b:Addr}{o:Obj}(e:h.get? b=some o)(n:H b=none):(zV h H).get? b=some o :=
 PySem.W.hideAll_get _ e fun j=>by
  have q:(H b).isSome=true:=(List.mem_filter.mp j).2
  rw[n]at q;simp at q
theorem T7{h:Heap}{H:Hp}{b:Addr}{o:Obj}(e:(zV h H).get? b=some o):h.get? b=some o∧H b=none:=by
 have j:h.get? b=some o:=PySem.W.of_hideAll (Zd h H) e
 refine⟨j,?_⟩
 cases q:H b with
 | none=>rfl
 | some x =>
  have D:b∈Zd h H:=List.mem_filter.mpr ⟨mx.mpr (Heap.lt_size j),by simp[q]⟩
  have z:(zV h H).get? b=none:=PySem.W.hideAll_none (Zd h H) D
  rw[z]at e;cases e
end L2
namespace L2
open PySem PySem.Spec PyProof.Rows
structure Mod (K:PySem.W.Frag) (mg:Str→Option Value) (base:Heap):Prop where
 kin:K.In base
 glob:base.Ns mainGlobals mg
 blt:∃mb,base.Ns builtinsNs mb∧∀x:Str,x ≠ "__name__"→mb x=bootBuiltins x
 nolimit:base.NoLimit
structure Cx where
 prog:Program
 w:World
 K:PySem.W.Frag
 mg:Str→Option Value
 base:Heap
 A:Around
 N:List Str
 s_0:Shared
 H_0:Hp
 env:Env
 outer:List Env
 stack:List Env
 ex:List Addr
 fn:Str→Bool
 calm:Bool
 pn:List (Addr×Obj)
 xe:Value→Shared→Prop
noncomputable def frs(l:List Env):List Addr:=l.filterMap (·.frame)
noncomputable abbrev Cx.fs(X:Cx):List Addr:=frs X.outer
noncomputable def XN(sc:Scope)(x:Str):Prop:=sc.names.lookup x=some .local∨sc.names.lookup x=some .cell∨sc.names.lookup x=some .free
noncomputable def Loc(sc:Scope)(x:Str):Prop:=sc.names.lookup x=some .local∨sc.names.lookup x=some .cell
noncomputable def Look(env:Env)(h:Heap)(m:Str→Option Value)(x:Str)(u:Value):Prop :=
 (env.kindOf x=some .local∧m x=some u)∨((env.kindOf x=some .cell∨env.kindOf x=some .free)∧∃c,env.cells.lookup x=some c∧h.IsCell c (some u))
structure Cx.Ok (X:Cx):Prop where
 mod:Mod X.K X.mg X.base
 kind:X.env.scope.kind=.function
 glob:X.env.globals=mainGlobals
 blt:X.env.builtins=builtinsNs
 above:X.s_0.heap.objs.size≤X.env.locals
 inj:∀x y c,X.env.cells.lookup x=some c→X.env.cells.lookup y=some c→x=y
 has:∀x,(X.env.kindOf x=some .cell∨X.env.kindOf x=some .free)→∃c,X.env.cells.lookup x=some c
 cab:∀x c,X.fn x=true→X.env.cells.lookup x=some c→X.s_0.heap.objs.size≤c
 hd:X.calm=true→X.A.handled=none
 frames:X.A.frames=some X.stack
 stk:X.stack=X.outer∨(X.stack=X.env::X.outer∧X.env.frame=some X.env.locals)
 exf:∀b∈X.ex,b≠X.env.locals∧∀x c,X.env.cells.lookup x=some c→c≠b
 bs:∀b o,X.base.get? b=some o→X.s_0.heap.get? b=some o∧X.H_0 b=none
 bsz:X.base.objs.size≤X.s_0.heap.objs.size
 noex:∀b o,X.base.get? b=some o→b∉X.ex
 exfs:∀b∈X.ex,b∉X.fs
 qz:X.s_0.heap.FunFrames X.base X.outer
 frf:∀b∈X.fs,X.H_0 b=none
structure Inv (X:Cx) (pins:List (Addr×Obj)) (σ:List (Option V)) (H:Hp) (s:Shared):Prop where
 ok:X.Ok
 os:s.os=X.s_0.os
 bare:AllBare s.gens
 base:Un X.fs X.ex X.H_0 H X.s_0.heap s.heap
 loc:∃m,s.heap.Ns X.env.locals m∧∀(i:Nat)(x:Str)(v:V),X.N[i]?=some x→σ[i]?=some (some v)→XN X.env.scope x→∃u,RelV v u∧Look X.env s.heap m x u
 cell:∀x c,X.env.cells.lookup x=some c→∃v,s.heap.IsCell c v
 free:H X.env.locals=none
 freeC:∀x c,X.env.cells.lookup x=some c→H c=none
 pin:∀p∈X.pn++pins,s.heap.get? p.1=some p.2∧H p.1=none∧p.1≠X.env.locals∧p.1∉X.fs∧∀v,p.2.data≠.cell v
 hok:ou X.prog X.w H s.heap
 len:σ.length=X.N.length
section
variable {X:Cx} {pins:List (Addr×Obj)} {σ:List (Option V)} {H H':Hp} {s:Shared} {h':Heap}
theorem Cx.Ok.ZX(ok:X.Ok){b:Addr}{o:Obj}(e:X.base.get? b=some o):b∉X.fs:=fun j=>by
 have:=(ok.qz.mem j).1
 rw[e]at this;cases this
theorem Inv.bs(I:Inv X pins σ H s):∀b o,X.base.get? b=some o→s.heap.get? b=some o∧H b=none:=fun b o e =>
 ⟨I.base.keep b o (I.ok.bs b o e).1 (I.ok.bs b o e).2 (I.ok.ZX e) (I.ok.noex b o e),I.base.free b o (I.ok.bs b o e).1 (I.ok.bs b o e).2 (I.ok.noex b o e)⟩
theorem Inv.bk(I:Inv X pins σ H s):∀b o,X.base.get? b=some o→s.heap.get? b=some o:=fun b o e=>(I.bs b o e).1
theorem Inv.mod(I:Inv X pins σ H s):Mod X.K X.mg X.base:=I.ok.mod
theorem Inv.o5(I:Inv X pins σ H s):X.K.In s.heap:=I.ok.mod.kin.keeps I.bk
theorem Inv.fr(I:Inv X pins σ H s):∃m,Fr X.base X.env.locals s.heap m :=
 let⟨m,hn,_⟩:=I.loc
 ⟨m,hn,I.bk,lS I.ok.bsz I.ok.above⟩
theorem Inv.lt(I:Inv X pins σ H s):X.env.locals<s.heap.objs.size:=let⟨_,hn,_⟩:=I.loc;hn.lt
theorem Inv.sz(I:Inv X pins σ H s):X.s_0.heap.objs.size≤s.heap.objs.size:=lS I.ok.above (Nat.le_of_lt I.lt)
theorem Inv.ZW(I:Inv X pins σ H s){a:Addr}(h:s.heap.objs.size≤a):a∉X.fs:=fun z=>by
 obtain⟨_,o,j,_⟩:=I.ok.qz.mem z
 exact absurd (lm (Heap.lt_size j) (lS I.sz h)) (Nat.lt_irrefl _)
theorem Inv.Vw(I:Inv X pins σ H s):∀x c,X.env.cells.lookup x=some c→c≠X.env.locals:=fun x c e z=>by
 obtain⟨v,o,F,hd⟩:=I.cell x c e
 obtain⟨m,⟨o',es,ep,j,D,_⟩,_⟩:=I.loc
 rw[z,j]at F;cases F;rw[D]at hd;cases hd
theorem Inv.qz(I:Inv X pins σ H s):s.heap.FunFrames X.base X.outer:=by
 have all:∀(l:List Env),(∀b∈frs l,b∈X.fs)→X.s_0.heap.FunFrames X.base l→s.heap.FunFrames X.base l:=by
  intro l
  induction l with
  | nil=>intro _ _;trivial
  | cons env r U =>
   intro G J
   obtain⟨S,⟨L,o,j,O,Z,hd⟩,Y⟩:=J
   have D:L∈X.fs:=G L (by unfold frs;rw[List.filterMap_cons,j];exact ci)
   obtain⟨sl,e⟩:=I.base.slot L o Z (I.ok.frf L D) D fun z=>I.ok.exfs L z D
   exact⟨S,⟨L,_,j,O,e,hd⟩,U (fun b F=>G b (by unfold frs;rw[List.filterMap_cons,j];exact am _ F)) Y⟩
 exact all X.outer (fun _ F=>F) I.ok.qz
theorem Inv.stack(I:Inv X pins σ H s):s.heap.FunFrames X.base X.stack:=by
 rcases I.ok.stk with e | ⟨e,j⟩
 ·rw[e];exact I.qz
 ·rw[e]
  obtain⟨m,z,_⟩:=I.loc
  refine .cons (by rw[I.ok.kind];decide) j z ?_ I.qz
  exact Heap.get?_none_of_le (lS I.ok.bsz I.ok.above)
theorem Inv.Ew(I:Inv X pins σ H s):∀b∈frs X.stack,b∈X.env.locals::X.fs:=fun b j=>by
 rcases I.ok.stk with e | ⟨e,z⟩
 ·rw[e]at j;exact am _ j
 ·rw[e]at j
  unfold frs at j
  rw[List.filterMap_cons,z]at j
  exact j
theorem Inv.pK(I:Inv X pins σ H s):∀b∈frs X.stack,H b=none:=fun b j=>by
 rcases j'.mp (I.Ew b j)with e | j
 ·rw[e];exact I.free
 ·obtain⟨_,o,D,_⟩:=I.ok.qz.mem j
  exact I.base.free b o D (I.ok.frf b j) fun z=>I.ok.exfs b z j
theorem Inv.step{g':Array GenState}{t':Nat}{d':Drawn}{ch:List Addr}(I:Inv X pins σ H s)
  (D:∀b∈ch,(b∈X.ex∨X.s_0.heap.objs.size≤b)∧b≠X.env.locals∧(∀x c,X.env.cells.lookup x=some c→c≠b)∧∀p∈X.pn++pins,p.1≠b)
  (keep:∀b o,b≠X.env.locals→b∉X.fs→b∉ch→s.heap.get? b=some o→H b=none→h'.get? b=some o)
  (slot:∀b o,b≠X.env.locals→b∈X.fs→b∉ch→s.heap.get? b=some o→H b=none→∃sl,h'.get? b=some { o with slots:=sl }) (free:∀b o,b∉ch→s.heap.get? b=some o→H b=none→H' b=none)
  (there:∀b o,b∉ch→s.heap.get? b=some o→∃o',h'.get? b=some o')
  (tups:∀b xs,H b=some (.tup xs)→H' b=some (.tup xs)) (frzs:∀b o u,H b=some (.frz o u)→H' b=some (.frz o u)) (tbls:∀b ps,H b=some (.tbl ps)→∃more,H' b=some (.tbl (ps++more)))
  (ns:∀m,s.heap.Ns X.env.locals m→h'.Ns X.env.locals m) (hok:ou X.prog X.w H' h') (hg:AllBare g') :
  Inv X pins σ H' { s with heap:=h',gens:=g',drawn:=d',toks:=t' }:=by
 have U:∀b o,X.s_0.heap.get? b=some o→b≠X.env.locals:=fun b o e=>md (lm (Heap.lt_size e) I.ok.above)
 have J:∀b o,X.s_0.heap.get? b=some o→b∉X.ex→b∉ch:=fun b o e hx L=>by
  rcases(D b L).1 with z | z
  ·exact hx z
  ·exact absurd (lm (Heap.lt_size e) z) (Nat.lt_irrefl _)
 have F:∀x c,X.env.cells.lookup x=some c→∀v,s.heap.IsCell c v→h'.IsCell c v:=fun x c e v ⟨o,O,hd⟩=>by
  have j:c∉ch:=fun z=>(D c z).2.2.1 x c e rfl
  by_cases Z:c∈X.fs
  ·obtain⟨sl,q⟩:=slot c o (I.Vw x c e) Z j O (I.freeC x c e)
   exact⟨_,q,hd⟩
  ·exact⟨o,keep c o (I.Vw x c e) Z j O (I.freeC x c e),hd⟩
 refine⟨I.ok,I.os,hg,⟨fun b o e n L hx=>?_,fun b o e n L hx=>?_,fun b o e n hx=>?_,fun b o e hx=>?_,fun b xs e=>tups b xs (I.base.tups b xs e),fun b o xs e=>frzs b o xs (I.base.frzs b o xs e),fun b ps e=>?_⟩,?_,fun x c e=>?_,?_,fun x c e=>?_,fun p hp=>?_,hok,I.len⟩
 ·exact keep b o (U b o e) L (J b o e hx) (I.base.keep b o e n L hx) (I.base.free b o e n hx)
 ·obtain⟨sl,G⟩:=I.base.slot b o e n L hx
  obtain⟨Y,S⟩:=slot b _ (U b o e) L (J b o e hx) G (I.base.free b o e n hx)
  exact⟨Y,S⟩
 ·obtain⟨o',G⟩:=I.base.there b o e hx
  exact free b o' (J b o e hx) G (I.base.free b o e n hx)
 ·obtain⟨o',G⟩:=I.base.there b o e hx
  exact there b o' (J b o e hx) G
 ·obtain⟨m1,G⟩:=I.base.tbls b ps e
  obtain⟨m2,S⟩:=tbls b _ G
  exact⟨m1++m2,by rw[S,Array.append_assoc]⟩
 ·obtain⟨m,hn,hl⟩:=I.loc
  refine⟨m,ns m hn,fun i x v G S e3=>?_⟩
  obtain⟨u,r,l⟩:=hl i x v G S e3
  refine⟨u,r,?_⟩
  rcases l with l | ⟨k,c,e,z⟩
  ·exact .inl l
  ·exact .inr ⟨k,c,e,F x c e _ z⟩
 ·obtain⟨v,z⟩:=I.cell x c e
  exact⟨v,F x c e v z⟩
 ·obtain⟨m,⟨o,_,_,O,_⟩,_⟩:=I.loc
  exact free _ o (fun z=>(D _ z).2.1 rfl) O I.free
 ·obtain⟨v,o,O,hd⟩:=I.cell x c e
  exact free c o (fun z=>(D c z).2.2.1 x c e rfl) O (I.freeC x c e)
 ·obtain⟨e,n,ne,nf,d⟩:=I.pin p hp
  have j:p.1∉ch:=fun z=>(D p.1 z).2.2.2 p hp rfl
  exact⟨keep p.1 p.2 ne nf j e n,free p.1 p.2 j e n,ne,nf,d⟩
theorem Inv.un{t':Nat}(I:Inv X pins σ H s)(u:Un X.fs [] H H' s.heap h')(hok:ou X.prog X.w H' h'):Inv X pins σ H' { s with heap:=h',toks:=t' }:=by
 obtain⟨m,⟨o,es,ep,J,r⟩,_⟩:=id I.loc
 obtain⟨sl,L⟩:=u.any J I.free (by simp)
 exact I.step (g':=s.gens) (d':=s.drawn) (ch:=[]) (fun _ z=>nomatch z) (fun b o _ G _ e n=>u.keep b o e n G (by simp)) (fun b o _ G _ e n=>u.slot b o e n G (by simp)) (fun b o _ e n=>u.free b o e n (by simp)) (fun b o _ e=>u.there b o e (by simp)) u.tups u.frzs u.tbls (fun U O=>by
  obtain⟨o',F,D,j,S⟩:=O
  rw[J]at j;cases j
  exact⟨_,F,D,L,S⟩) hok I.bare
theorem Inv.call{g':Array GenState}{t':Nat}{d':Drawn}{ch:List Addr}(I:Inv X pins σ H s)(u:Un (frs X.stack) ch H H' s.heap h')(hok:ou X.prog X.w H' h')(Z:AllBare g')
  (D:∀b∈ch,(b∈X.ex∨X.s_0.heap.objs.size≤b)∧b≠X.env.locals∧(∀x c,X.env.cells.lookup x=some c→c≠b)∧∀p∈X.pn++pins,p.1≠b) :
  Inv X pins σ H' { s with heap:=h',gens:=g',drawn:=d',toks:=t' }:=by
 obtain⟨m,⟨o,es,ep,O,r⟩,_⟩:=id I.loc
 obtain⟨sl,G⟩:=u.any O I.free fun z=>(D _ z).2.1 rfl
 exact I.step (ch:=ch) D (fun b o G Y j e n=>u.keep b o e n (fun z=>(j'.mp (I.Ew b z)).elim G Y) j) (fun b o _ _ j e n=>u.any e n j) (fun b o j e n=>u.free b o e n j) (fun b o j e=>u.there b o e j) u.tups u.frzs u.tbls (fun m' S=>by
  obtain⟨o',L,J,F,U⟩:=S
  rw[O]at F;cases F
  exact⟨_,L,J,G,U⟩) hok Z
theorem Inv.turned{t':Nat}{it:Addr}(I:Inv X pins σ H s)(k:∀b o,b≠it→s.heap.get? b=some o→h'.get? b=some o)(G:H it=none)(F:it≠X.env.locals)
  (h1:it∈X.ex∨X.s_0.heap.objs.size≤it) (h2:∀x c,X.env.cells.lookup x=some c→c≠it) (O:∀p∈X.pn++pins,p.1≠it):Inv X pins σ H { s with heap:=h',toks:=t' }:=by
 have D:∀b u,H b=some u→b≠it:=fun b u e z=>by rw[z,G]at e;cases e
 refine I.step (g':=s.gens) (d':=s.drawn) (ch:=[it]) (fun b L=>?_) (fun b o _ _ j e _=>k b o (fun z=>j (by simp[z])) e) (fun b o _ _ j e _=>⟨o.slots,k b o (fun z=>j (by simp[z])) e⟩) (fun _ _ _ _ n=>n)
  (fun b o j e=>⟨o,k b o (fun z=>j (by simp[z])) e⟩) (fun _ _ e=>e) (fun _ _ _ e=>e) (fun b ps e=>⟨#[],by rw[e];simp⟩) (fun m J=>?_) (fun b u e=>?_) I.bare
 ·have e:b=it:=by simpa using L
  subst e
  exact⟨h1,F,h2,O⟩
 ·obtain⟨o,es,ep,S,r⟩:=J
  exact⟨o,es,ep,k _ o (Ne.symm F) S,r⟩
 ·refine(I.hok b u e).stay (fun c v j q=>k c v ?_ q) (fun _ q=>q) fun _ _ q=>q
  rcases j with z | z
  ·rw[z];exact D b u e
  ·exact D c _ z
theorem Inv.tok(I:Inv X pins σ H s)(t:Nat):Inv X pins σ H { s with toks:=t }:=I.un (h':=s.heap) (t':=t) Un.refl I.hok
theorem Inv.kept{t':Nat}(I:Inv X pins σ H s)(k:∀b u,s.heap.get? b=some u→h'.get? b=some u):Inv X pins σ H { s with heap:=h',toks:=t' }:=I.un (Un.kept k) (I.hok.kept k)
theorem Inv.laid{a:Addr}{o:HO}{t':Nat}(I:Inv X pins σ H s)(k:∀b u,s.heap.get? b=some u→h'.get? b=some u)(j:s.heap.objs.size≤a)(new:dq X.prog X.w (upd H a o) h' a o) :
  Inv X pins σ (upd H a o) { s with heap:=h',toks:=t' }:=I.un (Un.laid k j (I.hok.fresh j)) (I.hok.laid k j new)
theorem Inv.write{x e:Addr}{o:HO}{t':Nat}(I:Inv X pins σ H s)(D:Zi (H x))(z:e=x∨H e=some (.own x))(k:∀b u,b≠e→s.heap.get? b=some u→h'.get? b=some u)(j:∃u,h'.get? e=some u)
  (new:dq X.prog X.w (upd H x o) h' x o):Inv X pins σ (upd H x o) { s with heap:=h',toks:=t' }:=I.un (Un.write D z k j) (I.hok.write D z k j new)
theorem Inv.weak{σ':List (Option V)}(I:Inv X pins σ H s)(j:σ'.length=σ.length)(w:∀(i:Nat) v,σ'[i]?=some (some v)→σ[i]?=some (some v)):Inv X pins σ' H s :=
 ⟨I.ok,I.os,I.bare,I.base,let⟨m,hn,hl'⟩:=I.loc;⟨m,hn,fun i x v D z F=>hl' i x v D (w i v z) F⟩,I.cell,I.free,I.freeC,I.pin,I.hok,j.trans I.len⟩
theorem Inv.IK{j:List (Addr×Obj)}(I:Inv X pins σ H s)(h:∀p∈j,s.heap.get? p.1=some p.2∧H p.1=none∧p.1≠X.env.locals∧p.1∉X.fs∧∀v,p.2.data≠.cell v):Inv X j σ H s :=
 ⟨I.ok,I.os,I.bare,I.base,I.loc,I.cell,I.free,I.freeC,fun p D=>(List.mem_append.mp D).elim (fun z=>I.pin p (List.mem_append_left _ z)) (h p),I.hok,I.len⟩
theorem vZ{N:List Str}(F:N.Nodup){i j:Nat}{x:Str}(a:N[i]?=some x)(b:N[j]?=some x):i=j:=by
 obtain⟨h1,D⟩:=lf.mp a
 obtain⟨h2,z⟩:=lf.mp b
 exact(List.getElem_inj F).mp (D.trans z.symm)
theorem yg{M:Model}{A:Around}{E:Value→Shared→Prop}{i:Nat}{x:Str}{v:V}{u:Value}{Q:Unit→Shared→Prop}(I:Inv X pins σ H s)(hN:X.N.Nodup)(hi:X.N[i]?=some x)(hx:Loc X.env.scope x)(r:RelV v u)
  (h:∀s',Inv X pins (σ.set i (some v)) H s'→(∃a,Heap.SameBut a s.heap s'.heap∧(a=X.env.locals∨X.env.cells.lookup x=some a))→Q () s') (hf:X.fn x=true∨X.env.scope.names.lookup x=some .local:=by first | exact .inl rfl | exact .inr rfl | assumption):wpAny M A (storeName X.env x u) Q E s:=by
 obtain⟨m,hn,hl⟩:=id I.loc
 have ah:(X.env.scope.kind==.class||(X.env.scope.kind==.module&&X.env.locals != X.env.globals))=false:=by rw[I.ok.kind];rfl
 have hiσ:i<σ.length:=by rw[I.len];exact(lf.mp hi).1
 have Vw:=I.Vw
 have G:∀{a:Addr}{h':Heap},(∃o,s.heap.get? a=some o∧H a=none)→Heap.SameBut a s.heap h'→ou X.prog X.w H h':=fun{a h'} ha D b ob e=>by
  obtain⟨_,_,L⟩:=ha
  refine(I.hok b ob e).stay (fun c w' J q=>(D.2 c ?_).trans q) (fun _ q=>q) fun _ _ q=>q
  rintro rfl
  rcases J with rfl | J
  ·rw[L]at e;cases e
  ·rw[L]at J;cases J
 rcases hx with S | S
 ·refine wpAny_storeName_local S hn (fun h' ai D=>?_) ah
  obtain⟨oL,_,_,al,_⟩:=id hn
  refine h _ ⟨I.ok,I.os,I.bare,⟨fun b o e n Y hx=>?_,fun b o e n Y hx=>?_,I.base.free,fun b o e hx=>?_,I.base.tups,I.base.frzs,I.base.tbls⟩,⟨_,ai,fun j y v' F O e3=>?_⟩,fun y c e=>?_,I.free,I.freeC,fun p hp=>?_,G ⟨oL,al,I.free⟩ D,by simpa using I.len⟩ ⟨_,D,.inl rfl⟩
  ·exact(D.2 b (md (lm (Heap.lt_size e) I.ok.above))).trans (I.base.keep b o e n Y hx)
  ·obtain⟨sl,F⟩:=I.base.slot b o e n Y hx
   exact⟨sl,(D.2 b (md (lm (Heap.lt_size e) I.ok.above))).trans F⟩
  ·obtain⟨o',F⟩:=I.base.there b o e hx
   exact⟨o',(D.2 b (md (lm (Heap.lt_size e) I.ok.above))).trans F⟩
  ·by_cases U:j=i
   ·subst U
    rw[hi]at F;cases F
    rw[List.getElem?_set_self hiσ]at O
    cases O
    exact⟨u,r,.inl ⟨S,by simp⟩⟩
   ·rw[List.getElem?_set_ne (Ne.symm U)]at O
    obtain⟨u',r',q⟩:=hl j y v' F O e3
    refine⟨u',r',?_⟩
    rcases q with⟨k,e⟩ | ⟨k,c,e,z⟩
    ·refine .inl ⟨k,?_⟩
     have:y≠x:=fun e=>U (vZ hN F (e▸hi))
     simp[this,e]
    ·exact .inr ⟨k,c,e,z.sameBut D (Vw y c e)⟩
  ·obtain⟨w',z⟩:=I.cell y c e
   exact⟨w',z.sameBut D (Vw y c e)⟩
  ·obtain⟨e,n,ne,nf,d⟩:=I.pin p hp
   exact⟨(D.2 p.1 ne).trans e,n,ne,nf,d⟩
 ·have Z:X.fn x=true:=by
   rcases hf with z | z
   ·exact z
   ·rw[z]at S;cases S
  obtain⟨c,J⟩:=I.ok.has x (.inl S)
  obtain⟨w',z⟩:=I.cell x c J
  refine wpAny_storeName_cell I.ok.kind S J z (fun h' ae D=>?_)
  obtain⟨oc,ac,ag⟩:=id z
  refine h { s with heap:=h' } ⟨I.ok,I.os,I.bare,⟨fun b o e n Y hx=>?_,fun b o e n Y hx=>?_,I.base.free,fun b o e hx=>?_,I.base.tups,I.base.frzs,I.base.tbls⟩,⟨m,hn.sameBut D (Ne.symm (Vw x c J)),fun j y v' F O e3=>?_⟩,fun y c' e=>?_,I.free,I.freeC,fun p hp=>?_,G ⟨oc,ac,I.freeC x c J⟩ D,by simpa using I.len⟩ ⟨c,D,.inr J⟩
  ·exact(D.2 b (md (lm (Heap.lt_size e) (I.ok.cab x c Z J)))).trans (I.base.keep b o e n Y hx)
  ·obtain⟨sl,F⟩:=I.base.slot b o e n Y hx
   exact⟨sl,(D.2 b (md (lm (Heap.lt_size e) (I.ok.cab x c Z J)))).trans F⟩
  ·obtain⟨o',F⟩:=I.base.there b o e hx
   exact⟨o',(D.2 b (md (lm (Heap.lt_size e) (I.ok.cab x c Z J)))).trans F⟩
  ·by_cases U:j=i
   ·subst U
    rw[hi]at F;cases F
    rw[List.getElem?_set_self hiσ]at O
    cases O
    exact⟨u,r,.inr ⟨.inl S,c,J,ae⟩⟩
   ·rw[List.getElem?_set_ne (Ne.symm U)]at O
    obtain⟨u',r',q⟩:=hl j y v' F O e3
    refine⟨u',r',?_⟩
    rcases q with q | ⟨k,c',e,z'⟩
    ·exact .inl q
    ·refine .inr ⟨k,c',e,z'.sameBut D ?_⟩
     rintro rfl
     exact U (vZ hN F (I.ok.inj _ _ _ e J▸hi))
  ·by_cases af:c'=c
   ·subst af;exact⟨_,ae⟩
   ·obtain⟨w2,z2⟩:=I.cell y c' e
    exact⟨w2,z2.sameBut D af⟩
  ·obtain⟨e,n,ne,nf,d⟩:=I.pin p hp
   refine⟨(D.2 p.1 ?_).trans e,n,ne,nf,d⟩
   intro q
   rw[q,ac]at e
   have q':oc=p.2:=Option.some.inj e
   exact d w' (by rw[←q'];exact ag)
theorem pJ{M:Model}{A:Around}{E:Value→Shared→Prop}{i:Nat}{x:Str}{v:V}{u:Value}{Q:Unit→Shared→Prop}(I:Inv X pins σ H s)(D:X.N.Nodup)(hi:X.N[i]?=some x)(hx:Loc X.env.scope x)(r:RelV v u)
  (h:∀s',Inv X pins (σ.set i (some v)) H s'→Q () s') (j:X.fn x=true∨X.env.scope.names.lookup x=some .local:=by first | exact .inl rfl | exact .inr rfl | assumption):wpAny M A (storeName X.env x u) Q E s :=
 yg I D hi hx r (fun s' z _=>h s' z) j
theorem Inv.call'{s':Shared}{ch:List Addr}(I:Inv X pins σ H s)(z:s'.os=s.os)(u:Un (frs X.stack) ch H H' s.heap s'.heap)(hok:ou X.prog X.w H' s'.heap)(D:AllBare s'.gens)
  (j:∀b∈ch,(b∈X.ex∨X.s_0.heap.objs.size≤b)∧b≠X.env.locals∧(∀x c,X.env.cells.lookup x=some c→c≠b)∧∀p∈X.pn++pins,p.1≠b):Inv X pins σ H' s':=by
 obtain⟨h',g',d',t',o'⟩:=s'
 have e:o'=s.os:=z
 subst e
 exact I.call (g':=g') (t':=t') (d':=d') u hok D j
end
noncomputable abbrev XK:=Value→Option Addr→Hp→Prop
noncomputable abbrev St:=List (Option V)
noncomputable abbrev VK:=V→Hp→Prop
noncomputable abbrev TE:=St→Hp→VK→Prop
noncomputable abbrev TT:=St→Hp→(Bool→Hp→Prop)→Prop
noncomputable abbrev TA:=St→Hp→(List V→Hp→Prop)→Prop
structure Ends where
 nx:St→Hp→Prop
 rt:VK
 bk:St→Hp→Prop:=fun _ _=>False
 ct:St→Hp→Prop:=fun _ _=>False
noncomputable abbrev TS:=Ends→St→Hp→Prop
noncomputable def EP(X:Cx)(pins:List (Addr×Obj))(σ:St)(Q:VK)(u:Value)(s':Shared):Prop:=∃v H',Inv X pins σ H' s'∧RelV v u∧Q v H'
noncomputable def TP(X:Cx)(pins:List (Addr×Obj))(σ:St)(Q:Bool→Hp→Prop)(b:Bool)(s':Shared):Prop:=∃H',Inv X pins σ H' s'∧Q b H'
noncomputable def AP(X:Cx)(pins:List (Addr×Obj))(σ:St)(Q:List V→Hp→Prop)(us:List Value)(s':Shared):Prop:=∃vs H',Inv X pins σ H' s'∧Vals vs us∧Q vs H'
noncomputable def SP(X:Cx)(pins:List (Addr×Obj))(D:Ends)(f:Flow)(s':Shared):Prop :=
 match f with
 | .next=>∃σ' H',Inv X pins σ' H' s'∧D.nx σ' H'
 | .brk=>∃σ' H',Inv X pins σ' H' s'∧D.bk σ' H'
 | .cont=>∃σ' H',Inv X pins σ' H' s'∧D.ct σ' H'
 | .ret u=>∃v σ' H',Inv X pins σ' H' s'∧RelV v u∧D.rt v H'
noncomputable def PE(X:Cx)(e:Expr)(t:TE):Prop :=
 ∀(pins:List (Addr×Obj))(s:Shared)(σ:St)(H:Hp)(Q:VK),Inv X pins σ H s→t σ H Q→wpAny (model X.prog X.w) X.A (eval e X.env) (EP X pins σ Q) X.xe s
noncomputable def PT(X:Cx)(e:Expr)(t:TT):Prop :=
 ∀(pins:List (Addr×Obj))(s:Shared)(σ:St)(H:Hp)(Q:Bool→Hp→Prop),Inv X pins σ H s→t σ H Q→wpAny (model X.prog X.w) X.A (isTrue e X.env (eval e X.env)) (TP X pins σ Q) X.xe s
noncomputable def PW(X:Cx)(e:Expr)(t:TT):Prop :=
 ∀(whole:Sem Value)(pins:List (Addr×Obj))(s:Shared)(σ:St)(H:Hp)(Q:Bool→Hp→Prop),Inv X pins σ H s→t σ H Q→wpAny (model X.prog X.w) X.A (isTrue e X.env whole) (TP X pins σ Q) X.xe s
theorem PW.pt{X:Cx}{e:Expr}{t:TT}(h:PW X e t):PT X e t:=h _
noncomputable def PA(X:Cx)(es:List Expr)(t:TA):Prop :=
 ∀(pos:Pos)(pins:List (Addr×Obj))(s:Shared)(σ:St)(H:Hp)(Q:List V→Hp→Prop),Inv X pins σ H s→t σ H Q→wpAny (model X.prog X.w) X.A (spliced (backTo pos (starEach es X.env))) (AP X pins σ Q) X.xe s
noncomputable def PS(X:Cx)(st:Stmt)(t:TS):Prop :=
 ∀(pins:List (Addr×Obj))(s:Shared)(σ:St)(H:Hp)(D:Ends),Inv X pins σ H s→t D σ H→wpAny (model X.prog X.w) X.A (exec st X.env) (SP X pins D) X.xe s
noncomputable def M4(X:Cx)(st:List Stmt)(t:TS):Prop :=
 ∀(pins:List (Addr×Obj))(s:Shared)(σ:St)(H:Hp)(D:Ends),Inv X pins σ H s→t D σ H→wpAny (model X.prog X.w) X.A (execs st X.env) (SP X pins D) X.xe s
theorem cW{α:Type}{t:Sem α}{Q j:α→Shared→Prop}{M:Model}{A:Around}{E:Value→Shared→Prop}{s:Shared}(h:wpAny M A t Q E s)(z:∀a s,Q a s→j a s):wpAny M A t j E s:=wpAny_mono h z fun _ _ x=>x
end L2
namespace L2
open PySem PySem.Spec PyProof.Rows
section
variable {X:Cx}
noncomputable def jB(i:Nat):TE:=fun σ H Q=>∃v,σ[i]?=some (some v)∧Q v H
noncomputable def tC(v:V):TE:=fun _ H Q=>Q v H
theorem Pz{i:Nat}{x:Str}{pos:Pos}(L:X.N[i]?=some x)(S:XN X.env.scope x)(hd:(x==("__debug__" : Str))=false:=by decide)(D:(x==("__classdict__" : Str))=false:=by decide):PE X (.Name x pos) (jB i):=by
 intro pins s σ H Q I h
 obtain⟨v,e,h⟩:=h
 obtain⟨m,J,G⟩:=I.loc
 obtain⟨u,r,l⟩:=G i x v L e S
 have fin:EP X pins σ Q u s:=⟨v,H,I,r,h⟩
 rcases l with⟨z,O⟩ | ⟨z,c,F,j⟩
 ·exact wpAny_Name (wpAny_loadName_local I.ok.kind z J O fin) hd
 ·rcases z with z | z
  ·exact wpAny_Name (wpAny_loadName_cell I.ok.kind z F j fin) hd
  ·exact wpAny_Name (wpAny_loadName_free I.ok.kind z F j fin D) hd
theorem ao{i j pos}:PE X (.Constant (.int i) j pos) (tC (.int i)):=fun _ _ _ H _ I h=>wpAny_Constant_int ⟨.int i,H,I.tok _,⟨_,rfl⟩,h⟩
theorem Vs{b j pos}:PE X (.Constant (.bool b) j pos) (tC (.bl b)):=fun _ _ _ H _ I h=>Constant_bool ⟨.bl b,H,I,rfl,h⟩
theorem oW{j pos}:PE X (.Constant .none j pos) (tC .non):=fun _ _ _ H _ I h=>Constant_none ⟨.non,H,I,rfl,h⟩
theorem gJ{x j pos}:PE X (.Constant (.str x) j pos) (tC (.str x)):=fun _ _ _ H _ I h=>Calls.Constant_str ⟨.str x,H,I.tok _,⟨_,rfl⟩,h⟩
noncomputable def Gl(X:Cx)(x:Str):Prop:=X.env.kindOf x=some .globalImplicit
theorem jQ{E:Value→Shared→Prop}{pins:List (Addr×Obj)}{s:Shared}{σ:St}{H:Hp}{x:Str}{u:Value}{pos:Pos}{Q:Value→Shared→Prop}(I:Inv X pins σ H s)(z:Gl X x)(j:X.mg x=some u)(h:Q u s)
  (hd:(x==("__debug__" : Str))=false:=by decide):wpAny (model X.prog X.w) X.A (eval (.Name x pos) X.env) Q E s :=
 Calls.Name_function_global I.ok.kind z (Calls.loadGlobal_global (by rw[I.ok.glob];exact I.mod.glob.keeps I.bk) j h) hd
theorem o4{E:Value→Shared→Prop}{pins:List (Addr×Obj)}{s:Shared}{σ:St}{H:Hp}{x:Str}{u:Value}{pos:Pos}{Q:Value→Shared→Prop}(I:Inv X pins σ H s)(F:Gl X x)(D:X.mg x=none)(z:bootBuiltins x=some u)(h:Q u s)
  (j:x ≠ "__name__":=by decide) (hd:(x==("__debug__" : Str))=false:=by decide):wpAny (model X.prog X.w) X.A (eval (.Name x pos) X.env) Q E s:=by
 obtain⟨mb,h1,h2⟩:=I.mod.blt
 exact Calls.Name_function_global I.ok.kind F (Calls.loadGlobal_builtin (by rw[I.ok.glob];exact I.mod.glob.keeps I.bk) D (by rw[I.ok.blt];exact h1.keeps I.bk) ((h2 x j).trans z) h) hd
theorem eU{x:Str}{v:V}{u:Value}{pos:Pos}(z:Gl X x)(j:X.mg x=some u)(r:RelV v u)(hd:(x==("__debug__" : Str))=false:=by decide):PE X (.Name x pos) (tC v) :=
 fun _ _ _ H _ I h=>jQ I z j ⟨v,H,I,r,h⟩ hd
variable {a b:Expr} {ta tb:TE} {pos:Pos}
noncomputable def PC(X:Cx)(op:CmpOp)(a b:Expr)(t:TE):Prop :=
 ∀(pins:List (Addr×Obj))(s:Shared)(σ:St)(H:Hp)(Q:VK),Inv X pins σ H s→t σ H Q →
  wpAny (model X.prog X.w) X.A (eval a X.env) (fun v s₁=>wpAny (model X.prog X.w) X.A (eval b X.env) (fun u s₂=>wpAny (model X.prog X.w) X.A (compareOp op v u) (EP X pins σ Q) X.xe s₂) X.xe s₁) X.xe s
theorem Cv(b:Expr){op:CmpOp}(h:op≠.In)(h2:op≠.NotIn):behindInMarks op b=false:=by
 have z:(op==CmpOp.In)=false:=by cases op<;>first | rfl | exact absurd rfl h
 have j:(op==CmpOp.NotIn)=false:=by cases op<;>first | rfl | exact absurd rfl h2
 cases b<;>simp[behindInMarks,z,j]
noncomputable def Bc(ta:TE):TE:=fun σ H Q=>ta σ H fun x H1=>Q (.bl (decide (x=.non))) H1
noncomputable def X5(ta:TE):TE:=fun σ H Q=>ta σ H fun x H1=>Q (.bl (!decide (x=.non))) H1
theorem RelV.Cu{x:V}{v:Value}(r:RelV x v):(v==Value.none)=decide (x=.non):=by
 cases x with
 | non=>cases r;rfl
 | bl _=>cases r;rfl
 | int _=>obtain⟨t,rfl⟩:=r;rfl
 | str _=>obtain⟨t,rfl⟩:=r;rfl
 | byt _=>obtain⟨t,rfl⟩:=r;rfl
 | flt _=>obtain⟨t,rfl⟩:=r;rfl
 | ref _=>cases r;rfl
 | ty _=>cases r;rfl
theorem lU{j pos'}(z:PE X a ta):PC X .Is a (.Constant .none j pos') (Bc ta):=by
 intro pins s σ H Q I h
 refine cW (z pins s σ H _ I h) fun v s1 ⟨x,H1,D,F,G⟩=>?_
 exact Constant_none (is_none_gen ⟨.bl _,H1,D,by rw[F.Cu];rfl,G⟩)
theorem SQ{j pos'}(z:PE X a ta):PC X .IsNot a (.Constant .none j pos') (X5 ta):=by
 intro pins s σ H Q I h
 refine cW (z pins s σ H _ I h) fun v s1 ⟨x,H1,D,F,G⟩=>?_
 exact Constant_none (isnot_none_gen ⟨.bl _,H1,D,by rw[F.Cu];rfl,G⟩)
noncomputable def tB(t:TE):TT:=fun σ H Q=>t σ H fun x H1=>∃c,x=.bl c∧Q c H1
theorem Ww{op:CmpOp}{t:TE}(h:PC X op a b t)(h1:behindInMarks op b=false:=by first | exact Cv _ (by decide) (by decide) | rfl):PE X (.Compare a [op] [b] pos) t:=fun pins s σ H Q I hw=>wpAny_Compare1 (h pins s σ H Q I hw) h1
theorem jM{op:CmpOp}{t:TE}(h:PC X op a b t)(h1:behindInMarks op b=false:=by first | exact Cv _ (by decide) (by decide) | rfl):PT X (.Compare a [op] [b] pos) (tB t):=by
 intro pins s σ H Q I hw
 refine wpAny_isTrue_Compare1 (cW (h pins s σ H _ I hw) fun v s1 h1=>cW h1 fun u s2 h2=>cW h2 fun c F ⟨x,H1,z,D,j⟩=>?_) h1
 obtain⟨d,rfl,q⟩:=j
 cases D
 exact wpAny_truthy_bool ⟨H1,z,q⟩
theorem fc{e:Expr}{t:TE}(h:PE X e t)(z:∀whole,isTrue e X.env whole=(do let v ←whole;standAt e.pos;holding [v] (truthy v)):=by intro _;rfl):PT X e (tB t):=by
 intro pins s σ H Q I hw
 refine isTrue_plain (cW (h pins s σ H _ I hw) fun v s1 ⟨x,H1,D,F,j⟩=>?_) (z _)
 obtain⟨d,rfl,q⟩:=j
 cases F
 exact wpAny_truthy_bool ⟨H1,D,q⟩
variable {tA tB':TT} {rest:List Expr}
noncomputable def Et(t u:TT):TT:=fun σ H Q=>t σ H fun c H1=>if c=true then u σ H1 Q else Q false H1
noncomputable def VR(t u:TT):TT:=fun σ H Q=>t σ H fun c H1=>if c=true then Q true H1 else u σ H1 Q
noncomputable def Er(t:TT):TT:=fun σ H Q=>t σ H fun c H1=>Q (!c) H1
theorem dX(j:PT X a tA):PW X (.BoolOp .And [a] pos) tA:=by
 intro z pins s σ H Q I h
 refine isTrue_and (cW (j pins s σ H Q I h) fun c s1 e=>?_)
 cases c with
 | true=>exact isTrue_and_nil e
 | false=>exact e
theorem jL(j:PT X a tA):PW X (.BoolOp .Or [a] pos) tA:=by
 intro z pins s σ H Q I h
 refine isTrue_or (cW (j pins s σ H Q I h) fun c s1 e=>?_)
 cases c with
 | false=>exact isTrue_or_nil e
 | true=>exact e
theorem gb(G:PT X a tA)(F:PW X (.BoolOp .And (b::rest) pos) tB'):PW X (.BoolOp .And (a::b::rest) pos) (Et tA tB'):=by
 intro D pins s σ H Q I h
 refine isTrue_and (cW (G pins s σ H _ I h) fun c s1 ⟨H1,z,j⟩=>?_)
 cases c with
 | true=>exact F D pins s1 σ H1 Q z j
 | false=>exact⟨H1,z,j⟩
theorem lL(G:PT X a tA)(F:PW X (.BoolOp .Or (b::rest) pos) tB'):PW X (.BoolOp .Or (a::b::rest) pos) (VR tA tB'):=by
 intro D pins s σ H Q I h
 refine isTrue_or (cW (G pins s σ H _ I h) fun c s1 ⟨H1,z,j⟩=>?_)
 cases c with
 | true=>exact⟨H1,z,j⟩
 | false=>exact F D pins s1 σ H1 Q z j
theorem iC(j:PT X a tA):PT X (.UnaryOp .Not a pos) (Er tA):=by
 intro pins s σ H Q I h
 exact isTrue_not (j pins s σ H (fun c H1=>Q (!c) H1) I h)
noncomputable def u6(ta tb:TE):TE:=fun σ H Q=>ta σ H fun x H1=>∃c,x=.bl c∧if c=true then tb σ H1 Q else Q (.bl false) H1
noncomputable def Ep(ta tb:TE):TE:=fun σ H Q=>ta σ H fun x H1=>∃c,x=.bl c∧if c=true then Q (.bl true) H1 else tb σ H1 Q
noncomputable def ye(ta:TE):TE:=fun σ H Q=>ta σ H fun x H1=>∃c,x=.bl c∧Q (.bl (!c)) H1
theorem oV{op}{t:TE}(h:PE X a t):PE X (.BoolOp op [a] pos) t:=fun pins s σ H Q I hw=>BoolOp_one (h pins s σ H Q I hw)
theorem rK(F:PE X a ta)(D:PE X (.BoolOp .And (b::rest) pos) tb):PE X (.BoolOp .And (a::b::rest) pos) (u6 ta tb):=by
 intro pins s σ H Q I h
 refine BoolOp_and (cW (F pins s σ H _ I h) fun v s1 ⟨x,H1,z,G,j⟩=>?_)
 obtain⟨c,rfl,j⟩:=j
 cases G
 refine wpAny_truthy_bool ?_
 cases c with
 | true=>exact D pins s1 σ H1 Q z j
 | false=>exact⟨.bl false,H1,z,rfl,j⟩
theorem Yr(F:PE X a ta)(D:PE X (.BoolOp .Or (b::rest) pos) tb):PE X (.BoolOp .Or (a::b::rest) pos) (Ep ta tb):=by
 intro pins s σ H Q I h
 refine BoolOp_or (cW (F pins s σ H _ I h) fun v s1 ⟨x,H1,z,G,j⟩=>?_)
 obtain⟨c,rfl,j⟩:=j
 cases G
 refine wpAny_truthy_bool ?_
 cases c with
 | false=>exact D pins s1 σ H1 Q z j
 | true=>exact⟨.bl true,H1,z,rfl,j⟩
noncomputable def Vg(t:TT)(ta tb:TE):TE:=fun σ H Q=>t σ H fun c H1=>if c=true then ta σ H1 Q else tb σ H1 Q
theorem eF{c:Expr}(F:PT X c tA)(D:PE X a ta)(G:PE X b tb):PE X (.IfExp c a b pos) (Vg tA ta tb):=by
 intro pins s σ H Q I h
 refine wpAny_IfExp (cW (F pins s σ H _ I h) fun d s1 ⟨H1,j,z⟩=>?_)
 cases d with
 | true=>exact D pins s1 σ H1 Q j z
 | false=>exact G pins s1 σ H1 Q j z
end
end L2
namespace L2
open PySem PySem.Spec PyProof.Rows
noncomputable def bF(K:PySem.W.Frag)(H:Hp)(a:Addr)(xs:List V):Prop :=
 Rd H a (.lst xs) ∨
  ∃(o:Obj)(its:Array Value)(n:Nat),K.lookup a=some o∧o.cls=.type "list"∧o.dict=none∧o.data=.seq its n∧its.size≤sizeLine∧Vals xs its.toList
noncomputable def bN(K:PySem.W.Frag)(H:Hp)(a:Addr)(xs:List V):Prop :=
 Rd H a (.tup xs) ∨
  ∃(o:Obj)(its:Array Value)(n:Nat),K.lookup a=some o∧o.cls=.type "tuple"∧o.data=.seq its n∧its.size≤sizeLine∧Vals xs its.toList
noncomputable def Z_:Value→Option V
 | .none=>some .non
 | .bool b=>some (.bl b)
 | .int i _=>some (.int i)
 | .str x _=>some (.str x)
 | .bytes b _=>some (.byt b)
 | .float b _=>some (.flt b)
 | .ref a=>some (.ref a)
 | .type n=>some (.ty n)
 | _=>none
theorem RelV.abs{x:V}{u:Value}(r:RelV x u):Z_ u=some x:=by
 cases x with
 | non=>cases r;rfl
 | bl _=>cases r;rfl
 | int _=>obtain⟨t,rfl⟩:=r;rfl
 | str _=>obtain⟨t,rfl⟩:=r;rfl
 | byt _=>obtain⟨t,rfl⟩:=r;rfl
 | flt _=>obtain⟨t,rfl⟩:=r;rfl
 | ref _=>cases r;rfl
 | ty _=>cases r;rfl
theorem RelV.inj{x y:V}{u:Value}(r:RelV x u)(q:RelV y u):x=y:=Option.some.inj (r.abs.symm.trans q.abs)
theorem Vals.inj:∀{xs ys:List V}{us:List Value},Vals xs us→Vals ys us→xs=ys
 | _,_,_,.nil,.nil=>rfl
 | _,_,_,.cons r t,.cons j t'=>by rw[r.inj j,Vals.inj t t']
section
variable {X:Cx} {pins:List (Addr×Obj)} {σ:St} {H:Hp} {s:Shared} {a:Addr} {xs ys:List V}
theorem bF.of{K:PySem.W.Frag}(h:H a=some (.lst xs)):bF K H a xs:=.inl (.inl h)
theorem bN.of{K:PySem.W.Frag}(h:H a=some (.tup xs)):bN K H a xs:=.inl (.inl h)
theorem Inv.list(I:Inv X pins σ H s)(h:bF X.K H a xs):∃its:List Value,Vals xs its∧PlainL s.heap a its.toArray∧xs.length≤sizeLine:=by
 rcases h with h | ⟨o,its,n,F,D,hd,j,hz,r⟩
 ·obtain⟨z,its,n,r,e⟩:=h.ok I.hok
  exact⟨its,r,⟨_,n,e,rfl,rfl,rfl⟩,z⟩
 ·refine⟨its.toList,r,⟨o,n,I.o5 a o F,D,hd,by simpa using j⟩,?_⟩
  have e:=r.length
  simp only[Array.length_toList]at e
  lia
theorem Inv.tuple(I:Inv X pins σ H s)(h:bN X.K H a xs):∃its:List Value,Vals xs its∧IsTup s.heap a its.toArray∧xs.length≤sizeLine:=by
 rcases h with h | ⟨o,its,n,F,D,j,hz,r⟩
 ·obtain⟨z,its,r,p⟩:=h.ok I.hok
  exact⟨its,r,p,z⟩
 ·refine⟨its.toList,r,⟨o,I.o5 a o F,D,n,by simpa using j⟩,?_⟩
  have e:=r.length
  simp only[Array.length_toList]at e
  lia
theorem Inv.qw(I:Inv X pins σ H s)(h:bF X.K H a xs)(h':bF X.K H a ys):xs=ys:=by
 obtain⟨its,r,⟨o,n,e,_,_,d⟩,_⟩:=I.list h
 obtain⟨its',z,⟨o',D,j,_,_,d'⟩,_⟩:=I.list h'
 rw[e]at j;cases j
 rw[d]at d'
 injection d' with d1 _
 have:its=its':=by simpa using congrArg Array.toList d1
 subst this
 exact r.inj z
theorem Inv.J1(I:Inv X pins σ H s)(h:bN X.K H a xs)(h':bN X.K H a ys):xs=ys:=by
 obtain⟨its,r,⟨o,e,_,n,d⟩,_⟩:=I.tuple h
 obtain⟨its',z,⟨o',j,_,D,d'⟩,_⟩:=I.tuple h'
 rw[e]at j;cases j
 rw[d]at d'
 injection d' with d1 _
 have:its=its':=by simpa using congrArg Array.toList d1
 subst this
 exact r.inj z
end
section
variable {X:Cx} {pins:List (Addr×Obj)} {σ:St} {H:Hp} {s:Shared} {E:Value→Shared→Prop}
end
section
variable {X:Cx} {st:Stmt} {rest:List Stmt} {t u:TS} {e:Expr} {te:TE} {pos:Pos}
noncomputable def uZ:TS:=fun D σ H=>D.nx σ H
noncomputable def Eo(t u:TS):TS:=fun D σ H=>t { D with nx:=u D } σ H
theorem aF:M4 X [] uZ:=fun _ _ σ H _ I h=>wpAny_execs_nil ⟨σ,H,I,h⟩
theorem aj(h1:PS X st t)(h2:M4 X rest u):M4 X (st::rest) (Eo t u):=by
 intro pins s σ H D I h
 refine wpAny_execs_cons (cW (h1 pins s σ H { D with nx:=u D } I h) fun f s1 q=>?_)
 cases f with
 | next =>
  obtain⟨σ',H',j,q⟩:=q
  exact h2 pins s1 σ' H' D j q
 | ret v=>exact q
 | brk=>exact q
 | cont=>exact q
theorem ak(h1:PS X st t):M4 X [st] t:=by
 intro pins s σ H D I h
 refine wpAny_execs_cons (cW (h1 pins s σ H D I h) fun f s1 q=>?_)
 cases f with
 | next=>exact wpAny_execs_nil q
 | ret v=>exact q
 | brk=>exact q
 | cont=>exact q
theorem Inv.quiet{pins:List (Addr×Obj)}{σ:St}{H:Hp}{s:Shared}(I:Inv X pins σ H s):interactive X.env=false:=by simp[interactive,I.ok.kind]
noncomputable def u5(te:TE):TS:=fun D σ H=>te σ H fun _ H1=>D.nx σ H1
theorem bQ(z:PE X e te)(j:swapsWith e none pos.line X.env=pure false:=by rfl):PS X (.Expr e pos) (u5 te):=by
 intro pins s σ H D I h
 exact wpAny_Expr_any (cW (z pins s σ H _ I h) fun v s1 ⟨x,H1,F,J,G⟩=>⟨σ,H1,F,G⟩) I.quiet j
noncomputable def Bb(te:TE):TS:=fun D σ H=>te σ H D.rt
theorem aB(j:PE X e te):PS X (.Return (some e) pos) (Bb te):=by
 intro pins s σ H D I h
 exact wpAny_Return_some (cW (j pins s σ H _ I h) fun v s1 ⟨x,H1,z,F,G⟩=>⟨x,σ,H1,z,F,G⟩)
noncomputable def yd:TS:=fun D _ H=>D.rt .non H
noncomputable def Be(c:TT)(t u:TS):TS:=fun D σ H=>c σ H fun b H1=>if b=true then t D σ H1 else u D σ H1
theorem aR{c:Expr}{a b:List Stmt}{tc:TT}(F:PT X c tc)(J:M4 X a t)(G:M4 X b u):PS X (.If c a b pos) (Be tc t u):=by
 intro pins s σ H D I h
 refine wpAny_If (cW (F pins s σ H _ I h) fun d s1 ⟨H1,z,j⟩=>?_)
 cases d with
 | true=>exact J pins s1 σ H1 D z j
 | false=>exact G pins s1 σ H1 D z j
end
noncomputable abbrev TG:=V→St→Hp→(St→Hp→Prop)→Prop
noncomputable abbrev Xr:=List V→St→Hp→(St→Hp→Prop)→Prop
noncomputable def PG(X:Cx)(target:Expr)(t:TG):Prop :=
 ∀(pins:List (Addr×Obj))(s:Shared)(σ:St)(H:Hp)(v:V)(u:Value)(Q:St→Hp→Prop),Inv X pins σ H s→RelV v u→t v σ H Q →
  wpAny (model X.prog X.w) X.A (assign target X.env u) (fun _ s'=>∃σ' H',Inv X pins σ' H' s'∧Q σ' H') X.xe s
noncomputable def Zh(X:Cx)(ts:List Expr)(t:Xr):Prop :=
 ∀(pins:List (Addr×Obj))(s:Shared)(σ:St)(H:Hp)(vs:List V)(us:List Value)(Q:St→Hp→Prop),Inv X pins σ H s→Vals vs us→t vs σ H Q →
  wpAny (model X.prog X.w) X.A (assignInOrder ((assignEach ts X.env).map (·.2)) us) (fun _ s'=>∃σ' H',Inv X pins σ' H' s'∧Q σ' H') X.xe s
noncomputable abbrev Y0:=V→V→Hp→VK→Prop
noncomputable def PIp(X:Cx)(op:Operator)(t:Y0):Prop :=
 ∀(pins:List (Addr×Obj))(s:Shared)(σ:St)(H:Hp)(x y:V)(v u:Value)(Q:VK),Inv X pins σ H s→RelV x v→RelV y u→t x y H Q →
  wpAny (model X.prog X.w) X.A (inplaceOp op v u) (EP X pins σ Q) X.xe s
section
variable {X:Cx} {pos:Pos}
noncomputable def oF(i:Nat):TG:=fun v σ H Q=>Q (σ.set i (some v)) H
theorem bT{i:Nat}{x:Str}(D:X.N.Nodup)(hi:X.N[i]?=some x)(hx:Loc X.env.scope x)(j:X.fn x=true∨X.env.scope.names.lookup x=some .local:=by first | exact .inl rfl | exact .inr rfl | assumption):PG X (.Name x pos) (oF i):=by
 intro pins s σ H v u Q I r h
 exact wpAny_assign_Name (pJ I D hi hx r (fun s' z=>⟨_,H,z,h⟩) j)
noncomputable def Z6:Xr:=fun vs σ H Q=>vs=[]∧Q σ H
noncomputable def YQ(t:TG)(u:Xr):Xr:=fun vs σ H Q=>∃v r,vs=v::r∧t v σ H fun σ' H'=>u r σ' H' Q
theorem qj:Zh X [] Z6:=by
 intro pins s σ H vs us Q I r h
 obtain⟨e,h⟩:=h
 subst e
 cases r
 exact assignInOrder_nil ⟨σ,H,I,h⟩
theorem dg{e:Expr}{es:List Expr}{t:TG}{u:Xr}(h1:PG X e t)(h2:Zh X es u)
  (F:(assignEach (e::es) X.env).map (·.2)=assign e X.env::(assignEach es X.env).map (·.2):=by rfl):Zh X (e::es) (YQ t u):=by
 intro pins s σ H vs us Q I r h
 obtain⟨v,J,j,h⟩:=h
 subst j
 cases r with
 | cons r z =>
  rw[F]
  refine assignInOrder_cons (cW (h1 pins s σ H _ _ _ I r h) fun _ s1 ⟨σ1,H1,G,D⟩=>?_)
  exact h2 pins s1 σ1 H1 _ _ Q G z D
noncomputable def Z4(K:PySem.W.Frag)(n:Nat)(t:Xr):TG:=fun v σ H Q=>∃a xs,v=.ref a∧bN K H a xs∧xs.length=n∧t xs σ H Q
theorem vX{es:List Expr}{k:Nat}{t:Xr}{n:Nat}(D:X.calm=true)(h:Zh X es t)
  (G:(assignEach es X.env).length=n:=by rfl) (j:(assignEach es X.env).findIdx? (·.1)=none:=by rfl):PG X (.Tuple es k pos) (Z4 X.K n t):=by
 intro pins s σ H v u Q I r hw
 obtain⟨a,xs,J,L,F,hw⟩:=hw
 subst J
 cases r
 obtain⟨its,z,S,hz⟩:=I.tuple L
 refine assign_Tuple_tuple (I.ok.hd D) S (by simp[G,←F,z.length]) j fun h' hx=>?_
 have O:Inv X pins σ H { s with heap:=h' }:=I.kept (t':=s.toks) fun b o e=>hx b o (md (Heap.lt_size e)) e
 exact h pins _ σ H xs _ Q O (by simpa using z) hw
noncomputable def Bf(te:TE)(g:TG):TS:=fun D σ H=>te σ H fun x H1=>g x σ H1 D.nx
theorem a_{i:Nat}{x:Str}{e:Expr}{te:TE}{pos':Pos}(F:X.N.Nodup)(hi:X.N[i]?=some x)(hx:Loc X.env.scope x)(L:PE X e te)(J:swapsWith e (some (.Name x pos')) pos.line X.env=pure false:=by rfl)(z:X.fn x=true∨X.env.scope.names.lookup x=some .local:=by first | exact .inl rfl | exact .inr rfl | assumption) :
  PS X (.Assign [.Name x pos'] e pos) (Bf te (oF i)):=by
 intro pins s σ H D I h
 refine wpAny_Assign_Name (cW (L pins s σ H _ I h) fun v s1 ⟨y,H1,O,S,G⟩=>?_) J
 exact pJ O F hi hx S (fun s2 j=>⟨_,H1,j,G⟩) z
noncomputable def Zw(i:Nat)(te:TE)(j:Y0):TS:=fun D σ H=>∃x,σ[i]?=some (some x)∧te σ H fun y H1=>j x y H1 fun z H2=>D.nx (σ.set i (some z)) H2
theorem zK{i:Nat}{x:Str}{e:Expr}{te:TE}{op:Operator}{J:Y0}{pos':Pos}(hN:X.N.Nodup)(hi:X.N[i]?=some x)(hx:Loc X.env.scope x)(he:PE X e te)(ho:PIp X op J)(O:X.fn x=true∨X.env.scope.names.lookup x=some .local:=by first | exact .inl rfl | exact .inr rfl | assumption) :
  PS X (.AugAssign (.Name x pos') op e pos) (Zw i te J):=by
 intro pins s σ H D I h
 obtain⟨v,Z,h⟩:=h
 obtain⟨m,S,U⟩:=I.loc
 have G:XN X.env.scope x:=by rcases hx with k | k;exact .inl k;exact .inr (.inl k)
 obtain⟨u,r,l⟩:=U i x v hi Z G
 refine wpAny_AugAssign_Name ?_
 have go:wpAny (model X.prog X.w) X.A (eval e X.env) (fun w s₂=>wpAny (model X.prog X.w) X.A (inplaceOp op u w) (fun r s₃=>wpAny (model X.prog X.w) X.A (storeName X.env x r) (fun _=>SP X pins D .next) X.xe s₃) X.xe s₂) X.xe s:=by
  refine cW (he pins s σ H _ I h) fun w s1 ⟨y,H1,I1,r1,q1⟩=>?_
  refine cW (ho pins s1 σ H1 v y u w _ I1 r r1 q1) fun z s2 ⟨zv,H2,L,r2,q2⟩=>?_
  exact pJ L hN hi hx r2 (fun s3 I3=>⟨_,H2,I3,q2⟩) O
 rcases l with⟨j,hm⟩ | ⟨j,c,Y,F⟩
 ·exact wpAny_loadName_local I.ok.kind j S hm go
 ·rcases j with j | j
  ·exact wpAny_loadName_cell I.ok.kind j Y F go
  ·rcases hx with k | k
   ·have:X.env.scope.names.lookup x=some .free:=j
    rw[k]at this;cases this
   ·have:X.env.scope.names.lookup x=some .free:=j
    rw[k]at this;cases this
noncomputable def ipI(f:Int→Int→Int):Y0:=fun x y H Q=>∃i j,x=.int i∧y=.int j∧Q (.int (f i j)) H
theorem QR:PIp X .Add (ipI fun i j=>i+j):=by
 intro pins s σ H x y v u Q I F r2 h
 obtain⟨i,j,z,D,q⟩:=h
 subst z;subst D
 obtain⟨t,rfl⟩:=F
 obtain⟨t',rfl⟩:=r2
 exact iadd_int ⟨.int _,H,I.tok _,⟨_,rfl⟩,q⟩
end
section
variable {X:Cx} {pos:Pos}
noncomputable def VP(c:TT)(tb:TS):TS:=fun D σ H=>∃W:Nat→St→Hp→Prop,(∃m,W m σ H)∧∀m σ H,W m σ H →
 c σ H fun b H1=>if b=true then ∃N:St→Hp→Prop,(∀σ' H',N σ' H'→∃j,j<m∧W j σ' H')∧tb { D with nx:=N,ct:=N,bk:=D.nx } σ H1 else D.nx σ H1
theorem lM{c:Expr}{body:List Stmt}{tc:TT}{tb:TS}(hp:PassesOwn (model X.prog X.w) X.A X.env X.xe)(hc:PT X c tc)(hb:M4 X body tb):PS X (.While c body [] pos) (VP tc tb):=by
 intro pins s σ H D I h
 obtain⟨W,⟨m0,w0⟩,j⟩:=h
 refine wpAny_While (codeAny_whileLoop (fun n s'=>∃σ' H',Inv X pins σ' H' s'∧W n σ' H') ?_ m0 ⟨σ,H,I,w0⟩)
 rintro n s1 ⟨σ1,H1,I1,w1⟩
 refine wpAny_passesOwn hp (cW (hc pins s1 σ1 H1 _ I1 (j n σ1 H1 w1)) fun b s2 ⟨H2,Y,F⟩=>?_)
 cases b with
 | true =>
  obtain⟨N,Z,F⟩:=F
  rw[mr rfl]
  refine wpAny_passesOwn hp (cW (hb pins s2 σ1 H2 _ Y F) fun f s3 G=>?_)
  cases f with
  | next =>
   obtain⟨σ3,z,S,O⟩:=G
   obtain⟨U,L,J⟩:=Z σ3 z O
   exact⟨U,L,σ3,z,S,J⟩
  | cont =>
   obtain⟨σ3,z,S,O⟩:=G
   obtain⟨U,L,J⟩:=Z σ3 z O
   exact⟨U,L,σ3,z,S,J⟩
  | brk=>exact G
  | ret v=>exact G
 | false =>
  rw[ml lP]
  exact wpAny_execs_nil ⟨σ1,H2,Y,F⟩
end
structure It where
 go:Nat→Hp→Prop
 yld:Nat→Hp→V→Hp→Prop
 stop:Nat→Hp→Prop
noncomputable def uz(X:Cx)(pins:List (Addr×Obj))(H:Hp)(b:Addr):Prop :=
 H b=none∧b≠X.env.locals∧b∉X.fs∧(b∈X.ex∨X.s_0.heap.objs.size≤b)∧(∀x c,X.env.cells.lookup x=some c→c≠b)∧∀p∈X.pn++pins,p.1≠b
theorem Inv.Hg{X:Cx}{pins:List (Addr×Obj)}{σ:St}{H H':Hp}{s:Shared}{b:Addr}(I:Inv X pins σ H s)(j:s.heap.objs.size≤b)(D:H' b=none):uz X pins H' b:=by
 refine⟨D,Nat.ne_of_gt (lm I.lt j),I.ZW j,.inr (lS I.sz j),fun x c e z=>?_,fun p F z=>?_⟩
 ·obtain⟨v,q⟩:=I.cell x c e
  exact absurd (lm q.lt (by rw[z];exact j)) (Nat.lt_irrefl _)
 ·exact absurd (lm (Heap.lt_size (I.pin p F).1) (by rw[z];exact j)) (Nat.lt_irrefl _)
structure Turn (P:Program) (w:World) (K:PySem.W.Frag) (tg:Expr) (J:It) (fp:List Addr) (it:Addr) (tn:Nat→Heap→Prop):Prop where
 mem:it∈fp
 obj:∀i h,tn i h→∀b∈fp,∃o,h.get? b=some o∧∀v,o.data≠.cell v
 keep:∀i h h',tn i h→(∀b∈fp,∀o,h.get? b=some o→h'.get? b=some o)→tn i h'
 item:∀(X:Cx),X.prog=P→X.w=w→X.K=K→X.calm=true→∀(i:Nat)(pins:List (Addr×Obj))(s:Shared)(σ:St)(H:Hp)(E:Value→Shared→Prop),Inv X pins σ H s→(∀b∈fp,uz X pins H b)→tn i s.heap→J.go i H →
  wpAny (model P w) X.A (pyNext (.ref it)) (fun r s1=>∃u,r=some u ∧
   wpAny (model P w) X.A (letOwnedTupleGo tg (.ref it) u) (fun _ s2=>∃x H',Inv X pins σ H' s2∧RelV x u∧J.yld i H x H'∧tn (i+1) s2.heap∧∀b∈fp,H' b=none) E s1) E s
 done:∀(X:Cx),X.prog=P→X.w=w→X.K=K→X.calm=true→∀(i:Nat)(pins:List (Addr×Obj))(s:Shared)(σ:St)(H:Hp)(E:Value→Shared→Prop),Inv X pins σ H s→(∀b∈fp,uz X pins H b)→tn i s.heap→J.stop i H →
  wpAny (model P w) X.A (pyNext (.ref it)) (fun r s1=>r=none∧Inv X pins σ H s1) E s
 self:∀(A:Around)(i:Nat)(s:Shared)(Q:Value→Shared→Prop)(E:Value→Shared→Prop),tn i s.heap→Q (.ref it) s→wpAny (model P w) A (pyIter (.ref it)) Q E s
noncomputable abbrev TI:=St→Hp→(It→Hp→Prop)→Prop
noncomputable def PIE(X:Cx)(pins:List (Addr×Obj))(σ:St)(tg:Expr)(R:It→Hp→Prop)(j:Value)(s2:Shared):Prop :=
 ∃(it:Addr)(fp:List Addr)(tn:Nat→Heap→Prop)(J:It)(H':Hp),j=.ref it∧Inv X pins σ H' s2∧Turn X.prog X.w X.K tg J fp it tn∧tn 0 s2.heap∧(∀b∈fp,uz X pins H' b)∧R J H'
noncomputable def PI(X:Cx)(tg iter:Expr)(j:TI):Prop :=
 ∀(pins:List (Addr×Obj))(s:Shared)(σ:St)(H:Hp)(R:It→Hp→Prop),Inv X pins σ H s→j σ H R →
  wpAny (model X.prog X.w) X.A (eval iter X.env) (fun v s1=>wpAny (model X.prog X.w) X.A (pyIter v) (PIE X pins σ tg R) X.xe s1) X.xe s
theorem Q0{M:Model}{A:Around}{E:Value→Shared→Prop}{s:Shared}{tg:Expr}{it:Addr}{u:Value}{o:Obj}{n:String}{vs:Array Value}{Q:Unit→Shared→Prop}(F:s.heap.get? it=some o)(z:o.cls=.type n)(hd:o.data=.fields vs)
    (D:["enumerate","zip","dict_itemiterator","dict_reverseitemiterator","odict_iterator","itertools.zip_longest","itertools.pairwise"].contains n=false) (j:Q () s):wpAny M A (letOwnedTupleGo tg (.ref it) u) Q E s:=by
  unfold letOwnedTupleGo
  cases tg<;>first
    | exact wpAny_pure j
    | (cases u<;>first
        | exact wpAny_pure j
        | (refine wpAny_bind (wpAny_load F ?_)
           rw[z,hd]
           show wpAny M A (if(["enumerate","zip","dict_itemiterator","dict_reverseitemiterator","odict_iterator","itertools.zip_longest","itertools.pairwise"].contains n&&vs[0]?==some (rawInt _))=true then _ else _) Q E s
           rw[ml (by intro h;rw[D,Bool.false_and]at h;cases h)]
           exact wpAny_pure j))
noncomputable def Vz(K:PySem.W.Frag)(a:Addr):It :=
 ⟨fun i H=>∃xs x,bF K H a xs∧xs[i]?=some x,fun i H x H'=>H'=H∧∀xs,bF K H a xs→xs[i]?=some x,fun i H=>∃xs,bF K H a xs∧xs.length≤i⟩
noncomputable def Y_(K:PySem.W.Frag)(a:Addr):It :=
 ⟨fun i H=>∃xs x,bN K H a xs∧xs[i]?=some x,fun i H x H'=>H'=H∧∀xs,bN K H a xs→xs[i]?=some x,fun i H=>∃xs,bN K H a xs∧xs.length≤i⟩
noncomputable def XQ(lo:Int)(n:Nat):It:=⟨fun i _=>i<n,fun i H x H'=>H'=H∧x=.int (lo+i),fun i _=>n≤i⟩
theorem JZ{P:Program}{w:World}{K:PySem.W.Frag}{tg:Expr}(a it:Addr):Turn P w K tg (Vz K a) [it] it (fun i h=>h.IsListIter it a i) where
 mem:=by simp
 obj:=fun i h st b j=>by
  have e:b=it:=by simpa using j
  subst e
  obtain⟨o,e,c,d⟩:=st
  exact⟨o,e,fun v z=>by rw[d]at z;cases z⟩
 keep:=fun i h h' st k=>st.at fun o e=>k it (by simp) o e
 item:=by
  intro X S hw U Y i pins s σ H E I F st O
  subst S hw U
  obtain⟨xs,x,G,hx⟩:=O
  obtain⟨its,L,p,hz⟩:=I.list G
  obtain⟨u,hu,Z⟩:=L.get hx
  obtain⟨J,f1,f2,f3,f4,f5⟩:=F it (by simp)
  refine wpAny_pyNext_list_item st p.isList (x:=u) (by simpa using hu) fun h' D sb=>?_
  have I1:Inv X pins σ H { s with heap:=h' }:=I.turned (t':=s.toks) (fun b o j e=>(sb.2 b j).trans e) J f1 f3 f4 f5
  obtain⟨o,e,c,d⟩:=id D
  exact⟨u,rfl,Q0 (s:={ s with heap:=h' }) e c d (by decide) ⟨x,H,I1,Z,⟨rfl,fun ys hy=>by rw[I.qw hy G];exact hx⟩,D,fun b j=>(F b j).1⟩⟩
 done:=by
  intro X S hw U Y i pins s σ H E I F st O
  subst S hw U
  obtain⟨xs,G,hx⟩:=O
  obtain⟨its,L,p,hz⟩:=I.list G
  obtain⟨J,f1,f2,f3,f4,f5⟩:=F it (by simp)
  have hl:=L.length
  exact wpAny_pyNext_list_end (I.ok.hd Y) st p.isList (by simp;lia) fun h' eb=>⟨rfl,I.turned (t':=s.toks) (fun b o j e=>eb b o j e) J f1 f3 f4 f5⟩
 self:=fun _ _ _ _ _ st h=>wpAny_pyIter_listiter st h
theorem Eh{P:Program}{w:World}{K:PySem.W.Frag}{tg:Expr}(a it:Addr):Turn P w K tg (Y_ K a) [it] it (fun i h=>h.IsTupleIter it a i) where
 mem:=by simp
 obj:=fun i h st b j=>by
  have e:b=it:=by simpa using j
  subst e
  obtain⟨o,e,c,d⟩:=st
  exact⟨o,e,fun v z=>by rw[d]at z;cases z⟩
 keep:=fun i h h' st k=>st.at fun o e=>k it (by simp) o e
 item:=by
  intro X S hw U Y i pins s σ H E I F st O
  subst S hw U
  obtain⟨xs,x,G,hx⟩:=O
  obtain⟨its,L,p,hz⟩:=I.tuple G
  obtain⟨u,hu,Z⟩:=L.get hx
  obtain⟨J,f1,f2,f3,f4,f5⟩:=F it (by simp)
  refine wpAny_pyNext_tuple_item st (show s.heap.IsTuple a its.toArray from p) (x:=u) (by simpa using hu) fun h' D sb=>?_
  have I1:Inv X pins σ H { s with heap:=h' }:=I.turned (t':=s.toks) (fun b o j e=>(sb.2 b j).trans e) J f1 f3 f4 f5
  obtain⟨o,e,c,d⟩:=id D
  exact⟨u,rfl,Q0 (s:={ s with heap:=h' }) e c d (by decide) ⟨x,H,I1,Z,⟨rfl,fun ys hy=>by rw[I.J1 hy G];exact hx⟩,D,fun b j=>(F b j).1⟩⟩
 done:=by
  intro X S hw U Y i pins s σ H E I F st O
  subst S hw U
  obtain⟨xs,G,hx⟩:=O
  obtain⟨its,L,p,hz⟩:=I.tuple G
  obtain⟨J,f1,f2,f3,f4,f5⟩:=F it (by simp)
  have hl:=L.length
  exact wpAny_pyNext_tuple_end (I.ok.hd Y) st (show s.heap.IsTuple a its.toArray from p) (by simp;lia) fun h' eb=>⟨rfl,I.turned (t':=s.toks) (fun b o j e=>eb b o j e) J f1 f3 f4 f5⟩
 self:=fun _ _ _ _ _ st h=>wpAny_pyIter_tupleiter st h
theorem Ei{P:Program}{w:World}{K:PySem.W.Frag}{tg:Expr}(it:Addr)(lo:Int)(n:Nat):Turn P w K tg (XQ lo n) [it] it (fun i h=>IsRangeIter h it (lo+(i:Nat)*1) ((n:Int)-(i:Nat)) 1) where
 mem:=by simp
 obj:=fun i h st b j=>by
  have e:b=it:=by simpa using j
  subst e
  exact⟨_,st,fun v z=>by
   have Y:Data.fields _=Data.cell v:=z
   cases Y⟩
 keep:=fun i h h' st k=>k it (by simp) _ st
 item:=by
  intro X O hw S G i pins s σ H E I F st L
  subst O hw S
  obtain⟨J,f1,f2,f3,f4,f5⟩:=F it (by simp)
  have W:=Walks.range (prog:=X.prog) (w:=X.w) (I.ok.hd G) it lo 1 n
  refine W.item i s _ _ L st fun v h' tk hv D U=>?_
  obtain⟨t,rfl⟩:=hv
  have Z:Inv X pins σ H { s with heap:=h',toks:=tk }:=I.turned (fun b o j e=>U b o (by simpa using j) e) J f1 f3 f4 f5
  refine⟨_,rfl,Q0 (s:={ s with heap:=h',toks:=tk }) (n:="range_iterator") D rfl rfl (by decide) ⟨.int (lo+i),H,Z,⟨t,?_⟩,⟨rfl,rfl⟩,D,fun b j=>(F b j).1⟩⟩
  rw[Int.mul_one]
 done:=by
  intro X O hw S G i pins s σ H E I F st L
  subst O hw S
  obtain⟨J,f1,f2,f3,f4,f5⟩:=F it (by simp)
  exact wpAny_pyNext_range_end (I.ok.hd G) st (by have:n≤i:=L;lia) fun h' eb=>⟨rfl,I.turned (t':=s.toks) (fun b o j e=>eb b o j e) J f1 f3 f4 f5⟩
 self:=fun _ _ _ _ _ st h=>wpAny_pyIter_rangeiter st h
end L2
namespace L2
open PySem PySem.Spec PyProof.Rows
section
variable {X:Cx} {tg:Expr}
noncomputable def YJ(K:PySem.W.Frag)(tl:TE):TI:=fun σ H R=>tl σ H fun x H1=>∃a,x=.ref a∧(∃xs,bF K H1 a xs)∧R (Vz K a) H1
noncomputable def Z3(K:PySem.W.Frag)(tl:TE):TI:=fun σ H R=>tl σ H fun x H1=>∃a,x=.ref a∧(∃xs,bN K H1 a xs)∧R (Y_ K a) H1
theorem gU{l:Expr}{tl:TE}(z:PE X l tl):PI X tg l (YJ X.K tl):=by
 intro pins s σ H R I h
 refine cW (z pins s σ H _ I h) fun v s1 ⟨x,H1,j,J,D⟩=>?_
 obtain⟨a,e,⟨xs,F⟩,q⟩:=D
 subst e
 cases J
 obtain⟨its,L,p,hz⟩:=j.list F
 refine wpAny_pyIter_list p.isList ?_
 refine⟨s1.heap.objs.size,[s1.heap.objs.size],_,_,H1,rfl,j.kept (t':=s1.toks) fun b o e=>Heap.get?_push_of_some _ e,JZ a _,⟨_,Heap.get?_push_size _ rfl,rfl,rfl⟩,fun b G=>?_,q⟩
 have e:b=s1.heap.objs.size:=by simpa using G
 subst e
 exact j.Hg (i' _) (j.hok.fresh (i' _))
theorem Px{l:Expr}{tl:TE}(z:PE X l tl):PI X tg l (Z3 X.K tl):=by
 intro pins s σ H R I h
 refine cW (z pins s σ H _ I h) fun v s1 ⟨x,H1,j,J,D⟩=>?_
 obtain⟨a,e,⟨xs,F⟩,q⟩:=D
 subst e
 cases J
 obtain⟨its,L,p,hz⟩:=j.tuple F
 refine wpAny_pyIter_tuple (show s1.heap.IsTuple a its.toArray from p) ?_
 refine⟨s1.heap.objs.size,[s1.heap.objs.size],_,_,H1,rfl,j.kept (t':=s1.toks) fun b o e=>Heap.get?_push_of_some _ e,Eh a _,⟨_,Heap.get?_push_size _ rfl,rfl,rfl⟩,fun b G=>?_,q⟩
 have e:b=s1.heap.objs.size:=by simpa using G
 subst e
 exact j.Hg (i' _) (j.hok.fresh (i' _))
theorem Pj{pins:List (Addr×Obj)}{σ:St}{H:Hp}{s:Shared}{R:It→Hp→Prop}{E:Value→Shared→Prop}{lo hi:Int}{t u v:Tok}{tk:Nat}(I:Inv X pins σ H s)(h1:-(2 ^ 62)≤lo)(h2:lo<2 ^ 62)(J:-(2 ^ 62)≤hi)(D:hi<2 ^ 62)
  (q:R (XQ lo (hi-lo).toNat) H):wpAny (model X.prog X.w) X.A (pyIter (.ref s.heap.objs.size)) (PIE X pins σ tg R) E { s with heap:=s.heap.push { cls:=.type "range",data:=.fields #[.int lo t,.int hi u,.int 1 v] },toks:=tk }:=by
 refine wpAny_pyIter_range (IsRange.new ..) (small_one h1 h2 J D) ?_
 have j:Inv X pins σ H { s with heap:=s.heap.push { cls:=.type "range",data:=.fields #[.int lo t,.int hi u,.int 1 v] },toks:=tk }:=I.kept fun b o e=>Heap.get?_push_of_some _ e
 refine⟨(s.heap.push { cls:=.type "range",data:=.fields #[.int lo t,.int hi u,.int 1 v] }).objs.size,[(s.heap.push { cls:=.type "range",data:=.fields #[.int lo t,.int hi u,.int 1 v] }).objs.size],_,_,H,rfl,
  j.kept (t':=tk) fun b o e=>Heap.get?_push_of_some _ e,Ei _ lo (hi-lo).toNat,?_,fun b F=>?_,q⟩
 ·have z:lo+((0:Nat):Int)*1=lo:=by simp
  have G:(((hi-lo).toNat:Nat):Int)-((0:Nat):Int)=Builtin.Range.rangeSize lo hi 1:=by rw[rangeSize_one];split<;>lia
  show IsRangeIter _ _ (lo+((0:Nat):Int)*1) ((((hi-lo).toNat:Nat):Int)-((0:Nat):Int)) 1
  rw[z,G]
  exact Heap.get?_push_size _ rfl
 ·have e:b=(s.heap.push { cls:=.type "range",data:=.fields #[.int lo t,.int hi u,.int 1 v] }).objs.size:=by simpa using F
  subst e
  exact j.Hg (i' _) (j.hok.fresh (i' _))
noncomputable def YH(ta:TA):TI:=fun σ H R=>ta σ H fun vs H1=>∃j:Int,vs=[.int j]∧-(2 ^ 62)≤j∧j<2 ^ 62∧R (XQ 0 j.toNat) H1
theorem Ky{a:Expr}{ta:TA}{p pos:Pos}(O:Gl X "range")(D:X.mg "range"=none)(S:PA X [a] ta)(G:starEach [a] X.env=[(false,eval a X.env)]:=by rfl):PI X tg (.Call (.Name "range" p) [a] [] pos) (YH ta):=by
 intro pins s σ H R I h
 refine Call_ (o4 I O D boot_range (PyProof.Rows.callWith_type1 (cW (S pos pins s σ H _ I h) fun us s1 ⟨vs,H1,J,U,z⟩=>?_) G rfl))
 obtain⟨j,e,z,L,q⟩:=z
 subst e
 cases U with
 | cons r F =>
  cases F
  obtain⟨t,rfl⟩:=r
  exact call_range_1 (Pj J (by decide) (by decide) z L (by simpa using q))
noncomputable def Zu(z:TI)(g:TG)(tb:TS):TS:=fun D σ H=>z σ H fun J H1=>∃W:Nat→Nat→St→Hp→Prop,(∃m,W 0 m σ H1)∧∀i m σ H,W i m σ H →
 (J.stop i H∧D.nx σ H)∨(J.go i H∧∃N:St→Hp→Prop,(∀σ' H',N σ' H'→∃j,j<m∧W (i+1) j σ' H')∧∀x H',J.yld i H x H'→g x σ H' fun σ2 H2=>tb { D with nx:=N,ct:=N,bk:=D.nx } σ2 H2)
noncomputable def vW(fp:List Addr)(h:Heap):List (Addr×Obj):=fp.filterMap fun b=>(h.get? b).map fun o=>(b,o)
theorem oZ{fp:List Addr}{h:Heap}{b:Addr}{o:Obj}(j:b∈fp)(e:h.get? b=some o):(b,o)∈vW fp h:=List.mem_filterMap.mpr ⟨b,j,by rw[e];rfl⟩
theorem Lb{fp:List Addr}{h:Heap}{p:Addr×Obj}(z:p∈vW fp h):p.1∈fp∧h.get? p.1=some p.2:=by
 obtain⟨b,D,e⟩:=List.mem_filterMap.mp z
 cases q:h.get? b with
 | none=>rw[q]at e;cases e
 | some o =>
  rw[q]at e
  have j:(b,o)=p:=Option.some.inj e
  subst j
  exact⟨D,q⟩
theorem Inv.pinned{pins:List (Addr×Obj)}{σ:St}{H:Hp}{s:Shared}{fp:List Addr}(I:Inv X pins σ H s)(F:∀b∈fp,uz X pins H b)(L:∀b∈fp,∃o,s.heap.get? b=some o∧∀v,o.data≠.cell v):Inv X (pins++vW fp s.heap) σ H s :=
 I.IK fun p J=>(List.mem_append.mp J).elim (fun z=>I.pin p (List.mem_append_right _ z)) fun z=>by
  obtain⟨D,e⟩:=Lb z
  obtain⟨G,f1,f2,_⟩:=F p.1 D
  obtain⟨o,j,d⟩:=L p.1 D
  rw[e]at j;cases j
  exact⟨e,G,f1,f2,d⟩
theorem Inv.pG{pins pl:List (Addr×Obj)}{σ:St}{H:Hp}{s:Shared}(I:Inv X (pins++pl) σ H s):Inv X pins σ H s:=I.IK fun p j=>I.pin p (List.mem_append_right _ (List.mem_append_left _ j))
theorem lN{iter:Expr}{body:List Stmt}{wi:TI}{g:TG}{tb:TS}{pos:Pos}(hp:PassesOwn (model X.prog X.w) X.A X.env X.xe)(hc:X.calm=true)(hi:PI X tg iter wi)(hg:PG X tg g)(F:M4 X body tb)
  (hs:∀x,foldedSetIterable iter X.env x=pure x:=by intro _;rfl):PS X (.For tg iter body [] pos) (Zu wi g tb):=by
 intro pins s σ H D I h
 refine wpAny_For (cW (hi pins s σ H _ I h) fun v s1 h1=>cW h1 fun ag s2 h2=>?_) hs
 obtain⟨it,fp,tn,J,H2,e,I2,T,ae,f2,W,⟨m0,w0⟩,Z⟩:=h2
 subst e
 have j:∀{H':Hp},(∀b∈fp,H' b=none)→∀b∈fp,uz X pins H' b:=fun hn b F=>⟨hn b F,(f2 b F).2⟩
 refine codeAny_forLoop_any (fun n s'=>∃i σ' H',Inv X pins σ' H' s'∧tn i s'.heap∧(∀b∈fp,H' b=none)∧W i n σ' H') ?_ m0 ⟨0,σ,H2,I2,ae,fun b F=>(f2 b F).1,w0⟩
 rintro n s3 ⟨i,σ3,H3,I3,S,U,w3⟩
 rcases Z i n σ3 H3 w3 with⟨stop,qn⟩ | ⟨go,N,hN,step⟩
 ·refine wpAny_passesOwn hp (cW (T.done X rfl rfl rfl hc i pins s3 σ3 H3 X.xe I3 (j U) S stop) fun r s4 ⟨hr,I4⟩=>?_)
  subst hr
  exact wpAny_execs_nil ⟨σ3,H3,I4,qn⟩
 ·refine wpAny_passesOwn hp (cW (T.item X rfl rfl rfl hc i pins s3 σ3 H3 X.xe I3 (j U) S go) fun r s4 ⟨u,hr,h4⟩=>?_)
  subst hr
  refine wpAny_passesOwn hp (cW h4 fun _ s5 hz=>?_)
  obtain⟨x,H5,I5,r5,y5,O,af⟩:=hz
  have ac:=I5.pinned (j af) (T.obj _ _ O)
  refine wpAny_passesOwn hp (cW (hg _ s5 σ3 H5 x u _ ac r5 (step x H5 y5)) fun _ s6 ⟨σ6,H6,I6,q6⟩=>?_)
  refine wpAny_passesOwn hp (cW (F _ s6 σ6 H6 _ I6 q6) fun f s7 L=>?_)
  have again:∀{σ7:St}{z:Hp},Inv X (pins++vW fp s5.heap) σ7 z s7→N σ7 z→∃m,m<n∧∃i σ' H',Inv X pins σ' H' s7∧tn i s7.heap∧(∀b∈fp,H' b=none)∧W i m σ' H':=fun{σ7 z} G Y=>by
   obtain⟨m',hm,w7⟩:=hN σ7 z Y
   refine⟨m',hm,i+1,σ7,z,G.pG,T.keep _ _ _ O fun b F o e=>(G.pin (b,o) (List.mem_append_right _ (List.mem_append_right _ (oZ F e)))).1,fun b F=>?_,w7⟩
   obtain⟨o,e,d⟩:=T.obj _ _ O b F
   exact(G.pin (b,o) (List.mem_append_right _ (List.mem_append_right _ (oZ F e)))).2.1
  cases f with
  | next=>obtain⟨σ7,z,G,Y⟩:=L;exact again G Y
  | cont=>obtain⟨σ7,z,G,Y⟩:=L;exact again G Y
  | brk=>obtain⟨σ7,z,G,L⟩:=L;exact⟨σ7,z,G.pG,L⟩
  | ret v=>obtain⟨x7,σ7,z,G,r7,L⟩:=L;exact⟨x7,σ7,z,G.pG,r7,L⟩
end
theorem Dg{K:PySem.W.Frag}{a:Addr}{xs:List V}{g:TG}{tb:TS}{D:Ends}{σ:St}{H:Hp}(Pv:Nat→St→Hp→Prop)(h0:Pv 0 σ H)(F:∀i σ H,i≤xs.length→Pv i σ H→bF K H a xs)
  (G:∀i x σ H,xs[i]?=some x→Pv i σ H→g x σ H fun σ2 H2=>tb { D with nx:=Pv (i+1),ct:=Pv (i+1),bk:=D.nx } σ2 H2) (hd:∀σ H,Pv xs.length σ H→D.nx σ H) :
  ∃W:Nat→Nat→St→Hp→Prop,(∃m,W 0 m σ H)∧∀i m σ H,W i m σ H →
   ((Vz K a).stop i H∧D.nx σ H)∨((Vz K a).go i H∧∃N:St→Hp→Prop,(∀σ' H',N σ' H'→∃z,z<m∧W (i+1) z σ' H')∧∀x H',(Vz K a).yld i H x H'→g x σ H' fun σ2 H2=>tb { D with nx:=N,ct:=N,bk:=D.nx } σ2 H2):=by
 refine⟨fun i m σ H=>m=xs.length-i∧i≤xs.length∧Pv i σ H,⟨xs.length,by simp,Nat.zero_le _,h0⟩,?_⟩
 rintro i m σ H ⟨rfl,hi,p⟩
 have q:=F i σ H hi p
 by_cases j:i<xs.length
 ·refine .inr ⟨⟨xs,xs[i],q,by simp[j]⟩,Pv (i+1),fun σ' H' J=>⟨xs.length-(i+1),by lia,rfl,j,J⟩,fun x H' y=>?_⟩
  obtain⟨e,y⟩:=y
  subst e
  exact G i x σ _ (y xs q) p
 ·have e:i=xs.length:=by lia
  subst e
  exact .inl ⟨⟨xs,q,i' _⟩,hd σ H p⟩
theorem Ju{K:PySem.W.Frag}{a:Addr}{xs:List V}{g:TG}{tb:TS}{D:Ends}{σ:St}{H:Hp}(Pv:Nat→St→Hp→Prop)(h0:Pv 0 σ H)(F:∀i σ H,i≤xs.length→Pv i σ H→bN K H a xs)
  (G:∀i x σ H,xs[i]?=some x→Pv i σ H→g x σ H fun σ2 H2=>tb { D with nx:=Pv (i+1),ct:=Pv (i+1),bk:=D.nx } σ2 H2) (hd:∀σ H,Pv xs.length σ H→D.nx σ H) :
  ∃W:Nat→Nat→St→Hp→Prop,(∃m,W 0 m σ H)∧∀i m σ H,W i m σ H →
   ((Y_ K a).stop i H∧D.nx σ H)∨((Y_ K a).go i H∧∃N:St→Hp→Prop,(∀σ' H',N σ' H'→∃z,z<m∧W (i+1) z σ' H')∧∀x H',(Y_ K a).yld i H x H'→g x σ H' fun σ2 H2=>tb { D with nx:=N,ct:=N,bk:=D.nx } σ2 H2):=by
 refine⟨fun i m σ H=>m=xs.length-i∧i≤xs.length∧Pv i σ H,⟨xs.length,by simp,Nat.zero_le _,h0⟩,?_⟩
 rintro i m σ H ⟨rfl,hi,p⟩
 have q:=F i σ H hi p
 by_cases j:i<xs.length
 ·refine .inr ⟨⟨xs,xs[i],q,by simp[j]⟩,Pv (i+1),fun σ' H' J=>⟨xs.length-(i+1),by lia,rfl,j,J⟩,fun x H' y=>?_⟩
  obtain⟨e,y⟩:=y
  subst e
  exact G i x σ _ (y xs q) p
 ·have e:i=xs.length:=by lia
  subst e
  exact .inl ⟨⟨xs,q,i' _⟩,hd σ H p⟩
theorem L_{lo:Int}{n:Nat}{g:TG}{tb:TS}{D:Ends}{σ:St}{H:Hp}(Pv:Nat→St→Hp→Prop)(h0:Pv 0 σ H)
  (F:∀i σ H,i<n→Pv i σ H→g (.int (lo+i)) σ H fun σ2 H2=>tb { D with nx:=Pv (i+1),ct:=Pv (i+1),bk:=D.nx } σ2 H2) (hd:∀σ H,Pv n σ H→D.nx σ H) :
  ∃W:Nat→Nat→St→Hp→Prop,(∃m,W 0 m σ H)∧∀i m σ H,W i m σ H →
   ((XQ lo n).stop i H∧D.nx σ H)∨((XQ lo n).go i H∧∃N:St→Hp→Prop,(∀σ' H',N σ' H'→∃z,z<m∧W (i+1) z σ' H')∧∀x H',(XQ lo n).yld i H x H'→g x σ H' fun σ2 H2=>tb { D with nx:=N,ct:=N,bk:=D.nx } σ2 H2):=by
 refine⟨fun i m σ H=>m=n-i∧i≤n∧Pv i σ H,⟨n,by simp,Nat.zero_le _,h0⟩,?_⟩
 rintro i m σ H ⟨rfl,hi,p⟩
 by_cases j:i<n
 ·refine .inr ⟨j,Pv (i+1),fun σ' H' G=>⟨n-(i+1),by lia,rfl,j,G⟩,fun x H' y=>?_⟩
  obtain⟨e,y⟩:=y
  subst e y
  exact F i σ _ j p
 ·have e:i=n:=by lia
  subst e
  exact .inl ⟨i' _,hd σ H p⟩
end L2
namespace L2
open PySem PySem.Spec PyProof.Rows
noncomputable abbrev R2:=V→V→Hp→VK→Prop
noncomputable def uy(X:Cx)(f:Value→Value→Sem Value)(r:R2):Prop :=
 ∀(pins:List (Addr×Obj))(s:Shared)(σ:St)(H:Hp)(x y:V)(v u:Value)(Q:VK),Inv X pins σ H s→RelV x v→RelV y u→r x y H Q →
  wpAny (model X.prog X.w) X.A (f v u) (EP X pins σ Q) X.xe s
noncomputable def UnR(X:Cx)(f:Value→Sem Value)(r:V→Hp→VK→Prop):Prop :=
 ∀(pins:List (Addr×Obj))(s:Shared)(σ:St)(H:Hp)(x:V)(v:Value)(Q:VK),Inv X pins σ H s→RelV x v→r x H Q →
  wpAny (model X.prog X.w) X.A (f v) (EP X pins σ Q) X.xe s
noncomputable def kO(X:Cx)(f:Value)(r:List V→Hp→VK→Prop):Prop :=
 ∀(pins:List (Addr×Obj))(s:Shared)(σ:St)(H:Hp)(xs:List V)(us:List Value)(Q:VK),Inv X pins σ H s→Vals xs us→r xs H Q →
  wpAny (model X.prog X.w) X.A (call f us) (EP X pins σ Q) X.xe s
noncomputable def aac(X:Cx)(r:V→Hp→(Bool→Hp→Prop)→Prop):Prop :=
 ∀(pins:List (Addr×Obj))(s:Shared)(σ:St)(H:Hp)(x:V)(v:Value)(Q:Bool→Hp→Prop),Inv X pins σ H s→RelV x v→r x H Q →
  wpAny (model X.prog X.w) X.A (truthy v) (TP X pins σ Q) X.xe s
noncomputable def HF(r:R2)(ta tb:TE):TE:=fun σ H Q=>ta σ H fun x H1=>tb σ H1 fun y H2=>r x y H2 Q
noncomputable def tUn(r:V→Hp→VK→Prop)(ta:TE):TE:=fun σ H Q=>ta σ H fun x H1=>r x H1 Q
noncomputable def rI(C:Int→Int→Prop)(g:Int→Int→V):R2:=fun x y H Q=>∃i j,x=.int i∧y=.int j∧C i j∧Q (g i j) H
noncomputable def FZ(g:Int→Int→V):R2:=fun x y H Q=>∃i j,x=.int i∧y=.int j∧Q (g i j) H
noncomputable def rU(g:Int→V):V→Hp→VK→Prop:=fun x H Q=>∃i,x=.int i∧Q (g i) H
section
variable {X:Cx} {a b c:Expr} {ta tb tc:TE} {pos:Pos}
theorem Xe(L:PE X a ta)(F:PE X b tb){pins:List (Addr×Obj)}{s:Shared}{σ:St}{H:Hp}{R:V→V→Hp→Prop}(I:Inv X pins σ H s)
  (h:ta σ H fun x H1=>tb σ H1 fun y H2=>R x y H2) {Q:Value→Shared→Prop} {f:Value→Value→Sem Value}
  (z:∀v u s2 x y H2,Inv X pins σ H2 s2→RelV x v→RelV y u→R x y H2→wpAny (model X.prog X.w) X.A (f v u) Q X.xe s2) :
  wpAny (model X.prog X.w) X.A (eval a X.env) (fun v s₁=>wpAny (model X.prog X.w) X.A (eval b X.env) (fun u s₂=>wpAny (model X.prog X.w) X.A (f v u) Q X.xe s₂) X.xe s₁) X.xe s:=by
 refine cW (L pins s σ H _ I h) fun v s1 ⟨x,H1,G,O,D⟩=>?_
 refine cW (F pins s1 σ H1 _ G D) fun u s2 ⟨y,H2,j,r2,J⟩=>?_
 exact z v u s2 x y H2 j O r2 J
theorem bL{op:Operator}{r:R2}(G:uy X (binaryOp op) r)(F:PE X a ta)(D:PE X b tb):PE X (.BinOp a op b pos) (HF r ta tb):=by
 intro pins s σ H Q I h
 exact wpAny_BinOp (Xe F D I h fun v u s2 x y H2 j z J q=>G pins s2 σ H2 x y v u Q j z J q)
theorem dY{op:UnaryOp}{r:V→Hp→VK→Prop}(G:UnR X (unaryOp op) r)(j:PE X a ta):PE X (.UnaryOp op a pos) (tUn r ta):=by
 intro pins s σ H Q I h
 exact UnaryOp_ (cW (j pins s σ H _ I h) fun v s1 ⟨x,H1,z,D,F⟩=>G pins s1 σ H1 x v Q z D F)
theorem ZV{f:Value→Value→Sem Value}{C:Int→Int→Prop}{g:Int→Int→Int}
  (rule:∀(i j:Int)(t u:Tok)(s:Shared)(Q:Value→Shared→Prop)(E:Value→Shared→Prop),C i j→Q (.int (g i j) s.toks) { s with toks:=s.toks+1 }→wpAny (model X.prog X.w) X.A (f (.int i t) (.int j u)) Q E s) :
  uy X f (rI C fun i j=>.int (g i j)):=by
 intro pins s σ H x y v u Q I D F h
 obtain⟨i,j,rfl,rfl,z,q⟩:=h
 obtain⟨t,rfl⟩:=D
 obtain⟨t',rfl⟩:=F
 exact rule i j t t' s _ _ z ⟨.int (g i j),H,I.tok _,⟨_,rfl⟩,q⟩
theorem Yu{f:Value→Value→Sem Value}{g:Int→Int→Int}
  (rule:∀(i j:Int)(t u:Tok)(s:Shared)(Q:Value→Shared→Prop)(E:Value→Shared→Prop),Q (.int (g i j) s.toks) { s with toks:=s.toks+1 }→wpAny (model X.prog X.w) X.A (f (.int i t) (.int j u)) Q E s) :
  uy X f (FZ fun i j=>.int (g i j)):=by
 intro pins s σ H x y v u Q I z D h
 obtain⟨i,j,rfl,rfl,q⟩:=h
 obtain⟨t,rfl⟩:=z
 obtain⟨t',rfl⟩:=D
 exact rule i j t t' s _ _ ⟨.int (g i j),H,I.tok _,⟨_,rfl⟩,q⟩
theorem S6{f:Value→Value→Sem Value}{g:Int→Int→Bool}
  (rule:∀(i j:Int)(t u:Tok)(s:Shared)(Q:Value→Shared→Prop)(E:Value→Shared→Prop),Q (.bool (g i j)) s→wpAny (model X.prog X.w) X.A (f (.int i t) (.int j u)) Q E s) :
  uy X f (FZ fun i j=>.bl (g i j)):=by
 intro pins s σ H x y v u Q I z D h
 obtain⟨i,j,rfl,rfl,q⟩:=h
 obtain⟨t,rfl⟩:=z
 obtain⟨t',rfl⟩:=D
 exact rule i j t t' s _ _ ⟨.bl (g i j),H,I,rfl,q⟩
noncomputable def Vd(i j:Int):Prop:=(-(2 ^ 64)<i∧i<2 ^ 64)∨(-(2 ^ 64)<j∧j<2 ^ 64)
theorem Vd.ok{i j:Int}(h:Vd i j):IntMulOk i j:=by
 rcases h with⟨h1,h2⟩ | ⟨h1,h2⟩
 ·exact .of_left (intBits_le_64 h1 h2)
 ·exact .of_right (intBits_le_64 h1 h2)
theorem gM:uy X (binaryOp .Add) (FZ fun i j=>.int (i+j)):=Yu fun _ _ _ _ _ _ _ q=>add_int q
theorem ji:uy X (binaryOp .Sub) (FZ fun i j=>.int (i-j)):=Yu fun _ _ _ _ _ _ _ q=>sub_int q
theorem oY:uy X (binaryOp .Mult) (rI Vd fun i j=>.int (i*j)):=ZV fun _ _ _ _ _ _ _ z q=>mul_int q z.ok
theorem Wz:uy X (binaryOp .Mod) (rI (fun _ j=>0<j) fun i j=>.int (i % j)):=ZV fun i j _ _ _ _ _ z q=>by
 have h1:(0:Int)<j:=z
 exact mod_int' (by lia) (by rw[Int.fmod_eq_emod_of_nonneg i (by lia)];exact q)
theorem unI{f:Value→Sem Value}{g:Int→Int}
  (rule:∀(i:Int)(t:Tok)(s:Shared)(Q:Value→Shared→Prop)(E:Value→Shared→Prop),Q (.int (g i) s.toks) { s with toks:=s.toks+1 }→wpAny (model X.prog X.w) X.A (f (.int i t)) Q E s) :
  UnR X f (rU fun i=>.int (g i)):=by
 intro pins s σ H x v Q I j h
 obtain⟨i,rfl,q⟩:=h
 obtain⟨t,rfl⟩:=j
 exact rule i t s _ _ ⟨.int (g i),H,I.tok _,⟨_,rfl⟩,q⟩
theorem cM:UnR X (unaryOp .USub) (rU fun i=>.int (-i)):=unI fun _ _ _ _ _ q=>neg_int q
end
noncomputable def Fi:V→V→Bool
 | .non,.non=>true | .non,.int _=>true | .int _,.non=>true | .non,.bl _=>true | .bl _,.non=>true | .non,.str _=>true | .str _,.non=>true
 | .int _,.int _=>true | .bl _,.bl _=>true | .str _,.str _=>true | .byt _,.byt _=>true
 | .int _,.str _=>true | .str _,.int _=>true | .bl _,.str _=>true | .str _,.bl _=>true
 | _,_=>false
noncomputable def Wl:R2:=fun x y H Q=>Fi x y=true∧Q (.bl (decide (x=y))) H
noncomputable def Wk:R2:=fun x y H Q=>Fi x y=true∧Q (.bl (!decide (x=y))) H
theorem JD{i j:Int}:decide (V.int i=V.int j)=(i==j):=by
 rw[l9]
 simp
theorem Rh{i j:Bool}:decide (V.bl i=V.bl j)=(i==j):=by
 rw[l9]
 simp
theorem JC{i j:Str}:decide (V.str i=V.str j)=(i==j):=by
 rw[l9]
 simp
theorem JF{i j:Array UInt8}:decide (V.byt i=V.byt j)=(i.toList==j.toList):=by
 rw[l9]
 cases i
 cases j
 simp
section
variable {X:Cx} {a b c:Expr} {ta tb tc:TE} {pos:Pos}
theorem bY{pins:List (Addr×Obj)}{σ:St}{H:Hp}{s:Shared}{Q:VK}{k j:Bool}(I:Inv X pins σ H s)(q:Q (.bl k) H)(e:k=j):EP X pins σ Q (.bool j) s:=by
 subst e
 exact⟨.bl k,H,I,rfl,q⟩
theorem aY:uy X (compareOp .Eq) Wl:=by
 intro pins s σ H x y v u Q I F z h
 obtain⟨D,q⟩:=h
 cases x with
 | non =>
  cases F
  cases y with
  | non=>cases z;exact PySem.EqNone.eq_none_none (bY I q (by simp))
  | bl j=>cases z;exact PySem.EqNone.eq_none_bool (bY I q (by simp))
  | int j=>obtain⟨t',rfl⟩:=z;exact PySem.EqNone.eq_none_int (bY I q (by simp))
  | str j=>obtain⟨t',rfl⟩:=z;exact PySem.EqNone.eq_none_str (bY I q (by simp))
  | _=>exact absurd (show false=true from D) lP
 | bl i =>
  cases F
  cases y with
  | non=>cases z;exact PySem.EqNone.eq_bool_none (bY I q (by simp))
  | bl j=>cases z;exact eq_bool (bY I q Rh)
  | str j=>obtain⟨t',rfl⟩:=z;exact PySem.EqMixed.eq_bool_str (bY I q (by simp))
  | _=>exact absurd (show false=true from D) lP
 | int i =>
  obtain⟨t,rfl⟩:=F
  cases y with
  | non=>cases z;exact PySem.EqNone.eq_int_none (bY I q (by simp))
  | int j=>obtain⟨t',rfl⟩:=z;exact eq_int (bY I q JD)
  | str j=>obtain⟨t',rfl⟩:=z;exact PySem.EqMixed.eq_int_str (bY I q (by simp))
  | _=>exact absurd (show false=true from D) lP
 | str i =>
  obtain⟨t,rfl⟩:=F
  cases y with
  | non=>cases z;exact PySem.EqNone.eq_str_none (bY I q (by simp))
  | bl j=>cases z;exact PySem.EqMixed.eq_str_bool (bY I q (by simp))
  | int j=>obtain⟨t',rfl⟩:=z;exact PySem.EqMixed.eq_str_int (bY I q (by simp))
  | str j=>obtain⟨t',rfl⟩:=z;exact eq_str (bY I q JC)
  | _=>exact absurd (show false=true from D) lP
 | byt i =>
  obtain⟨t,rfl⟩:=F
  cases y with
  | byt j=>obtain⟨t',rfl⟩:=z;exact PySem.W.eq_bytes (bY I q JF)
  | _=>exact absurd (show false=true from D) lP
 | _=>cases y<;>exact absurd (show false=true from D) lP
theorem kh:uy X (compareOp .NotEq) Wk:=by
 intro pins s σ H x y v u Q I F z h
 obtain⟨D,q⟩:=h
 cases x with
 | non =>
  cases F
  cases y with
  | non=>cases z;exact PySem.EqNone.ne_none_none (bY I q (by simp))
  | bl j=>cases z;exact PySem.EqNone.ne_none_bool (bY I q (by simp))
  | int j=>obtain⟨t',rfl⟩:=z;exact PySem.EqNone.ne_none_int (bY I q (by simp))
  | str j=>obtain⟨t',rfl⟩:=z;exact PySem.EqNone.ne_none_str (bY I q (by simp))
  | _=>exact absurd (show false=true from D) lP
 | bl i =>
  cases F
  cases y with
  | non=>cases z;exact PySem.EqNone.ne_bool_none (bY I q (by simp))
  | bl j=>cases z;exact ne_bool (bY I q (congrArg not Rh))
  | str j=>obtain⟨t',rfl⟩:=z;exact PySem.EqMixed.ne_bool_str (bY I q (by simp))
  | _=>exact absurd (show false=true from D) lP
 | int i =>
  obtain⟨t,rfl⟩:=F
  cases y with
  | non=>cases z;exact PySem.EqNone.ne_int_none (bY I q (by simp))
  | int j=>obtain⟨t',rfl⟩:=z;exact ne_int (bY I q (congrArg not JD))
  | str j=>obtain⟨t',rfl⟩:=z;exact PySem.EqMixed.ne_int_str (bY I q (by simp))
  | _=>exact absurd (show false=true from D) lP
 | str i =>
  obtain⟨t,rfl⟩:=F
  cases y with
  | non=>cases z;exact PySem.EqNone.ne_str_none (bY I q (by simp))
  | bl j=>cases z;exact PySem.EqMixed.ne_str_bool (bY I q (by simp))
  | int j=>obtain⟨t',rfl⟩:=z;exact PySem.EqMixed.ne_str_int (bY I q (by simp))
  | str j=>obtain⟨t',rfl⟩:=z;exact ne_str (bY I q (congrArg not JC))
  | _=>exact absurd (show false=true from D) lP
 | byt i =>
  obtain⟨t,rfl⟩:=F
  cases y with
  | byt j=>obtain⟨t',rfl⟩:=z;exact PySem.W.ne_bytes (bY I q (congrArg not JF))
  | _=>exact absurd (show false=true from D) lP
 | _=>cases y<;>exact absurd (show false=true from D) lP
theorem iG:uy X (compareOp .Lt) (FZ fun i j=>.bl (decide (i<j))):=S6 fun _ _ _ _ _ _ _ q=>lt_int q
theorem kj:uy X (compareOp .LtE) (FZ fun i j=>.bl (decide (i≤j))):=S6 fun _ _ _ _ _ _ _ q=>le_int q
theorem km:uy X (compareOp .Gt) (FZ fun i j=>.bl (decide (j<i))):=S6 fun _ _ _ _ _ _ _ q=>gt_int q
theorem lV:uy X (compareOp .GtE) (FZ fun i j=>.bl (decide (j≤i))):=S6 fun _ _ _ _ _ _ _ q=>ge_int q
theorem aG(b:Expr){op:CmpOp}(h:op≠.In:=by decide)(h2:op≠.NotIn:=by decide):behindInMarks op b=false:=by
 have z:(op==CmpOp.In)=false:=by cases op<;>first | rfl | exact absurd rfl h
 have j:(op==CmpOp.NotIn)=false:=by cases op<;>first | rfl | exact absurd rfl h2
 cases b<;>simp[behindInMarks,z,j]
theorem bW{op:CmpOp}{r:R2}(J:uy X (compareOp op) r)(G:PE X a ta)(F:PE X b tb)(z:behindInMarks op b=false):PE X (.Compare a [op] [b] pos) (HF r ta tb):=by
 intro pins s σ H Q I h
 exact wpAny_Compare1 (Xe G F I h fun v u s2 x y H2 j D L q=>J pins s2 σ H2 x y v u Q j D L q) z
noncomputable def tE(t:TE):TT:=fun σ H Q=>t σ H fun x H'=>∃k,x=.bl k∧Q k H'
theorem aD{op:CmpOp}{r:R2}(ho:uy X (compareOp op) r)(Y:PE X a ta)(J:PE X b tb)(D:behindInMarks op b=false):PT X (.Compare a [op] [b] pos) (tE (HF r ta tb)):=by
 intro pins s σ H Q I h
 refine wpAny_isTrue_Compare1 (cW (Y pins s σ H _ I h) fun v s1 ⟨x,H1,L,Z,G⟩=>cW (J pins s1 σ H1 _ L G) fun u s2 ⟨y,H2,j,r2,S⟩ =>
  cW (ho pins s2 σ H2 x y v u _ j Z r2 S) fun c s3 ⟨z,H3,O,F,k,e,U⟩=>?_) D
 subst e
 cases F
 exact wpAny_truthy_bool ⟨H3,O,U⟩
noncomputable def Nr(r F:R2)(ta tb tc:TE):TE:=fun σ H Q=>ta σ H fun x H1=>tb σ H1 fun y H2=>r x y H2 fun z j=>∃k,z=.bl k ∧
 (if k=true then tc σ j fun D G=>F y D G Q else Q (.bl false) j)
theorem Ce{op j:CmpOp}{r F:R2}(ho:uy X (compareOp op) r)(D:uy X (compareOp j) F)(ha:PE X a ta)(hb:PE X b tb)(S:PE X c tc)
  (U:lastMarks [op,j] [b,c]=false:=by with_unfolding_all rfl):PE X (.Compare a [op,j] [b,c] pos) (Nr r F ta tb tc):=by
 intro pins s σ H Q I h
 refine Compare_chain (cW (ha pins s σ H _ I h) fun v s1 ⟨x,H1,I1,r1,q1⟩=>chain_link (cW (hb pins s1 σ H1 _ I1 q1) fun u s2 ⟨y,H2,O,r2,q2⟩ =>
  cW (ho pins s2 σ H2 x y v u _ O r1 r2 q2) fun d s3 ⟨z,L,G,Y,k,e,J⟩=>?_)) U
 subst e
 cases Y
 refine wpAny_truthy_bool ?_
 cases k with
 | false=>exact ite_ff ⟨.bl false,L,G,rfl,J⟩
 | true=>exact ite_tt (chain_last (cW (S pins s3 σ L _ G J) fun w' Z ⟨z',H4,I4,r4,q4⟩=>D pins Z σ H4 y z' u w' Q I4 r2 r4 q4))
theorem vR{op j:CmpOp}{r F:R2}(ho:uy X (compareOp op) r)(D:uy X (compareOp j) F)(ha:PE X a ta)(hb:PE X b tb)(U:PE X c tc)
  (Y:lastMarks [op,j] [b,c]=false:=by with_unfolding_all rfl):PT X (.Compare a [op,j] [b,c] pos) (tE (Nr r F ta tb tc)):=by
 intro pins s σ H Q I h
 refine isTrue_chain (cW (ha pins s σ H _ I h) fun v s1 ⟨x,H1,I1,r1,q1⟩=>test_link (cW (hb pins s1 σ H1 _ I1 q1) fun u s2 ⟨y,H2,S,r2,q2⟩ =>
  cW (ho pins s2 σ H2 x y v u _ S r1 r2 q2) fun d s3 ⟨z,L,G,Z,k,e,J⟩=>?_)) Y
 subst e
 cases Z
 refine wpAny_truthy_bool ?_
 cases k with
 | false =>
  obtain⟨k',O,q'⟩:=J
  cases O
  exact ite_ff ⟨L,G,q'⟩
 | true =>
  refine ite_tt (test_last (cW (U pins s3 σ L _ G J) fun w' s4 ⟨z',H4,I4,r4,q4⟩=>cW (D pins s4 σ H4 y z' u w' _ I4 r2 r4 q4) fun d' s5 hz=>?_))
  obtain⟨z2,H5,I5,r5,k2,e2,q5⟩:=hz
  subst e2
  cases r5
  exact wpAny_truthy_bool ⟨H5,I5,q5⟩
noncomputable def Xo(K:PySem.W.Frag)(x:V)(H:Hp)(k:Bool):Prop :=
 match x with
 | .non=>k=false
 | .bl b=>k=b
 | .int i=>k=(i != 0)
 | .str y=>y.length≤sizeLine∧k=((y.length:Int) != 0)
 | .byt y=>y.size≤sizeLine∧k=((y.size:Int) != 0)
 | .ref p=>(∃xs,bF K H p xs∧k=!xs.isEmpty)∨(∃xs,bN K H p xs∧k=!xs.isEmpty)∨∃kvs,H p=some (.dK kvs)∧k=!kvs.isEmpty
 | _=>False
theorem G_{κ:Type}{kvs:List (κ×V)}{vs:List (κ×Value)}(r:KV kvs vs):(!vs.isEmpty)=!kvs.isEmpty:=by
 cases r<;>rfl
theorem wA{xs:List V}{its:List Value}(r:Vals xs its):(!its.toArray.isEmpty)=!xs.isEmpty:=by
 cases r<;>simp
theorem v_:(sizeLine:Nat)<2 ^ 63:=by rw[sizeLine_eq];decide
theorem VN:aac X (fun x H Q=>∃k,Xo X.K x H k∧Q k H):=by
 intro pins s σ H x v Q I D h
 obtain⟨k,e,q⟩:=h
 have J:=v_
 have L:sizeLine=16777216:=sizeLine_eq
 cases x with
 | non =>
  cases D
  have j:k=false:=e
  subst j
  exact truthy_none ⟨H,I,q⟩
 | bl b =>
  cases D
  have j:k=b:=e
  subst j
  exact wpAny_truthy_bool ⟨H,I,q⟩
 | int i =>
  obtain⟨t,rfl⟩:=D
  have j:k=(i != 0):=e
  subst j
  exact PySem.P.truthy_int ⟨H,I,q⟩
 | str y =>
  obtain⟨t,rfl⟩:=D
  obtain⟨F,j⟩:y.length≤sizeLine∧k=((y.length:Int) != 0):=e
  subst j
  exact PySem.P.truthy_str (by lia) ⟨H,I.tok _,q⟩
 | byt y =>
  obtain⟨t,rfl⟩:=D
  obtain⟨F,j⟩:y.size≤sizeLine∧k=((y.size:Int) != 0):=e
  subst j
  exact PySem.W.truthy_bytes (by lia) ⟨H,I.tok _,q⟩
 | ref p =>
  cases D
  have j:(∃xs,bF X.K H p xs∧k=!xs.isEmpty)∨(∃xs,bN X.K H p xs∧k=!xs.isEmpty)∨∃kvs,H p=some (.dK kvs)∧k=!kvs.isEmpty:=e
  rcases j with⟨xs,hx,j⟩ | ⟨xs,hx,j⟩ | ⟨kvs,hx,j⟩
  ·subst j
   obtain⟨its,r,pl,hz⟩:=I.list hx
   have z:=r.length
   exact wpAny_truthy_list pl.isList (by simp only[ll];lia) ⟨H,I.tok _,by rw[wA r];exact q⟩
  ·subst j
   obtain⟨its,r,pl,hz⟩:=I.tuple hx
   have z:=r.length
   exact truthy_tuple pl (by simp only[ll];lia) ⟨H,I.tok _,by rw[wA r];exact q⟩
  ·subst j
   obtain⟨hz,G,vs,r,m⟩:kvs.length≤sizeLine∧(p==sysModules)=false∧∃vs,KV kvs vs∧s.heap.DictOf (du X.prog X.w) p vs:=I.hok p _ hx
   have z:kvs.length=vs.length:=Paired.length r
   exact wpAny_truthy_dict G m (by lia) ⟨H,I.tok _,by rw[G_ r];exact q⟩
 | _=>exact(show False from e).elim
theorem iB(F:PE X a ta)(z:∀whole,isTrue a X.env whole=(do let v ←whole;standAt a.pos;holding [v] (truthy v))) :
  PT X a (fun σ H Q=>ta σ H fun x H'=>∃k,Xo X.K x H' k∧Q k H'):=by
 intro pins s σ H Q I h
 exact isTrue_plain (cW (F pins s σ H _ I h) fun v s1 ⟨x,H1,D,G,j⟩=>VN pins s1 σ H1 x v Q D G j) (z _)
theorem iH:uy X (binaryOp .Add) (fun x y H Q=>∃i j,x=.str i∧y=.str j∧i.length+j.length≤sizeLine∧Q (.str (i++j)) H):=by
 intro pins s σ H x y v u Q I z D h
 obtain⟨i,j,rfl,rfl,hz,q⟩:=h
 obtain⟨t,rfl⟩:=z
 obtain⟨t',rfl⟩:=D
 exact add_str (fun t' tk=>⟨.str (i++j),H,I.tok _,⟨_,rfl⟩,q⟩) hz
theorem vals1{x:V}{us:List Value}(r:Vals [x] us):∃u,us=[u]∧RelV x u:=by
 cases r with
 | cons j r2=>cases r2;exact⟨_,rfl,j⟩
theorem vals2{x y:V}{us:List Value}(r:Vals [x,y] us):∃u j,us=[u,j]∧RelV x u∧RelV y j:=by
 cases r with
 | cons z r2 =>
  cases r2 with
  | cons F D=>cases D;exact⟨_,_,rfl,z,F⟩
theorem qF:kO X (.builtin "abs") (fun xs H Q=>∃i,xs=[.int i]∧Q (.int (if i<0 then -i else i)) H):=by
 intro pins s σ H xs us Q I r h
 obtain⟨i,rfl,q⟩:=h
 obtain⟨u,rfl,t,rfl⟩:=vals1 r
 exact call_abs_int fun u tk=>⟨.int (if i<0 then -i else i),H,I.tok _,⟨_,rfl⟩,q⟩
theorem Mm(D:X.calm=true):kO X (.builtin "max") (fun xs H Q=>∃i j,xs=[.int i,.int j]∧Q (.int (if j>i then j else i)) H):=by
 intro pins s σ H xs us Q I r h
 obtain⟨i,j,rfl,q⟩:=h
 obtain⟨u,F,rfl,⟨t,rfl⟩,⟨t',rfl⟩⟩:=vals2 r
 refine max_two_ints (I.ok.hd D) fun h' tk k=>⟨_,H,I.kept k,?_,q⟩
 by_cases z:j>i
 ·rw[mr z,mr z];exact⟨_,rfl⟩
 ·rw[ml z,ml z];exact⟨_,rfl⟩
theorem gF:kO X (.type "str") (fun xs H Q=>∃i,xs=[.int i]∧i.natAbs.log2<1920∧Q (.str (toString i)) H):=by
 intro pins s σ H xs us Q I r h
 obtain⟨i,rfl,hz,q⟩:=h
 obtain⟨u,rfl,t,rfl⟩:=vals1 r
 exact PySem.P.str_of_int hz ⟨.str _,H,I.tok _,⟨_,rfl⟩,q⟩
end
end L2
namespace L2
open PySem PySem.Spec PyProof.Rows
structure Hw (h:Heap) (x dx C:Addr) (mA:Str→Option Value):Prop where
 obj:h.get? x=some (PySem.W.instObj C dx)
 ns:h.Ns1 dx mA
 ne:dx≠x
theorem yD{h:Heap}{dx:Addr}{mA:Str→Option Value}(n:h.Ns1 dx mA):∃od,h.get? dx=some od∧∀name,PySem.W.lookIn name od=some (mA name):=by
 obtain⟨o,es,ep,L,hd,F,_,D⟩:=n
 refine⟨o,L,fun name=>?_⟩
 have e:=D name
 unfold nsFind findBy at e
 rw[←Array.find?_toList]at e
 unfold PySem.W.lookIn
 rw[hd]
 dsimp only
 split
 ·rename_i y q
  rw[q]at e
  exact congrArg some e
 ·rename_i q
  rw[q]at e
  have a:es.toList.any (·.refKey)=false:=by
   rw[List.any_eq_false]
   intro y J
   obtain⟨z,t,j⟩:=F y (Array.mem_toList_iff.mp J)
   simp[DictEntry.refKey,j]
  have G:¬es.toList.any (·.refKey)=true:=by rw[a];exact lP
  rw[ml G]
  exact congrArg some e
theorem Hw.look{h:Heap}{x dx C:Addr}{mA:Str→Option Value}(I:Hw h x dx C mA):∃od,PySem.W.InstAt h x (PySem.W.instObj C dx) C (some od)∧∀name,PySem.W.lookIn name od=some (mA name) :=
 let⟨od,ho,hl⟩:=yD I.ns
 ⟨od,⟨I.obj,rfl,rfl,ho⟩,hl⟩
section
variable {prog:Program} {w:World} {A:Around} {E:Value→Shared→Prop} {s:Shared} {K:PySem.W.Frag} {x dx C f:Addr} {mA:Str→Option Value} {name:Str} {v:Value}
theorem Um{expr:Bool}{Q:Value→Shared→Prop}(X:K.In s.heap)(I:Hw s.heap x dx C mA)(L:PySem.W.plainGet K C name=true)(D:PySem.W.hasDictIn K C=true)
  (z:PySem.W.findIn K (.ref C) name=some none) (G:mA name=some v) (j:PySem.W.handedIn v=true) (h:Q v { s with toks:=s.toks+1 }) :
  wpAny (model prog w) A (getAttr (.ref x) name expr) Q E s:=by
 obtain⟨od,J,F⟩:=I.look
 exact PySem.W.get_value X J (PySem.W.plainGet_of L).1 (PySem.W.findObj_own D z rfl (by rw[F,G])) j h
theorem Q3{pl:Sem Bool}{Q:Value×List Value→Shared→Prop}(X:K.In s.heap)(I:Hw s.heap x dx C mA)(j:PySem.W.plainGet K C name=true)
  (D:PySem.W.findIn K (.ref C) name=some (some (.ref f))) (z:PySem.W.isFn K (.ref f)=true) (G:mA name=none) (h:Q (.ref f,[.ref x]) s) :
  wpAny (model prog w) A (getMethod (.ref x) name pl) Q E s:=by
 obtain⟨od,J,F⟩:=I.look
 exact PySem.W.method_fn X J (PySem.W.plainGet_of j).1 (PySem.W.plainGet_of j).2 D (beq_iff_eq.mp z) (by show(PySem.W.lookIn name od).map (·.isSome)=some false;rw[F,G];rfl) h
theorem RX{ns:List Str}{Q:Unit→Shared→Prop}(X:K.In s.heap)(I:Hw s.heap x dx C mA)
  (Y:PySem.W.findIn K (.ref C) "__setattr__"=some (some (.builtin "object.__setattr__"))) (hp:PySem.W.plainOver K C=true) (ht:PySem.W.takerIn K C name=some none) (S:PySem.W.hasDictIn K C=true)
  (hw:PySem.Within mA ns) (hsz:ns.length≤sizeLine)
  (h:∀h',Hw h' x dx C (fun y=>if y=name then some v else mA y)→Heap.SameBut dx s.heap h'→Q () { s with heap:=h',toks:=s.toks+2 }) :
  wpAny (model prog w) A (setAttr (.ref x) name v) Q E s:=by
 obtain⟨od,J,hl⟩:=I.look
 refine PySem.W.set_plain X J Y (PySem.W.osa_open (s:={ s with toks:=s.toks+1 }) (r:=none) X J hp ht fun b=>?_)
 obtain⟨cd,O,F⟩:=PySem.W.any_some S
 have hx:s.heap.get? x=some ⟨.ref C,some dx,.plain,#[]⟩:=I.obj
 refine wpAny_bind (wpAny_pure (wpAny_bind (wpAny_bind (wpAny_loadPart hx (wpAny_bind (PySem.W.Looks.here (s:={ s with toks:=s.toks+1 }) (PySem.W.looks_clsIn X O) ?_))))))
 rw[F]
 refine wpAny_pure (a:=some dx) (wpAny_bind (wpAny_pure (wpAny_bind ?_)))
 refine wpAny_nsSet1 (s:={ s with toks:=s.toks+1 }) I.ns fun h' z j=>?_
 obtain⟨oD,U,Z,L,G,D⟩:=z.count (PySem.Within.cons name v hw)
 refine wpAny_bind (wpAny_lookBehind L (by rw[G];exact pastItsLine_dict (lS D (by rw[io];lia))) ?_)
 exact wpAny_pure (h _ ⟨(j.2 _ (Ne.symm I.ne)).trans I.obj,z,I.ne⟩ j)
theorem Qz{R:Result→Shared→Prop}{vs:List Value}{j:List (Str×Value)}(X:K.In s.heap)(D:PySem.W.makesIn K C=true)
    (hi:PySem.W.findIn K (.ref C) "__init__"=some (some (.ref f))) (z:PySem.W.typeIn K (.ref f)=some (.type "function"))
    (h:codeAny (model prog w) (A.under (.builtin "type.__call__" ⟨.ref C::vs,j⟩)) (.call (.ref f) ⟨.ref (s.heap.objs.size+1)::vs,j⟩) (PySem.W.InitBack (s.heap.objs.size+1) R)
      { s with heap:=(s.heap.push PySem.W.emptyDict).push (PySem.W.instObj C s.heap.objs.size) }) :
    codeAny (model prog w) A (.call (.ref C) ⟨vs,j⟩) R s:=by
  obtain⟨F,g,d,t,os⟩:=s
  exact PySem.W.make_core (PySem.W.makes_of X D) (PySem.W.looks_findIn X hi) (fun self=>PySem.W.bind_fn X self z) (.inl rfl) h
end
noncomputable def gZ(f:Str)(v:V):List (Str×V)→List (Str×V)
 | []=>[(f,v)]
 | (g,x)::r=>if g=f then(g,v)::r else(g,x)::gZ f v r
theorem tU(f g:Str)(v:V):∀fs:List (Str×V),(gZ f v fs).lookup g=if g=f then some v else fs.lookup g
 | []=>by
  show List.lookup g [(f,v)]=_
  by_cases h:g=f
  ·have j:(g==f)=true:=beq_iff_eq.mpr h
   simp only[List.lookup,j,mr h]
  ·have j:(g==f)=false:=beq_eq_false_iff_ne.mpr h
   simp only[List.lookup,j,ml h]
 | (k,x)::r=>by
  have D:=tU f g v r
  rw[show gZ f v ((k,x)::r)=(if k=f then(k,v)::r else(k,x)::gZ f v r)from rfl]
  by_cases z:k=f
  ·rw[mr z]
   by_cases h:g=k
   ·have j:(g==k)=true:=beq_iff_eq.mpr h
    simp only[List.lookup,j,mr (h.trans z)]
   ·have j:(g==k)=false:=beq_eq_false_iff_ne.mpr h
    simp only[List.lookup,j,ml (fun e:g=f=>h (e.trans z.symm))]
  ·rw[ml z]
   by_cases h:g=k
   ·have j:(g==k)=true:=beq_iff_eq.mpr h
    simp only[List.lookup,j,ml (fun e:g=f=>z (h.symm.trans e))]
   ·have j:(g==k)=false:=beq_eq_false_iff_ne.mpr h
    simp only[List.lookup,j]
    exact D
theorem rT(f:Str)(v:V):∀fs:List (Str×V),f∈(gZ f v fs).map (·.1)∧∀g,g∈fs.map (·.1)→g∈(gZ f v fs).map (·.1)
 | []=>⟨by simp[gZ],fun g h=>by simp at h⟩
 | (k,x)::r=>by
  obtain⟨i1,z⟩:=rT f v r
  rw[show gZ f v ((k,x)::r)=(if k=f then(k,v)::r else(k,x)::gZ f v r)from rfl]
  by_cases j:k=f
  ·rw[mr j]
   subst j
   exact⟨by simp,fun g h=>by simpa using h⟩
  ·rw[ml j]
   refine⟨?_,fun g h=>?_⟩
   ·rw[mf]
    exact am _ i1
   ·rw[mf]at h ⊢
    rcases j'.mp h with e | e
    ·exact j'.mpr (.inl e)
    ·exact am _ (z g e)
theorem tV(f:Str)(v:V):∀fs:List (Str×V),(gZ f v fs).length≤fs.length+1
 | []=>by simp[gZ]
 | (k,x)::r=>by
  have z:=tV f v r
  rw[show gZ f v ((k,x)::r)=(if k=f then(k,v)::r else(k,x)::gZ f v r)from rfl]
  by_cases j:k=f
  ·rw[mr j,io,io];lia
  ·rw[ml j,io,io];lia
theorem pF.some_of{v:V}{o:Option Value}(r:pF (some v) o):∃u,o=some u∧RelV v u:=by
 cases o with
 | none=>exact(show False from r).elim
 | some u=>exact⟨u,rfl,r⟩
theorem pF.none_of{o:Option Value}(r:pF none o):o=none:=by
 cases o with
 | none=>rfl
 | some u=>exact(show False from r).elim
theorem LK{v:V}{u:Value}(r:RelV v u):PySem.W.handedIn u=true:=by
 cases v with
 | non=>cases(show u=Value.none from r);rfl
 | bl b=>cases(show u=Value.bool b from r);rfl
 | int i=>obtain⟨t,e⟩:=(show ∃t,u=Value.int i t from r);cases e;rfl
 | str x=>obtain⟨t,e⟩:=(show ∃t,u=Value.str x t from r);cases e;rfl
 | byt b=>obtain⟨t,e⟩:=(show ∃t,u=Value.bytes b t from r);cases e;rfl
 | flt b=>obtain⟨t,e⟩:=(show ∃t,u=Value.float b t from r);cases e;rfl
 | ref a=>cases(show u=Value.ref a from r);rfl
 | ty n=>cases(show u=Value.type n from r);rfl
section
variable {P:Program} {w:World} {H H':Hp} {h h':Heap} {a C dx:Addr} {fs fs':List (Str×V)}
theorem zU(hok:ou P w H h)(e:H a=some (.ins C dx fs)):∃mA,Hw h a dx C mA∧(∀f,pF (fs.lookup f) (mA f))∧PySem.Within mA (fs.map (·.1))∧fs.length≤1000∧H dx=some (.own a):=by
 obtain⟨d,z,ne,j,mA,n,r,q⟩:=(show dq P w H h a (.ins C dx fs)from hok a _ e)
 exact⟨mA,⟨j,n,ne⟩,r,q,z,d⟩
end
structure JR (K:PySem.W.Frag) (C:Addr):Prop where
 pg:PySem.W.plainGet K C Str.empty=true
 hd:PySem.W.hasDictIn K C=true
 po:PySem.W.plainOver K C=true
 sa:PySem.W.findIn K (.ref C) "__setattr__"=some (some (.builtin "object.__setattr__"))
theorem JR.get{K:PySem.W.Frag}{C:Addr}(c:JR K C)(f:Str):PySem.W.plainGet K C f=true:=c.pg
noncomputable def bu(K:PySem.W.Frag)(C:Addr)(f:Str):Prop:=PySem.W.findIn K (.ref C) f=some none
theorem bu.taker{K:PySem.W.Frag}{C:Addr}{f:Str}(n:bu K C f):PySem.W.takerIn K C f=some none:=by
 unfold PySem.W.takerIn
 rw[show PySem.W.findIn K (.ref C) f=some none from n]
 rfl
structure Meth (K:PySem.W.Frag) (C:Addr) (m:Str) (f:Addr):Prop where
 at_:PySem.W.findIn K (.ref C) m=some (some (.ref f))
 fn:PySem.W.isFn K (.ref f)=true
 kp:PySem.W.keepIn K (.ref f)=true
section
variable {X:Cx} {pins:List (Addr×Obj)} {σ:St} {H:Hp} {s:Shared} {a C dx:Addr} {fs:List (Str×V)} {f:Str} {v:V} {A:Around} {E:Value→Shared→Prop}
theorem wH{b:Bool}{Q:Value→Shared→Prop}(I:Inv X pins σ H s)(e:H a=some (.ins C dx fs))(c:JR X.K C)(n:bu X.K C f)(l:fs.lookup f=some v)
  (h:∀u s',Inv X pins σ H s'→RelV v u→Q u s'):wpAny (model X.prog X.w) A (getAttr (.ref a) f b) Q E s:=by
 obtain⟨mA,O,r,_,_,_⟩:=zU I.hok e
 obtain⟨u,z,j⟩:=pF.some_of (v:=v) (o:=mA f) (by rw[←l];exact r f)
 exact Um I.o5 O (c.get f) c.hd n z (LK j) (h u _ (I.tok _) j)
theorem wG{m:Str}{g:Addr}{pl:Sem Bool}{Q:Value×List Value→Shared→Prop}(I:Inv X pins σ H s)(e:H a=some (.ins C dx fs))(c:JR X.K C)(k:Meth X.K C m g)(l:fs.lookup m=none)
  (h:Q (.ref g,[.ref a]) s):wpAny (model X.prog X.w) A (getMethod (.ref a) m pl) Q E s:=by
 obtain⟨mA,O,r,_,_,_⟩:=zU I.hok e
 have j:mA m=none:=pF.none_of (by rw[←l];exact r m)
 exact Q3 I.o5 O (c.get m) k.at_ k.fn j h
theorem vp{y:V}{u:Value}{Q:Unit→Shared→Prop}(I:Inv X pins σ H s)(e:H a=some (.ins C dx fs))(c:JR X.K C)(n:bu X.K C f)(U:fs.length<1000)(S:RelV y u)
  (h:∀s',Inv X pins σ (upd H a (.ins C dx (gZ f y fs))) s'→Q () s'):wpAny (model X.prog X.w) A (setAttr (.ref a) f u) Q E s:=by
 obtain⟨mA,O,r,D,_,F⟩:=zU I.hok e
 have hz:(fs.map (·.1)).length≤sizeLine:=by rw[ap,sizeLine_eq];lia
 refine RX I.o5 O c.sa c.po n.taker c.hd D hz fun h' j G=>h _ ?_
 have hd:∃o,h'.get? dx=some o:=let⟨o,_,_,e',_⟩:=j.ns;⟨o,e'⟩
 refine I.write (x:=a) (e:=dx) (by rw[e];exact True.intro) (.inr F) (fun b q J z=>(G.2 b J).trans z) hd ?_
 refine⟨by rw[aA O.ne];exact F,?_,O.ne,j.obj,_,j.ns,fun g=>?_,fun g L=>?_⟩
 ·have:=tV f y fs;lia
 ·show pF ((gZ f y fs).lookup g) (if g=f then some u else mA g)
  rw[tU]
  by_cases q:g=f
  ·rw[mr q,mr q];exact S
  ·rw[ml q,ml q];exact r g
 ·by_cases q:g=f
  ·rw[q];exact(rT f y fs).1
  ·refine(rT f y fs).2 g (D g fun z=>L ?_)
   show(if g=f then some u else mA g)=none
   rw[ml q];exact z
theorem Inv.made(I:Inv X pins σ H s):Inv X pins σ (upd (upd H s.heap.objs.size (.own (s.heap.objs.size+1))) (s.heap.objs.size+1) (.ins C s.heap.objs.size []))
    { s with heap:=(s.heap.push PySem.W.emptyDict).push (PySem.W.instObj C s.heap.objs.size) }:=by
  have j:(s.heap.push PySem.W.emptyDict).get? s.heap.objs.size=some PySem.W.emptyDict:=Heap.get?_push_size s.heap rfl
  have D:((s.heap.push PySem.W.emptyDict).push (PySem.W.instObj C s.heap.objs.size)).get? (s.heap.objs.size+1)=some (PySem.W.instObj C s.heap.objs.size):=by
    have:=Heap.get?_push_size (s.heap.push PySem.W.emptyDict) (o:=PySem.W.instObj C s.heap.objs.size) rfl
    rwa[Heap.size_push]at this
  have z:(s.heap.push PySem.W.emptyDict).Ns s.heap.objs.size (fun _=>none):=⟨PySem.W.emptyDict,#[],_,j,rfl,(fun e F=>absurd F (by simp)),fun _=>rfl⟩
  have G:=I.laid (a:=s.heap.objs.size) (o:=.own (s.heap.objs.size+1)) (h':=s.heap.push PySem.W.emptyDict) (t':=s.toks) (fun b u q=>Heap.get?_push_of_some _ q) (i' _) ⟨_,j⟩
  refine G.laid (a:=s.heap.objs.size+1) (o:=.ins C s.heap.objs.size []) (t':=s.toks) (fun b u q=>Heap.get?_push_of_some _ q) (Nat.le_of_eq (Heap.size_push _ _)) ?_
  have ne:s.heap.objs.size≠s.heap.objs.size+1:=md (Nat.lt_succ_self _)
  refine⟨by rw[aA ne,au],Nat.zero_le _,ne,D,fun _=>none,(Heap.Ns1.of_empty z).at fun o q=>Heap.get?_push_of_some _ q,fun _=>True.intro,fun y J=>absurd rfl J⟩
theorem JL{prog:Program}{w:World}{env:Env}{e:Expr}{f:Str}{pos:Pos}{s:Shared}{Q:Value→Shared→Prop}(j:attributeBase e f env (eval e env)=eval e env)
  (h:wpAny (model prog w) A (eval e env) (fun o s₁=>wpAny (model prog w) A (getAttr o f true) Q E s₁) E s):wpAny (model prog w) A (eval (.Attribute e f pos) env) Q E s :=
 Attribute_any_ h (by rw[arm_eval_Attribute,j])
end
noncomputable def uf(K:PySem.W.Frag)(ta:TE)(f:Str):TE:=fun σ H Q=>ta σ H fun x H1=>∃a C dx fs v,x=.ref a∧H1 a=some (.ins C dx fs)∧JR K C∧bu K C f∧fs.lookup f=some v∧Q v H1
noncomputable def Zy(K:PySem.W.Frag)(ta tv:TE)(f:Str):TS:=fun D σ H=>tv σ H fun y H1=>ta σ H1 fun x H2=>∃a C dx fs,x=.ref a∧H2 a=some (.ins C dx fs)∧JR K C∧bu K C f∧fs.length<1000 ∧
 D.nx σ (upd H2 a (.ins C dx (gZ f y fs)))
noncomputable def Zc(X:Cx)(op:Operator)(rd:V→V→Hp→VK→Prop):Prop :=
 ∀(pins:List (Addr×Obj))(s:Shared)(σ:St)(H:Hp)(x y:V)(u v:Value)(Q:VK),Inv X pins σ H s→RelV x u→RelV y v→rd x y H Q→wpAny (model X.prog X.w) X.A (inplaceOp op u v) (EP X pins σ Q) X.xe s
noncomputable def Sq(K:PySem.W.Frag)(ta tv:TE)(rd:V→V→Hp→VK→Prop)(f:Str):TS:=fun D σ H=>ta σ H fun x H1=>∃a C dx fs v,x=.ref a∧H1 a=some (.ins C dx fs)∧JR K C∧bu K C f∧fs.lookup f=some v ∧
 tv σ H1 fun y H2=>rd v y H2 fun z F=>∃j fs',F a=some (.ins C j fs')∧fs'.length<1000∧D.nx σ (upd F a (.ins C j (gZ f z fs')))
section
variable {X:Cx} {o e value:Expr} {f:Str} {pos pos' tpos:Pos} {ta tv:TE}
theorem aJ(G:PE X e ta)(F:attributeBase e f X.env (eval e X.env)=eval e X.env):PE X (.Attribute e f pos) (uf X.K ta f):=by
 intro pins s σ H Q I h
 refine JL F (cW (G pins s σ H _ I h) fun u s1 hz=>?_)
 obtain⟨x,H1,J,D,a,C,dx,fs,v,ex,L,c,n,l,q⟩:=hz
 subst ex
 obtain rfl:u=Value.ref a:=D
 exact wH J L c n l fun O s2 z j=>⟨v,H1,z,j,q⟩
theorem fj(U:PE X o ta)(Y:PE X value tv)(F:swapsWith value (some (.Attribute o f pos')) pos.line X.env=pure false):PS X (.Assign [.Attribute o f pos'] value pos) (Zy X.K ta tv f):=by
 intro pins s σ H D I h
 refine plainObj_wpAny_Assign_Attribute (cW (Y pins s σ H _ I h) fun u s1 ⟨y,H1,G,Z,q⟩=>cW (U pins s1 σ H1 _ G q) fun S s2 hz=>?_) F
 obtain⟨x,H2,j,z,a,C,dx,fs,ex,J,c,n,l,O⟩:=hz
 subst ex
 obtain rfl:S=Value.ref a:=z
 exact vp j J c n l Z fun s3 L=>⟨σ,_,L,O⟩
theorem rG{op:Operator}{rd:V→V→Hp→VK→Prop}(ha:PE X o ta)(hv:PE X value tv)(j:Zc X op rd):PS X (.AugAssign (.Attribute o f tpos) op value pos) (Sq X.K ta tv rd f):=by
 intro pins s σ H D I h
 refine wpAny_AugAssign_AttributeAny (cW (ha pins s σ H _ I h) fun ov s1 hz=>?_)
 obtain⟨x,H1,Y,S,a,C,dx,fs,v,ex,Z,c,n,l,q⟩:=hz
 subst ex
 obtain rfl:ov=Value.ref a:=S
 refine wH Y Z c n l fun u s2 L G=>cW (hv pins s2 σ H1 _ L q) fun J s3 ⟨y,H2,I3,ry,q3⟩=>cW (j pins s3 σ H2 v y u J _ I3 G ry q3) fun w4 s4 hz=>?_
 obtain⟨z,H3,I4,rz,ac,fs',F,O,q4⟩:=hz
 exact vp I4 F c n O rz fun s5 U=>⟨σ,_,U,q4⟩
noncomputable def ZL:V→V→Hp→VK→Prop:=fun x y H Q=>∃i j,x=.int i∧y=.int j∧Q (.int (i+j)) H
theorem Hc:Zc X .Add ZL:=by
 rintro pins s σ H x y u v Q I z D ⟨i,j,rfl,rfl,q⟩
 obtain⟨t,rfl⟩:=(show ∃t,u=Value.int i t from z)
 obtain⟨t',rfl⟩:=(show ∃t',v=Value.int j t' from D)
 exact PyProof.Rows.iadd_int ⟨.int (i+j),H,I.tok _,⟨_,rfl⟩,q⟩
end
section
variable {X:Cx} {pins:List (Addr×Obj)} {σ:St} {H:Hp} {s:Shared} {A:Around} {E:Value→Shared→Prop} {Q:Value→Shared→Prop} {c:Value} {b:Bool}
end
end L2
namespace L2
open PySem PySem.Spec PyProof.Rows
structure bB (k:Nat) (A:Around):Prop where
 hd:A.handled=none
 dp:A.depth+3*k+5<recursionLimit
 un:A.units+16*k+200<cLine
theorem bB.mono{j k:Nat}{A:Around}(r:bB k A)(h:j≤k):bB j A:=⟨r.hd,by have:=r.dp;lia,by have:=r.un;lia⟩
theorem bB.deeper{k:Nat}{A:Around}(r:bB (k+1) A)(env:Env):bB k (A.deeper env) :=
 ⟨r.hd,by have:=r.dp;show A.depth+1+3*k+5<_;lia,by have:=r.un;show A.units+3+16*k+200<_;lia⟩
theorem GX{A:Around}{C:Addr}{us:List Value}{j:List (Str×Value)}:(A.under (.builtin "type.__call__" ⟨.ref C::us,j⟩)).depth=A.depth+1:=by
 first | rfl | simp[Around.under,Code.weight,Code.isCreation,Code.isGuard,Code.isCaller,Code.frames,Code.isFrame,guardIds]
theorem GQ{A:Around}{C:Addr}{us:List Value}{j:List (Str×Value)}:(A.under (.builtin "type.__call__" ⟨.ref C::us,j⟩)).units=A.units+1:=by
 first | rfl | simp[Around.under,Code.cUnits,Code.frames,Code.isFrame]
theorem bB.make{k:Nat}{A:Around}(r:bB (k+1) A)(C:Addr)(us:List Value)(j:List (Str×Value)):bB k (A.under (.builtin "type.__call__" ⟨.ref C::us,j⟩)) :=
 ⟨r.hd,by have:=r.dp;rw[GX];lia,by have:=r.un;rw[GQ];lia⟩
theorem bB.depth{k:Nat}{A:Around}(r:bB k A):A.depth<recursionLimit:=by have:=r.dp;lia
theorem bB.units{k:Nat}{A:Around}(r:bB k A):A.units+64<cLine:=by have:=r.un;lia
noncomputable def dj:TA:=fun _ H Q=>Q [] H
noncomputable def bh(ta:TE)(j:TA):TA:=fun σ H Q=>ta σ H fun x H1=>j σ H1 fun xs H2=>Q (x::xs) H2
section
variable {X:Cx} {e:Expr} {es:List Expr} {te:TE} {t:TA} {pos:Pos}
theorem aq:PA X [] dj:=fun _ _ _ _ H Q I h=>Calls.spliced_nil ⟨[],H,I,.nil,h⟩
theorem aa(J:PE X e te)(O:PA X es t)(D:starEach (e::es) X.env=(false,eval e X.env)::starEach es X.env:=by rfl):PA X (e::es) (bh te t):=by
 intro pos pins s σ H Q I h
 rw[D]
 show wpAny _ _ (spliced ((false,eval e X.env)::backTo pos (starEach es X.env))) _ _ s
 refine Calls.spliced_cons (cW (J pins s σ H _ I h) fun u s1 ⟨x,H1,F,L,z⟩=>?_)
 exact cW (O pos pins s1 σ H1 _ F z) fun us s2 ⟨xs,H2,j,r2,G⟩=>⟨x::xs,H2,j,.cons L r2,G⟩
noncomputable def Np(t:TA):TE:=fun σ H Q=>t σ H fun xs H1=>xs.length≤sizeLine∧∀p,H1 p=none→Q (.ref p) (upd H1 p (.tup xs))
noncomputable def ie(t:TA):TE:=fun σ H Q=>t σ H fun xs H1=>xs.length≤sizeLine∧∀p,H1 p=none→Q (.ref p) (upd H1 p (.lst xs))
theorem bw{x1}(h:PA X es t):PE X (.Tuple es x1 pos) (Np t):=by
 intro pins s σ H Q I F
 refine wpAny_Tuple_spliced (cW (h pos pins s σ H _ I F) fun us s1 ⟨xs,H1,j,r,z,q⟩=>⟨by rw[←r.length];exact z,?_⟩)
 have D:H1 s1.heap.objs.size=none:=j.hok.fresh (i' _)
 refine⟨.ref s1.heap.objs.size,upd H1 s1.heap.objs.size (.tup xs),j.laid (t':=s1.toks) (fun b u e=>Heap.get?_push_of_some _ e) (i' _) ?_,rfl,q _ D⟩
 exact⟨z,us,r,⟨_,Heap.get?_push_size _ rfl,rfl,_,rfl⟩⟩
theorem b8(h:PA X es t):PE X (.List es pos) (ie t):=by
 intro pins s σ H Q I F
 refine wpAny_List_spliced (cW (h pos pins s σ H _ I F) fun us s1 ⟨xs,H1,j,r,z,q⟩=>⟨by rw[←r.length];exact z,?_⟩)
 have D:H1 s1.heap.objs.size=none:=j.hok.fresh (i' _)
 refine⟨.ref s1.heap.objs.size,upd H1 s1.heap.objs.size (.lst xs),j.laid (t':=s1.toks) (fun b u e=>Heap.get?_push_of_some _ e) (i' _) ?_,rfl,q _ D⟩
 exact⟨z,us,0,r,Heap.get?_push_size _ rfl⟩
end
noncomputable abbrev Sp:=List V→Hp→VK→XK→Prop
noncomputable abbrev JS:=List Env→Hp→Shared→XK→Value→Shared→Prop
structure Hz (P:Program) (w:World) (K:PySem.W.Frag) (mg:Str→Option Value) (base:Heap) (A:Around) (outer:List Env) (s:Shared) (H:Hp):Prop where
 frames:A.frames=some outer
 mod:Mod K mg base
 bs:∀b o,base.get? b=some o→s.heap.get? b=some o∧H b=none
 bsz:base.objs.size≤s.heap.objs.size
 qz:s.heap.FunFrames base outer
 frf:∀b∈frs outer,H b=none
 hok:ou P w H s.heap
 bare:AllBare s.gens
noncomputable def CE(outer:List Env)(P:Program)(w:World)(H:Hp)(s:Shared)(Q:VK)(u:Value)(s':Shared):Prop :=
 ∃v H',s'.os=s.os∧AllBare s'.gens∧Un (frs outer) [] H H' s.heap s'.heap∧ou P w H' s'.heap∧RelV v u∧Q v H'
noncomputable def CR(CX:JS)(outer:List Env)(P:Program)(w:World)(H:Hp)(s:Shared)(Q:VK)(E:XK)(r:Result)(s':Shared):Prop :=
 match r with
 | .ok (.ret u)=>CE outer P w H s Q u s'
 | .ok _=>False
 | .error e=>CX outer H s E e s'
structure aL (P:Program) (w:World) (K:PySem.W.Frag) (mg:Str→Option Value) (base:Heap) (CX:JS) (k:Nat) (f:Addr) (fd:FuncData) (ps:List Str) (sp:Sp):Prop where
 len:∀vs H Q E,sp vs H Q E→vs.length=ps.length
 run:∀(A:Around)(outer:List Env)(s:Shared)(H:Hp)(args:Args)(us:List Value)(vs:List V)(Q:VK)(E:XK),bB k A→Hz P w K mg base A outer s H→BindsTo s fd args (ps.zip us)→Vals vs us→sp vs H Q E →
  codeAny (model P w) A (.call (.ref f) args) (CR CX outer P w H s Q E) s
theorem Hz.make{P:Program}{w:World}{K:PySem.W.Frag}{mg:Str→Option Value}{base:Heap}{A:Around}{outer:List Env}{s:Shared}{H:Hp}(e:Hz P w K mg base A outer s H)(C:Addr)(us:List Value)(j:List (Str×Value)) :
  Hz P w K mg base (A.under (.builtin "type.__call__" ⟨.ref C::us,j⟩)) outer s H:=⟨by first | exact e.frames | (simpa[Around.under,Code.envs,Code.isFrame,pushEnvs]using e.frames),e.mod,e.bs,e.bsz,e.qz,e.frf,e.hok,e.bare⟩
section
variable {X:Cx} {pins:List (Addr×Obj)} {σ:St} {H:Hp} {s s':Shared}
theorem Inv.env0(I:Inv X pins σ H s):Hz X.prog X.w X.K X.mg X.base X.A X.stack s H :=
 ⟨I.ok.frames,I.ok.mod,I.bs,lS I.ok.bsz I.sz,I.stack,I.pK,I.hok,I.bare⟩
theorem Inv.after{Q:VK}{u:Value}(I:Inv X pins σ H s)(h:CE X.stack X.prog X.w H s Q u s'):EP X pins σ Q u s':=by
 obtain⟨v,H',os,bare,un,hok,r,q⟩:=h
 obtain⟨D,g,d,t,j⟩:=s'
 obtain rfl:j=s.os:=os
 exact⟨v,H',I.call (h':=D) (g':=g) (d':=d) (t':=t) (ch:=[]) un hok bare (fun b z=>absurd z (by simp)),r,q⟩
end
noncomputable def lA(sp:Sp)(dvs:List V)(E:XK)(t:TA):TE:=fun σ H Q=>t σ H fun vs H1=>sp (vs++dvs) H1 Q E
noncomputable def pI(C:Addr)(m:Str)(sp:Sp)(dvs:List V)(E:XK)(ta:TE)(t:TA):TE:=fun σ H Q=>ta σ H fun x H1=>∃a dx fs,x=.ref a∧H1 a=some (.ins C dx fs)∧fs.lookup m=none ∧
 t σ H1 fun vs H2=>sp (x::(vs++dvs)) H2 Q E
noncomputable def X7(C:Addr)(sp:Sp)(dvs:List V)(E:XK)(t:TA):TE:=fun σ H Q=>t σ H fun vs H1=>∀x dx,H1 x=none→H1 dx=none→dx≠x →
 sp (.ref x::(vs++dvs)) (upd (upd H1 dx (.own x)) x (.ins C dx [])) (fun v H2=>v=.non∧Q (.ref x) H2) E
noncomputable def Binds(K:PySem.W.Frag)(fd:FuncData)(ps:List Str)(ds:List Value):Prop :=
 ∀(s:Shared)(us:List Value),K.In s.heap→(us++ds).length=ps.length→BindsTo s fd ⟨us,[]⟩ (ps.zip (us++ds))
theorem Binds.all{K:PySem.W.Frag}{fd:FuncData}{ps:List Str}(h:∀us:List Value,us.length=ps.length→bindArgs fd ⟨us,[]⟩=pure (ps.zip us)):Binds K fd ps []:=fun s us _ j=>by
 rw[mh]at j ⊢
 exact .of_eq (h us j)
noncomputable def jm(CX:JS)(X:Cx)(E:XK):Prop:=∀(pins:List (Addr×Obj))(σ:St)(H:Hp)(s:Shared)(e:Value)(s':Shared),Inv X pins σ H s→CX X.stack H s E e s'→X.xe e s'
section
variable {X:Cx} {CX:JS} {k:Nat} {f C:Addr} {fd:FuncData} {ps:List Str} {sp:Sp} {dvs:List V} {ds:List Value} {E:XK} {x m:Str} {p pos apos:Pos} {e o:Expr} {es:List Expr} {ta:TE} {t:TA}
theorem zF{pins:List (Addr×Obj)}{σ:St}{H:Hp}{s:Shared}{Q:VK}{us:List Value}{vs:List V}(F:aL X.prog X.w X.K X.mg X.base CX k f fd ps sp)(G:bB k X.A)(D:Binds X.K fd ps ds)(hd:Vals dvs ds)(hx:jm CX X E)
  (I:Inv X pins σ H s) (r:Vals vs us) (h:sp (vs++dvs) H Q E):wpAny (model X.prog X.w) X.A (call (.ref f) us) (EP X pins σ Q) X.xe s:=by
 have r2:Vals (vs++dvs) (us++ds):=r.append hd
 have z:(us++ds).length=ps.length:=by rw[←r2.length];exact F.len _ _ _ _ h
 refine wpAny_call (codeAny_mono (F.run X.A X.stack s H ⟨us,[]⟩ (us++ds) (vs++dvs) Q E G I.env0 (D s us I.o5 z) r2 h) fun r s' j=>?_)
 cases r with
 | error e=>exact hx pins σ H s e s' I j
 | ok fl =>
  cases fl with
  | ret u=>exact I.after j
  | next=>exact False.elim j
  | brk=>exact False.elim j
  | cont=>exact False.elim j
theorem aK(F:aL X.prog X.w X.K X.mg X.base CX k f fd ps sp)(Y:bB k X.A)(S:Gl X x)(G:X.mg x=some (.ref f))(J:PySem.W.keepIn X.K (.ref f)=true)(L:Binds X.K fd ps ds)(hd:Vals dvs ds)(hx:jm CX X E)
  (U:PA X (e::es) t) (z:(x==("__debug__" : Str))=false:=by decide) (O:starEach (e::es) X.env=(false,eval e X.env)::starEach es X.env:=by rfl) (j:(backTo pos (starEach es X.env)).any (·.1)=false:=by rfl) :
  PE X (.Call (.Name x p) (e::es) [] pos) (lA sp dvs E t):=by
 intro pins s σ H Q I h
 refine wpAny_Call_Name_kw (jQ I S G ?_ z)
 refine PySem.W.callWith_K (h₀:=X.base) I.ok.mod.kin J (cW (U pos pins s σ H _ I h) fun us s1 ⟨vs,H1,D,r,q⟩=>⟨D.o5,?_⟩) O j
 exact zF F Y L hd hx D r q
theorem gW{pl:Sem Bool}(U:PE X o ta)(c:JR X.K C)(G:Meth X.K C m f)(F:aL X.prog X.w X.K X.mg X.base CX k f fd ps sp)(hr:bB k X.A)(S:Binds X.K fd ps ds)(hd:Vals dvs ds)(hx:jm CX X E)(ha:PA X (e::es) t)
  (j:starEach (e::es) X.env=(false,eval e X.env)::starEach es X.env:=by rfl) (z:(backTo pos (starEach es X.env)).any (·.1)=false:=by rfl)
  (ht:eval (.Call (.Attribute o m apos) (e::es) [] pos) X.env=(do
   let L ←eval o X.env
   standAt apos.atName
   let(f,first) ←holding [L] (getMethod L m pl)
   callWith pos f first (backTo pos (starEach (e::es) X.env)) (backToKw pos (keywordEach [] X.env))):=by rfl) :
  PE X (.Call (.Attribute o m apos) (e::es) [] pos) (pI C m sp dvs E ta t):=by
 intro pins s σ H Q I h
 refine PySem.W.methodCall_KW (pl:=pl) (cW (U pins s σ H _ I h) fun u s1 hz=>?_) ht
 obtain⟨x,H1,J,O,a,dx,fs,ex,Y,l,q⟩:=hz
 subst ex
 obtain rfl:u=Value.ref a:=O
 refine wG J Y c G l ?_
 refine PySem.W.callWith_K (first:=[.ref a]) (h₀:=X.base) I.ok.mod.kin G.kp (cW (ha pos pins s1 σ H1 _ J q) fun us s2 ⟨vs,H2,D,r,Z⟩=>⟨D.o5,?_⟩) j z
 exact zF (us:=.ref a::us) (vs:=.ref a::vs) F hr S hd hx D (.cons rfl r) Z
theorem eE{pl:Sem Bool}(L:PE X o ta)(c:JR X.K C)(z:Meth X.K C m f)(F:aL X.prog X.w X.K X.mg X.base CX k f fd ps sp)(U:bB k X.A)(J:Binds X.K fd ps ds)(hd:Vals dvs ds)(hx:jm CX X E)
  (S:eval (.Call (.Attribute o m apos) [] [] pos) X.env=(do
   let D ←eval o X.env
   standAt apos.atName
   let(f,first) ←holding [D] (getMethod D m pl)
   callWith pos f first (backTo pos (starEach [] X.env)) (backToKw pos (keywordEach [] X.env))):=by rfl) :
  PE X (.Call (.Attribute o m apos) [] [] pos) (pI C m sp dvs E ta dj):=by
 intro pins s σ H Q I h
 refine PySem.W.methodCall_KW (pl:=pl) (cW (L pins s σ H _ I h) fun u s1 hz=>?_) S
 obtain⟨x,H1,j,G,a,dx,fs,ex,O,l,q⟩:=hz
 subst ex
 obtain rfl:u=Value.ref a:=G
 refine wG j O c z l ?_
 exact PySem.W.callWith_K0 (first:=[.ref a]) j.o5 z.kp (zF (us:=[.ref a]) (vs:=[.ref a]) F U J hd hx j (.cons rfl .nil) q)
structure Mk (K:PySem.W.Frag) (C f:Addr):Prop where
 makes:PySem.W.makesIn K C=true
 init:PySem.W.findIn K (.ref C) "__init__"=some (some (.ref f))
 fn:PySem.W.isFn K (.ref f)=true
 kp:PySem.W.keepIn K (.ref C)=true
theorem O_{pins:List (Addr×Obj)}{σ:St}{H:Hp}{s:Shared}{Q:VK}{us:List Value}{vs:List V}(M:Mk X.K C f)(F:aL X.prog X.w X.K X.mg X.base CX k f fd ps sp)(Y:bB (k+1) X.A)(J:Binds X.K fd ps ds)(hd:Vals dvs ds)
  (hx:jm CX X E) (I:Inv X pins σ H s) (r:Vals vs us)
  (h:∀x dx,H x=none→H dx=none→dx≠x→sp (.ref x::(vs++dvs)) (upd (upd H dx (.own x)) x (.ins C dx [])) (fun v H2=>v=.non∧Q (.ref x) H2) E) :
  wpAny (model X.prog X.w) X.A (call (.ref C) us) (EP X pins σ Q) X.xe s:=by
 have D:=h (s.heap.objs.size+1) s.heap.objs.size (I.hok.fresh (Nat.le_succ _)) (I.hok.fresh (i' _)) (md (Nat.lt_succ_self _))
 have z:=Inv.made (C:=C) I
 have r2:Vals (V.ref (s.heap.objs.size+1)::(vs++dvs)) (Value.ref (s.heap.objs.size+1)::(us++ds)):=.cons rfl (r.append hd)
 have G:(Value.ref (s.heap.objs.size+1)::us++ds).length=ps.length:=by
  have e:=r2.length
  rw[F.len _ _ _ _ D]at e
  exact e.symm
 refine wpAny_call (Qz (f:=f) I.o5 M.makes M.init (beq_iff_eq.mp M.fn) (codeAny_mono (F.run _ X.stack _ _ ⟨Value.ref (s.heap.objs.size+1)::us,[]⟩ (Value.ref (s.heap.objs.size+1)::(us++ds)) _ _ E (Y.make C us [])
  (z.env0.make C us []) (J _ (Value.ref (s.heap.objs.size+1)::us) z.o5 G) r2 D) fun r s' j=>?_))
 cases r with
 | error e=>exact hx pins σ _ _ e s' z j
 | ok fl =>
  cases fl with
  | ret u =>
   obtain⟨v,H',S,O,L,U⟩:=z.after j
   subst L
   exact⟨O,⟨V.ref (s.heap.objs.size+1),H',S,rfl,U⟩⟩
  | next=>exact False.elim j
  | brk=>exact False.elim j
  | cont=>exact False.elim j
theorem dh(M:Mk X.K C f)(F:aL X.prog X.w X.K X.mg X.base CX k f fd ps sp)(U:bB (k+1) X.A)(O:Gl X x)(G:X.mg x=some (.ref C))(J:Binds X.K fd ps ds)(hd:Vals dvs ds)(hx:jm CX X E)
  (S:PA X (e::es) t) (z:(x==("__debug__" : Str))=false:=by decide) (L:starEach (e::es) X.env=(false,eval e X.env)::starEach es X.env:=by rfl) (j:(backTo pos (starEach es X.env)).any (·.1)=false:=by rfl) :
  PE X (.Call (.Name x p) (e::es) [] pos) (X7 C sp dvs E t):=by
 intro pins s σ H Q I h
 refine wpAny_Call_Name_kw (jQ I O G ?_ z)
 refine PySem.W.callWith_K (h₀:=X.base) I.ok.mod.kin M.kp (cW (S pos pins s σ H _ I h) fun us s1 ⟨vs,H1,D,r,q⟩=>⟨D.o5,?_⟩) L j
 exact O_ M F U J hd hx D r q
end
noncomputable def PK(X:Cx)(kws:List Keyword)(t:TA):Prop :=
 ∀(pos:Pos)(pins:List (Addr×Obj))(s:Shared)(σ:St)(H:Hp)(Q:List V→Hp→Prop),Inv X pins σ H s→t σ H Q→wpAny (model X.prog X.w) X.A (evalAll ((backToKw pos (keywordEach kws X.env)).map (·.2))) (AP X pins σ Q) X.xe s
section
variable {X:Cx} {CX:JS} {k:Nat} {f C:Addr} {fd:FuncData} {ps ks:List Str} {sp:Sp} {E:XK} {x m:Str} {p pos apos kpos:Pos} {e o:Expr} {es:List Expr} {kws:List Keyword} {te ta:TE} {t tk:TA} {nm:Option Str}
theorem Wo:PK X [] dj:=fun _ _ _ _ H Q I h=>wpAny_evalAll_nil ⟨[],H,I,.nil,h⟩
theorem Sy(G:PE X e te)(L:PK X kws t):PK X (⟨nm,e,kpos⟩::kws) (bh te t):=by
 intro pos pins s σ H Q I h
 show wpAny _ _ (evalAll ((do let v ←eval e X.env;standAt pos;pure v)::(backToKw pos (keywordEach kws X.env)).map (·.2))) _ _ s
 refine wpAny_evalAll_cons (wpAny_bind (cW (G pins s σ H _ I h) fun u s1 ⟨x,H1,D,J,z⟩=>wpAny_bind (wpAny_standAt (wpAny_pure ?_))))
 exact cW (L pos pins s1 σ H1 _ D z) fun us s2 ⟨xs,H2,j,r2,F⟩=>⟨x::xs,H2,j,.cons J r2,F⟩
variable {g:List Value→List Value→List Value} {gV:List V→List V→List V}
end
structure aO (N P:List Str) (sc:Scope):Prop where
 kind:sc.kind=.function
 co:sc.isCoroutine=false
 gen:sc.isGenerator=false
 nd:N.Nodup
 pre:N.take P.length=P
 par:∀x∈P,sc.names.lookup x=some .local∨sc.names.lookup x=some .cell
 nofree:∀y∈sc.names,y.2≠.free
theorem yN{kindOf:Str→Option NameKind}{x:Str}:∀{binds:List (Str×Value)}{m:Str→Option Value},(∀v,(x,v)∉binds)→bindL kindOf binds m x=m x
 | [],_,_=>rfl
 | (n,v)::r,m,h=>by
  unfold bindL
  rw[yN fun w hw=>h w (am _ hw)]
  split
  ·have:x≠n:=by rintro rfl;exact h v ci
   simp[this]
  ·rfl
theorem yP{kindOf:Str→Option NameKind}{x:Str}:∀{binds:List (Str×Value)}{m:Str→Option Value},(∀v,(x,v)∉binds)→bindC kindOf binds m x=m x
 | [],_,_=>rfl
 | (n,v)::r,m,h=>by
  unfold bindC
  rw[yP fun w hw=>h w (am _ hw)]
  split
  ·rfl
  ·have:x≠n:=by rintro rfl;exact h v ci
   simp[this]
theorem yO{kindOf:Str→Option NameKind}{x:Str}{v:Value}:∀{P:List Str}{vs:List Value}{i:Nat}{m:Str→Option Value},P.Nodup→P[i]?=some x→vs[i]?=some v→kindOf x=some .local →
  bindL kindOf (P.zip vs) m x=some v
 | [],_,_,_,_,h,_,_=>by simp at h
 | _::_,[],_,_,_,_,h,_=>by simp at h
 | p::P,w::vs,0,m,nd,h1,h2,j=>by
  simp at h1 h2;subst h1;subst h2
  show bindL kindOf ((p,w)::P.zip vs) m p=_
  unfold bindL
  rw[yN fun v z=>(List.nodup_cons.mp nd).1 (List.of_mem_zip z).1,mr j]
  simp
 | p::P,w::vs,i+1,m,nd,h1,h2,j=>by
  show bindL kindOf ((p,w)::P.zip vs) m x=_
  unfold bindL
  exact yO (i:=i) (List.nodup_cons.mp nd).2 (by simpa using h1) (by simpa using h2) j
theorem yQ{kindOf:Str→Option NameKind}{x:Str}{v:Value}:∀{P:List Str}{vs:List Value}{i:Nat}{m:Str→Option Value},P.Nodup→P[i]?=some x→vs[i]?=some v→kindOf x≠some .local →
  bindC kindOf (P.zip vs) m x=some v
 | [],_,_,_,_,h,_,_=>by simp at h
 | _::_,[],_,_,_,_,h,_=>by simp at h
 | p::P,w::vs,0,m,nd,h1,h2,j=>by
  simp at h1 h2;subst h1;subst h2
  show bindC kindOf ((p,w)::P.zip vs) m p=_
  unfold bindC
  rw[yP fun v z=>(List.nodup_cons.mp nd).1 (List.of_mem_zip z).1,ml j]
  simp
 | p::P,w::vs,i+1,m,nd,h1,h2,j=>by
  show bindC kindOf ((p,w)::P.zip vs) m x=_
  unfold bindC
  exact yQ (i:=i) (List.nodup_cons.mp nd).2 (by simpa using h1) (by simpa using h2) j
noncomputable def start(N:List Str)(vs:List V):St:=vs.map some++List.replicate (N.length-vs.length) none
noncomputable def jY(CX:JS)(P:Program)(w:World)(K:PySem.W.Frag)(mg:Str→Option Value)(base:Heap)(N:List Str)(qual:Str)(scope:Scope)(f:Addr)(cd:Value)(A:Around)(outer:List Env)(s:Shared)(H:Hp)(E:XK):Cx where
 prog:=P
 w:=w
 K:=K
 mg:=mg
 base:=base
 A:=A.deeper (envOfC qual scope s.heap.objs.size f cd)
 N:=N
 s_0:=s
 H_0:=H
 env:=envOfC qual scope s.heap.objs.size f cd
 outer:=outer
 stack:=envOfC qual scope s.heap.objs.size f cd::outer
 ex:=[]
 calm:=true
 fn:=fun _=>true
 pn:=[]
 xe:=fun e s'=>wpAny (model P w) (A.deeper (envOfC qual scope s.heap.objs.size f cd)) (leaving (envOfC qual scope s.heap.objs.size f cd) e) (fun _ j=>CX outer H s E e j) (fun z j=>CX outer H s E z j) s'
theorem Du{sc:Scope}{n:Nat}{x:Str}(h:sc.names.lookup x=some .cell):∃c,(cellsFrom n sc.names []).lookup x=some c:=by
 have q:=PySem.W.cellsFrom_some sc.names n [] (.inl h)
 exact Option.isSome_iff_exists.mp q
theorem Lx{CX:JS}{P:Program}{w:World}{K:PySem.W.Frag}{mg:Str→Option Value}{base:Heap}{N ps:List Str}{qual:Str}{scope:Scope}{f:Addr}{cd:Value}{A:Around}{outer:List Env}{s s1:Shared}{H:Hp}{E:XK}{us:List Value}{vs:List V}
  (S:aO N ps scope) (hd:A.handled=none) (j:Hz P w K mg base A outer s H) (hl:vs.length=ps.length) (r:Vals vs us)
  (x:InCallC s s.heap.objs.size (bindL (envOfC qual scope s.heap.objs.size f cd).kindOf (ps.zip us) fun _=>none) (cellsFrom (s.heap.objs.size+1) scope.names []) (bindC (envOfC qual scope s.heap.objs.size f cd).kindOf (ps.zip us) fun _=>none) s1) :
  Inv (jY CX P w K mg base N qual scope f cd A outer s H E) [] (start N vs) H s1:=by
 have Z:ps.length≤N.length:=by have:=congrArg List.length S.pre;rw[lp]at this;lia
 obtain⟨h1,tk,rfl,L⟩:=x.done
 have D:∀b:Addr,b∉(jY CX P w K mg base N qual scope f cd A outer s H E).ex:=fun b z=>absurd (show b∈([]:List Addr)from z) (by simp)
 refine⟨⟨j.mod,S.kind,rfl,rfl,i' _,fun y z c h1 h2=>?_,fun y F=>?_,fun y c _ h=>?_,fun _=>hd,Around.frames_deeper j.frames,.inr ⟨rfl,rfl⟩,fun b z=>absurd z (D b),j.bs,j.bsz,fun b _ _=>D b,fun b z=>absurd z (D b),j.qz,j.frf⟩,
  rfl,j.bare,Un.kept L,⟨_,x.toInCall.ns,fun i y v h1 h2 h3=>?_⟩,fun y c h=>⟨_,x.cell y c h⟩,j.hok.fresh (i' _),fun y c h=>?_,fun p J=>absurd (show p∈([]:List (Addr×Obj))from J) (by simp),j.hok.kept L,?_⟩
 ·exact name_of_addr x.apart (PySem.mem_of_lookup h1) (PySem.mem_of_lookup h2)
 ·have F:scope.names.lookup y=some .cell∨scope.names.lookup y=some .free:=F
  rcases F with F | F
  ·exact Du F
  ·exact absurd rfl (S.nofree _ (PySem.mem_of_lookup F))
 ·exact Nat.le_of_lt (x.above y c (PySem.mem_of_lookup h))
 ·have hi:i<vs.length:=by
   unfold start at h2
   by_cases hi:i<vs.length
   ·exact hi
   ·rw[List.getElem?_append_right (by simpa using hi)]at h2
    rw[List.getElem?_replicate]at h2
    split at h2<;>cases h2
  have Y:vs[i]?=some v:=by
   unfold start at h2
   rw[List.getElem?_append_left (by simpa using hi),l0]at h2
   cases e:vs[i]? with
   | none=>rw[e]at h2;cases h2
   | some a=>rw[e]at h2;cases h2;rfl
  obtain⟨u,O,U⟩:=r.get Y
  have J:ps[i]?=some y:=by
   rw[←S.pre,List.getElem?_take_of_lt (by lia)];exact h1
  have G:ps.Nodup:=by rw[←S.pre];exact S.nd.sublist (List.take_sublist _ _)
  refine⟨u,U,?_⟩
  rcases S.par y (mw J)with k | k
  ·exact .inl ⟨k,yO G J O k⟩
  ·obtain⟨c,e⟩:=Du (n:=s.heap.objs.size+1) k
   refine .inr ⟨.inl k,c,e,?_⟩
   have q:=x.cell y c e
   rw[yQ G J O (by show scope.names.lookup y≠_;rw[k];decide)]at q
   exact q
 ·exact j.hok.fresh (Nat.le_of_lt (x.above y c (PySem.mem_of_lookup h)))
 ·unfold start
  show _=N.length
  rw[jp,ap,List.length_replicate]
  lia
theorem YS{CX:JS}{P:Program}{w:World}{K:PySem.W.Frag}{mg:Str→Option Value}{base:Heap}{k:Nat}{f:Addr}{name qual:Str}{params:Arguments}{body:List Stmt}{scope:Scope}{Z kV doc pm cdv ct oc:Value}{an od:Option Addr}
  {osl:Array (Option Value)} {N ps:List Str} {sp:Sp} (lk:K.lookup f=some ⟨oc,od,.func (PySem.W.fnOf name qual params body scope Z kV doc pm an cdv ct),osl⟩) (L:PySem.W.codeIn K cdv qual=true) (S:aO N ps scope)
  (len:∀vs H Q E,sp vs H Q E→vs.length=ps.length)
  (j:∀(A:Around)(outer:List Env)(s:Shared)(H:Hp)(vs:List V)(Q:VK)(E:XK),bB k (A.deeper (envOfC qual scope s.heap.objs.size f cdv))→sp vs H Q E →
   ∃t,M4 (jY CX P w K mg base N qual scope f cdv A outer s H E) body t∧t { nx:=fun _ H'=>Q .non H',rt:=Q } (start N vs) H) :
  aL P w K mg base CX (k+1) f (PySem.W.fnOf name qual params body scope Z kV doc pm an cdv ct) ps sp:=by
 refine⟨len,fun A outer s H args us vs Q E U F hb r G=>?_⟩
 have hl:=len _ _ _ _ G
 have Y:K.In s.heap:=F.mod.kin.keeps fun b o e=>(F.bs b o e).1
 have lim:s.heap.NoLimit:=F.mod.nolimit.keeps fun b o e=>(F.bs b o e).1
 have z:∀y∈ps.zip us,scope.names.lookup y.1=some .local∨(scope.names.lookup y.1=some .cell∧((cellsFrom (s.heap.objs.size+1) scope.names []).lookup y.1).isSome=true):=fun⟨n,v⟩ hy=>by
  rcases S.par n (List.of_mem_zip hy).1 with q | q
  ·exact .inl q
  ·exact .inr ⟨q,PySem.W.cellsFrom_some _ _ _ (.inl q)⟩
 refine codeAny_call_function U.depth (Y _ _ lk) rfl S.co S.gen rfl (PySem.W.codeRec_of Y L) (hb _ _ _ _ ?_)
 refine wpAny_newFunctionEnv_cells S.kind z fun env he s1 x=>?_
 subst he
 refine⟨lim.keeps x.toInCall.keep,codeAny_func ?_⟩
 obtain⟨t,ht,hq⟩:=j A outer s H vs Q E (U.deeper _) G
 have I:Inv (jY CX P w K mg base N qual scope f cdv A outer s H E) [] (start N vs) H s1:=Lx S U.hd F hl r x
 refine wpAny_mono (ht [] s1 (start N vs) H _ I hq) (fun fl s' D=>?_) fun e s' D=>D
 have fin:∀{σ':St}{H':Hp}{v:V}{u:Value},Inv (jY CX P w K mg base N qual scope f cdv A outer s H E) [] σ' H' s'→RelV v u→Q v H'→CE outer P w H s Q u s' :=
  fun{σ' H' v u} J O q=>⟨v,H',J.os,J.bare,J.base,J.hok,O,q⟩
 cases fl with
 | ret u =>
  obtain⟨v,σ',H',J,O,q⟩:=D
  exact fin J O q
 | next =>
  obtain⟨σ',H',J,q⟩:=D
  exact fin (v:=V.non) (u:=Value.none) J rfl q
 | brk =>
  obtain⟨_,_,_,q⟩:=D
  exact False.elim q
 | cont =>
  obtain⟨_,_,_,q⟩:=D
  exact False.elim q
end L2
namespace L2
open PySem PySem.Spec PyProof.Rows
section
variable {X:Cx} {x:Str} {p pos:Pos} {e:Expr} {es:List Expr} {t:TA} {id T:String} {r:List V→Hp→VK→Prop}
noncomputable def Nt(r:List V→Hp→VK→Prop)(t:TA):TE:=fun σ H Q=>t σ H fun vs H1=>r vs H1 Q
theorem bH(D:kO X (.builtin id) r)(S:Gl X x)(G:X.mg x=none)(Z:bootBuiltins x=some (.builtin id))(U:PA X (e::es) t)(F:x ≠ "__name__":=by decide)(z:(x==("__debug__" : Str))=false:=by decide)
  (L:starEach (e::es) X.env=(false,eval e X.env)::starEach es X.env:=by rfl) (j:(backTo pos (starEach es X.env)).any (·.1)=false:=by rfl):PE X (.Call (.Name x p) (e::es) [] pos) (Nt r t):=by
 intro pins s σ H Q I h
 refine wpAny_Call_Name_kw (o4 I S G Z ?_ F z)
 exact PyProof.Rows.callWith_builtin1 (cW (U pos pins s σ H _ I h) fun us s1 ⟨vs,H1,O,Y,J⟩=>D pins s1 σ H1 vs us Q O Y J) L j
theorem gk(D:kO X (.type T) r)(S:Gl X x)(G:X.mg x=none)(Z:bootBuiltins x=some (.type T))(U:PA X (e::es) t)(F:x ≠ "__name__":=by decide)(z:(x==("__debug__" : Str))=false:=by decide)
  (L:starEach (e::es) X.env=(false,eval e X.env)::starEach es X.env:=by rfl) (j:(backTo pos (starEach es X.env)).any (·.1)=false:=by rfl):PE X (.Call (.Name x p) (e::es) [] pos) (Nt r t):=by
 intro pins s σ H Q I h
 refine wpAny_Call_Name_kw (o4 I S G Z ?_ F z)
 exact PyProof.Rows.callWith_type1 (cW (U pos pins s σ H _ I h) fun us s1 ⟨vs,H1,O,Y,J⟩=>D pins s1 σ H1 vs us Q O Y J) L j
end
end L2
namespace HT
open PySem PyProof.Rows
section
open PySem.SeqAt
open PySem.AutoSeq1 (wpAny_loadPart')
open PySem.MeetsSeq PySem.MeetsSeq2 PySem.MeetsSeq3
end
section
variable {prog:Program} {w:World} {A:Around} {E:Value→Shared→Prop} {s:Shared}
noncomputable def h_(n d:Nat):Option Int→Nat
 | none=>d
 | some v=>if v<0 then(v+(n:Int)).toNat else min v.toNat n
theorem BK(n d:Nat):h_ n d none=d:=rfl
theorem uI(n d k:Nat):h_ n d (some (k:Int))=min k n:=by
 show(if(k:Int)<0 then((k:Int)+(n:Int)).toNat else min (k:Int).toNat n)=min k n
 rw[ml (by lia),Int.toNat_natCast]
theorem O4(n d:Nat)(hd:d≤n)(o:Option Int):h_ n d o≤n:=by
 cases o with
 | none=>exact hd
 | some v =>
  show(if v<0 then(v+(n:Int)).toNat else min v.toNat n)≤n
  by_cases j:v<0
  ·rw[mr j];lia
  ·rw[ml j];exact Nat.min_le_right _ _
end
end HT
namespace L2
open PySem PySem.Spec PyProof.Rows
noncomputable abbrev TO:=St→Hp→(Option Int→Hp→Prop)→Prop
noncomputable def PO(X:Cx)(e:Option Expr)(t:TO):Prop :=
 ∀(pins:List (Addr×Obj))(s:Shared)(σ:St)(H:Hp)(Q:Option Int→Hp→Prop),Inv X pins σ H s→t σ H Q →
  wpAny (model X.prog X.w) X.A (evalPart e X.env) (fun u s'=>∃o H',Inv X pins σ H' s'∧IsPart u o∧Q o H') X.xe s
noncomputable def RP:TO:=fun _ H Q=>Q none H
noncomputable def X4(t:TE):TO:=fun σ H Q=>t σ H fun x H1=>∃i,x=.int i∧Q (some i) H1
section
variable {X:Cx} {e:Expr} {te:TE} {lo hi:Option Expr} {tl th:TO} {pos p2:Pos}
theorem zL:PO X none RP:=by
 intro pins s σ H Q I h
 rw[evalPart_none]
 exact wpAny_pure ⟨none,H,I,.none,h⟩
theorem jN(h:PE X e te):PO X (some e) (X4 te):=by
 intro pins s σ H Q I hw
 rw[evalPart_some]
 refine cW (h pins s σ H _ I hw) fun u s1 ⟨x,H1,z,D,j⟩=>?_
 obtain⟨i,rfl,q⟩:=j
 obtain⟨t,rfl⟩:=D
 exact⟨some i,H1,z,.int i t,q⟩
noncomputable def SlR(X:Cx)(r:V→Option Int→Option Int→Hp→VK→Prop):Prop :=
 ∀(pins:List (Addr×Obj))(s:Shared)(σ:St)(H:Hp)(x:V)(v j z:Value)(lo hi:Option Int)(sl:Addr)(Q:VK),Inv X pins σ H s→RelV x v→s.heap.IsSliceOf sl j z .none→IsPart j lo→IsPart z hi→r x lo hi H Q →
  ∃T id,typeLookup (.type T) "__getitem__"=pure (some (.builtin id))∧s.TypeIs v T∧wpAny (model X.prog X.w) X.A (getItem v (.ref sl)) (EP X pins σ Q) X.xe s
noncomputable def tSl(r:V→Option Int→Option Int→Hp→VK→Prop)(te:TE)(tl th:TO):TE:=fun σ H Q=>te σ H fun x H1=>tl σ H1 fun l H2=>th σ H2 fun u j=>r x l u j Q
theorem lQ{r:V→Option Int→Option Int→Hp→VK→Prop}(hr:SlR X r)(O:PE X e te)(J:PO X lo tl)(hu:PO X hi th):PE X (.Subscript e (.Slice lo hi none p2) pos) (tSl r te tl th):=by
 intro pins s σ H Q I h
 refine Subscript_ (cW (O pins s σ H _ I h) fun v s1 ⟨x,H1,S,r1,L⟩=>?_)
 refine wpAny_Slice (cW (J pins s1 σ H1 _ S L) fun z s2 ⟨l,H2,G,pl,Z⟩=>cW (hu pins s2 σ H2 _ G Z) fun D j ⟨u,F,Y,pu,q3⟩=>?_)
 rw[evalPart_none]
 refine wpAny_pure ?_
 have I4:Inv X pins σ F { j with heap:=j.heap.push { cls:=.type "slice",data:=.fields #[z,D,.none] } }:=Y.kept (t':=j.toks) fun b ob q=>Heap.get?_push_of_some _ q
 obtain⟨T,id,U,ht,hg⟩:=hr pins { j with heap:=j.heap.push { cls:=.type "slice",data:=.fields #[z,D,.none] } } σ F x v z D l u j.heap.objs.size Q I4 r1 (Heap.IsSliceOf.new ..) pl pu q3
 show wpAny (model X.prog X.w) X.A (subscriptTail e (.Slice lo hi none p2) v (.ref j.heap.objs.size)) (EP X pins σ Q) X.xe { j with heap:=j.heap.push { cls:=.type "slice",data:=.fields #[z,D,.none] } }
 exact tail_any (ops:=[.ref j.heap.objs.size,v]) ht U hg (by with_unfolding_all rfl)
noncomputable def mF(xs:List V)(lo hi:Option Int):List V:=(xs.drop (HT.h_ xs.length 0 lo)).take (HT.h_ xs.length xs.length hi-HT.h_ xs.length 0 lo)
theorem Do(xs:List V)(lo hi:Option Int):(mF xs lo hi).length≤xs.length:=by
 unfold mF
 rw[lp,mM]
 lia
end
end L2
namespace L2
open PySem PySem.Spec PyProof.Rows
noncomputable def RC(n:Nat)(i:Int):Option Nat:=if 0≤i then(if i<n then some i.toNat else none)else if -(n:Int)≤i then some (i+n).toNat else none
noncomputable def kY{α:Type}(xs:List α)(i:Int):Option α:=(RC xs.length i).bind fun j=>xs[j]?
theorem Ui{n:Nat}{i:Int}{j:Nat}(h:RC n i=some j):seqIndex? i n=some j∧j<n∧-(n:Int)≤i∧i<n:=by
 unfold RC at h
 by_cases h0:0≤i
 ·rw[mr h0]at h
  by_cases h1:i<n
  ·rw[mr h1]at h
   have e:i.toNat=j:=Option.some.inj h
   exact⟨by rw[seqIndex_of h0 h1,e],by lia,by lia,h1⟩
  ·rw[ml h1]at h;cases h
 ·rw[ml h0]at h
  by_cases h1:-(n:Int)≤i
  ·rw[mr h1]at h
   have e:(i+n).toNat=j:=Option.some.inj h
   exact⟨by rw[seqIndex_neg (by lia) h1,e],by lia,h1,by lia⟩
  ·rw[ml h1]at h;cases h
theorem JM{α:Type}{xs:List α}{i:Int}{v:α}(h:kY xs i=some v):∃j,seqIndex? i xs.length=some j∧xs[j]?=some v∧j<xs.length∧-(xs.length:Int)≤i∧i<xs.length:=by
 unfold kY at h
 cases e:RC xs.length i with
 | none=>rw[e]at h;cases h
 | some j =>
  rw[e]at h
  obtain⟨h1,h2,D,z⟩:=Ui e
  exact⟨j,h1,h,h2,D,z⟩
theorem j7{α:Type}{xs:List α}{j:Nat}{v:α}(h:xs[j]?=some v):kY xs (j:Int)=some v:=by
 have z:j<xs.length:=(lf.mp h).1
 have e:RC xs.length (j:Int)=some j:=by
  unfold RC
  rw[mr (by lia),mr (by lia)];simp
 unfold kY;rw[e];exact h
noncomputable def uT(b:Expr):Prop:=∀o i,subscripted b false o i=operate [o,i] (getItem o i)
noncomputable def IxR(X:Cx)(r:R2):Prop :=
 ∀(value slice:Expr)(pins:List (Addr×Obj))(s:Shared)(σ:St)(H:Hp)(x y:V)(v u:Value)(Q:VK),Inv X pins σ H s→RelV x v→RelV y u→r x y H Q →
  subscripted slice false v u=operate [v,u] (getItem v u)→wpAny (model X.prog X.w) X.A (subscriptTail value slice v u) (EP X pins σ Q) X.xe s
noncomputable def Vy(X:Cx)(id:String)(r:V→List V→Hp→VK→Prop):Prop :=
 ∀(pins:List (Addr×Obj))(s:Shared)(σ:St)(H:Hp)(x:V)(xs:List V)(v:Value)(us:List Value)(Q:VK),Inv X pins σ H s→RelV x v→Vals xs us→r x xs H Q →
  wpAny (model X.prog X.w) X.A (call (.builtin id) (v::us)) (EP X pins σ Q) X.xe s
section
variable {X:Cx} {a b:Expr} {ta tb:TE} {pos:Pos}
theorem aQ{r:R2}(J:IxR X r)(G:PE X a ta)(D:PE X b tb)(F:uT b):PE X (.Subscript a b pos) (HF r ta tb):=by
 intro pins s σ H Q I h
 exact Subscript_ (Xe G D I h fun v u s2 x y H2 j z L q=>J a b pins s2 σ H2 x y v u Q j z L q (F _ _))
noncomputable def xG(K:PySem.W.Frag):R2:=fun x y H Q=>∃p xs i v,x=.ref p∧y=.int i∧bF K H p xs∧kY xs i=some v∧Q v H
noncomputable def Fz(K:PySem.W.Frag):R2:=fun x y H Q=>∃p xs i v,x=.ref p∧y=.int i∧bN K H p xs∧kY xs i=some v∧Q v H
theorem bA:IxR X (xG X.K):=by
 intro value slice pins s σ H x y v u Q I O ry h J
 obtain⟨p,xs,i,z,rfl,rfl,U,Z,q⟩:=h
 cases O
 obtain⟨t,rfl⟩:=ry
 obtain⟨its,r,pl,hz⟩:=I.list U
 obtain⟨j,h1,h2,h3,S,Y⟩:=JM Z
 obtain⟨w,G,F⟩:=r.get h2
 have L:=r.length
 have hn:=v_
 have fin:EP X pins σ Q w s:=⟨z,H,I,F,q⟩
 by_cases h0:0≤i
 ·have D:i.toNat=j:=by
   rw[seqIndex_of h0 Y]at h1
   exact Option.some.inj h1
  exact item_listR pl.isList h0 (by lia) (by rw[D];simpa using G) fin J
 ·have D:(i+(its.toArray.size:Int)).toNat=j:=by
   rw[seqIndex_neg (by lia) S]at h1
   rw[ll,←L]
   exact Option.some.inj h1
  exact subscriptTail_builtinR (x:=w) pl.isList.typeIs slot_list_getitem.lookup
   (wpAny_getItem_list_neg (Q:=fun r s'=>r=w∧EP X pins σ Q r s') pl.isList (by lia) (by rw[ll]<;>lia) (by lia) (by rw[D];simpa using G) ⟨rfl,fin⟩) J
theorem aU:IxR X (Fz X.K):=by
 intro value slice pins s σ H x y v u Q I G U h O
 obtain⟨p,xs,i,z,rfl,rfl,L,S,q⟩:=h
 cases G
 obtain⟨t,rfl⟩:=U
 obtain⟨its,r,pl,hz⟩:=I.tuple L
 obtain⟨j,h1,h2,h3,Z,h5⟩:=JM S
 obtain⟨w,J,D⟩:=r.get h2
 have F:=r.length
 have Y:=v_
 have fin:EP X pins σ Q w s:=⟨z,H,I,D,q⟩
 exact subscriptTail_builtinR (x:=w) pl.typeIs slot_tuple_getitem.lookup
  (getItem_tuple (j:=j) (Q:=fun r s'=>r=w∧EP X pins σ Q r s') pl (by lia) (by lia) (by rw[ll,←F];exact h1) (by simpa using J) ⟨rfl,fin⟩) O
theorem zq(lo hi:Option Int)(n:Nat):(sliceBounds lo hi none n).1=((HT.h_ n 0 lo:Nat):Int)∧(sliceBounds lo hi none n).2.1=((HT.h_ n n hi:Nat):Int)∧(sliceBounds lo hi none n).2.2=1:=by
 refine⟨?_,?_,rfl⟩
 ·cases lo with
  | none=>simp[sliceBounds,HT.h_]
  | some i =>
   simp only[sliceBounds,HT.h_,Option.getD_none,show(1:Int)>0 by decide,if_true]
   by_cases h:i<0
   ·simp only[h,if_true]<;>lia
   ·simp only[h,if_false]<;>lia
 ·cases hi with
  | none=>simp[sliceBounds,HT.h_]
  | some i =>
   simp only[sliceBounds,HT.h_,Option.getD_none,show(1:Int)>0 by decide,if_true]
   by_cases h:i<0
   ·simp only[h,if_true]<;>lia
   ·simp only[h,if_false]<;>lia
theorem xF(its:List Value)(lo hi:Option Int):slicePick its.toArray lo hi none=((its.drop (HT.h_ its.length 0 lo)).take (HT.h_ its.length its.length hi-HT.h_ its.length 0 lo)).toArray:=by
 obtain⟨h1,h2,j⟩:=zq lo hi its.toArray.size
 unfold slicePick
 rw[h1,h2,j]
 simp only[sliceRange_one,pick_run,ll]<;>rfl
noncomputable def ZD(K:PySem.W.Frag):V→Option Int→Option Int→Hp→VK→Prop:=fun x lo hi H Q=>∃a xs,x=.ref a∧bF K H a xs∧∀p,H p=none→Q (.ref p) (upd H p (.lst (mF xs lo hi)))
theorem uF:SlR X (ZD X.K):=by
 intro pins s σ H x v J O lo hi sl Q I D F pl G h
 obtain⟨a,xs,rfl,hx,q⟩:=h
 cases D
 obtain⟨its,r,z,hz⟩:=I.list hx
 have j:=r.length
 refine⟨"list",_,slot_list_getitem.lookup,z.isList.typeIs,?_⟩
 refine wpAny_getItem_list_slice z.isList F pl G .none (by simp) ?_ (by rw[ll]<;>lia)
 rw[xF,←j]
 refine⟨.ref s.heap.objs.size,_,I.laid (t':=s.toks) (o:=.lst (mF xs lo hi)) (fun b L q=>Heap.get?_push_of_some _ q) (i' _) ?_,rfl,q _ (I.hok.fresh (i' _))⟩
 exact⟨lS (Do xs lo hi) hz,_,0,(r.drop (HT.h_ xs.length 0 lo)).take (HT.h_ xs.length xs.length hi-HT.h_ xs.length 0 lo),Heap.get?_push_size _ rfl⟩
noncomputable def t7:V→Bool
 | .non=>true
 | .bl _=>true
 | .int _=>true
 | .str _=>true
 | _=>false
noncomputable def Vv:V→V→Bool
 | .non,.non=>true
 | .bl a,.bl b=>a==b
 | .bl a,.int b=>(if a then 1 else 0)==b
 | .int a,.bl b=>a==(if b then 1 else 0)
 | .int a,.int b=>a==b
 | .str a,.str b=>a==b
 | _,_=>false
theorem W8{A:Around}{s:Shared}{y x:V}{u v:Value}(D:RelV y u)(j:RelV x v)(F:t7 y=true)(z:t7 x=true):SeqAt.EqAt A s u v (Vv y x):=by
 cases y with
 | non =>
  cases D
  cases x with
  | non=>cases j;exact SeqAt.EqAt.same _
  | bl b=>cases j;exact SeqAt.EqAt.none_bool b
  | int b=>obtain⟨t,rfl⟩:=j;exact SeqAt.EqAt.none_int b t
  | str b=>obtain⟨t,rfl⟩:=j;exact SeqAt.EqAt.none_str b t
  | _=>exact absurd (show false=true from z) lP
 | bl a =>
  cases D
  cases x with
  | non=>cases j;exact SeqAt.EqAt.bool_none a
  | bl b=>cases j;exact SeqAt.EqAt.bool_bool a b
  | int b=>obtain⟨t,rfl⟩:=j;exact SeqAt.EqAt.bool_int a b t
  | str b=>obtain⟨t,rfl⟩:=j;exact SeqAt.EqAt.bool_str a b t
  | _=>exact absurd (show false=true from z) lP
 | int a =>
  obtain⟨t',rfl⟩:=D
  cases x with
  | non=>cases j;exact SeqAt.EqAt.int_none a t'
  | bl b=>cases j;exact SeqAt.EqAt.int_bool a t' b
  | int b=>obtain⟨t,rfl⟩:=j;exact SeqAt.EqAt.int_int a t' b t
  | str b=>obtain⟨t,rfl⟩:=j;exact SeqAt.EqAt.int_str a t' b t
  | _=>exact absurd (show false=true from z) lP
 | str a =>
  obtain⟨t',rfl⟩:=D
  cases x with
  | non=>cases j;exact SeqAt.EqAt.str_none a t'
  | bl b=>cases j;exact SeqAt.EqAt.str_bool a t' b
  | int b=>obtain⟨t,rfl⟩:=j;exact SeqAt.EqAt.str_int a t' b t
  | str b=>obtain⟨t,rfl⟩:=j;exact SeqAt.EqAt.str_str a t' b t
  | _=>exact absurd (show false=true from z) lP
 | _=>exact absurd (show false=true from F) lP
noncomputable def Ut(x:V)(u:Value):Bool:=match u with
 | .none=>Vv .non x
 | .bool b=>Vv (.bl b) x
 | .int i _=>Vv (.int i) x
 | .str z _=>Vv (.str z) x
 | _=>false
theorem Rg{x y:V}{u:Value}(r:RelV y u)(f:t7 y=true):Ut x u=Vv y x:=by
 cases y with
 | non=>cases r;rfl
 | bl b=>cases r;rfl
 | int i=>obtain⟨t,rfl⟩:=r;rfl
 | str z=>obtain⟨t,rfl⟩:=r;rfl
 | _=>exact absurd (show false=true from f) lP
theorem Al{x:V}:∀{xs:List V}{us:List Value},Vals xs us→xs.all t7=true→us.any (Ut x)=xs.any fun y=>Vv y x
 | _,_,.nil,_=>rfl
 | y::xs,u::us,.cons r t,f=>by
  rw[List.all_cons,lj]at f
  rw[List.any_cons,List.any_cons,Rg r f.1,Al t f.2]
theorem v9{A:Around}{s:Shared}{x:V}{v:Value}(z:RelV x v)(D:t7 x=true):∀{xs:List V}{us:List Value},Vals xs us→xs.all t7=true→∀u∈us,SeqAt.EqAt A s u v (Ut x u)
 | _,_,.nil,_=>fun u j=>by cases j
 | y::xs,u::us,.cons r t,f=>fun F j=>by
  rw[List.all_cons,lj]at f
  rcases j'.mp j with rfl | j
  ·rw[Rg r f.1];exact W8 r z f.1 D
  ·exact v9 z D t f.2 F j
noncomputable def inV(x:V)(xs:List V):Bool:=xs.any fun y=>Vv y x
noncomputable def rIn(K:PySem.W.Frag)(neg:Bool):R2:=fun x y H Q=>∃p xs,y=.ref p∧(bF K H p xs∨bN K H p xs)∧t7 x=true∧xs.all t7=true∧Q (.bl (if neg then !inV x xs else inV x xs)) H
theorem iu:uy X (compareOp .In) (rIn X.K false):=by
 intro pins s σ H x y v u Q I z F h
 obtain⟨p,xs,rfl,j,D,fs,q⟩:=h
 cases F
 rcases j with j | j
 ·obtain⟨its,r,pl,hz⟩:=I.list j
  refine SeqAt.in_listAt (Ut x) pl.isList (fun w hw=>v9 z D r fs w (by simpa using hw)) ⟨.bl _,H,I,rfl,?_⟩
  rw[show its.toArray.any (Ut x)=its.any (Ut x) by simp,Al r fs]
  exact q
 ·obtain⟨its,r,pl,hz⟩:=I.tuple j
  refine SeqAt.in_tupleAt (Ut x) pl (fun w hw=>v9 z D r fs w (by simpa using hw)) ⟨.bl _,H,I,rfl,?_⟩
  rw[show its.toArray.any (Ut x)=its.any (Ut x) by simp,Al r fs]
  exact q
theorem bD:kO X (.builtin "len") (fun xs H Q=>∃p ys,xs=[.ref p]∧(bF X.K H p ys∨bN X.K H p ys)∧Q (.int ys.length) H):=by
 intro pins s σ H xs us Q I r h
 obtain⟨p,ys,rfl,z,q⟩:=h
 obtain⟨u,rfl,F⟩:=vals1 r
 cases F
 have G:=v_
 rcases z with z | z
 ·obtain⟨its,D,pl,hz⟩:=I.list z
  have j:=D.length
  exact Calls.call_len_list pl.isList (by simp only[ll]<;>lia) ⟨.int ys.length,H,I.tok _,⟨s.toks+1,by rw[ll,j]⟩,q⟩
 ·obtain⟨its,D,pl,hz⟩:=I.tuple z
  have j:=D.length
  exact len_tuple pl (by simp only[ll]<;>lia) ⟨.int ys.length,H,I.tok _,⟨s.toks+1,by rw[ll,j]⟩,q⟩
theorem j0:kO X (.builtin "len") (fun xs H Q=>∃z,xs=[.str z]∧z.length≤sizeLine∧Q (.int z.length) H):=by
 intro pins s σ H xs us Q I r h
 obtain⟨z,rfl,hz,q⟩:=h
 obtain⟨u,rfl,t,rfl⟩:=vals1 r
 have j:=v_
 exact len_str (by lia) ⟨.int z.length,H,I.tok _,⟨_,rfl⟩,q⟩
theorem Ac:kO X (.type "list") (fun xs H Q=>∃p ys,xs=[.ref p]∧(bF X.K H p ys∨bN X.K H p ys)∧∀l,H l=none→Q (.ref l) (upd H l (.lst ys))):=by
 intro pins s σ H xs us Q I r h
 obtain⟨p,ys,rfl,D,q⟩:=h
 obtain⟨u,rfl,L⟩:=vals1 r
 cases L
 have fin:∀(its:List Value),Vals ys its→ys.length≤sizeLine→∀(h':Heap)(z:Nat),(∀b o',s.heap.get? b=some o'→h'.get? b=some o') →
   h'.get? s.heap.objs.size=some { cls:=.type "list",dict:=none,data:=.seq its.toArray z,slots:=#[] }→EP X pins σ Q (.ref s.heap.objs.size) { s with heap:=h' }:=fun its j hz h' z kp e =>
  ⟨.ref s.heap.objs.size,_,I.laid (t':=s.toks) kp (i' _) (show dq X.prog X.w _ h' _ (.lst ys)from⟨hz,its,z,j,e⟩),rfl,q _ (I.hok.fresh (i' _))⟩
 rcases D with D | D
 ·obtain⟨its,j,pl,hz⟩:=I.list D
  have F:=j.length
  obtain⟨o,J,G,n,hd⟩:=pl.isList
  exact call_list_seq p (.inl rfl) J G hd (fun h' z kp e=>fin its j hz h' z kp e) (by simp only[ll]<;>lia)
 ·obtain⟨its,j,pl,hz⟩:=I.tuple D
  have F:=j.length
  obtain⟨o,J,G,n,hd⟩:=pl
  exact call_list_seq p (.inr rfl) J G hd (fun h' z kp e=>fin its j hz h' z kp e) (by simp only[ll]<;>lia)
theorem xK:kO X (.type "tuple") (fun xs H Q=>∃p ys,xs=[.ref p]∧((bF X.K H p ys∧∀l,H l=none→Q (.ref l) (upd H l (.tup ys)))∨(bN X.K H p ys∧Q (.ref p) H))):=by
 intro pins s σ H xs us Q I r h
 obtain⟨p,ys,rfl,h⟩:=h
 obtain⟨u,rfl,J⟩:=vals1 r
 cases J
 rcases h with⟨z,q⟩ | ⟨z,q⟩
 ·obtain⟨its,j,pl,hz⟩:=I.list z
  have F:=j.length
  refine call_tuple_list pl.isList (fun h' kp=>?_) (by simp only[ll]<;>lia)
  have D:Inv X pins σ H { s with heap:=h' }:=I.kept (t':=s.toks) kp
  have G:Inv X pins σ (upd H h'.objs.size (.tup ys)) { s with heap:=h'.push { cls:=.type "tuple",data:=.seq its.toArray } } :=
   D.laid (t':=s.toks) (fun b o e=>Heap.get?_push_of_some _ e) (i' _) (show dq X.prog X.w _ _ _ (.tup ys)from⟨hz,its,j,IsTup.new _ _⟩)
  exact⟨.ref h'.objs.size,_,G,rfl,q _ (D.hok.fresh (i' _))⟩
 ·obtain⟨its,j,pl,hz⟩:=I.tuple z
  exact call_tuple_same pl ⟨.ref p,H,I,rfl,q⟩
noncomputable def Zn(K:PySem.W.Frag)(T:String)(x:V)(H:Hp):Prop:=match x with
 | .str _=>T = "str"
 | .int _=>T = "int"
 | .ref p=>(T = "list"∧∃xs,bF K H p xs)∨(T = "tuple"∧∃o,K.lookup p=some o∧o.cls=.type "tuple"∧o.dict=none) ∨
   (T = "dict"∧((∃kvs,H p=some (.dK kvs))∨∃kvs,H p=some (.dT kvs)))∨(T = "set"∧∃S n,H p=some (.set S n))
 | _=>False
theorem Nh{pins:List (Addr×Obj)}{σ:St}{H:Hp}{s:Shared}{T:String}{x:V}{v:Value}(I:Inv X pins σ H s)(r:RelV x v)(ty:Zn X.K T x H) :
  s.TypeIs v T∧∀a,v=.ref a→∃F,s.heap.get? a=some F∧F.dict=none:=by
 cases x with
 | str z =>
  obtain⟨t,rfl⟩:=r
  cases(show T = "str" from ty)
  exact⟨typeIs_str s z t,fun _ e=>nomatch e⟩
 | int i =>
  obtain⟨t,rfl⟩:=r
  cases(show T = "int" from ty)
  exact⟨typeIs_int s i t,fun _ e=>nomatch e⟩
 | ref p =>
  cases r
  rcases ty with⟨rfl,xs,J⟩ | ⟨rfl,o,j,G,hd⟩ | ⟨rfl,j⟩ | ⟨rfl,S,n,j⟩
  ·obtain⟨its,_,pl,_⟩:=I.list J
   refine⟨pl.isList.typeIs,fun a e=>?_⟩
   cases e
   obtain⟨o,n,e,c,hd,_⟩:=pl
   exact⟨o,e,hd⟩
  ·refine⟨⟨o,I.o5 p o j,G⟩,fun a e=>?_⟩
   cases e
   exact⟨o,I.o5 _ o j,hd⟩
  ·have z:∃o,s.heap.get? p=some o∧o.ExactDict:=by
    rcases j with⟨kvs,j⟩ | ⟨kvs,j⟩
    ·obtain⟨_,_,_,_,o,_,_,e,ex,_⟩:=I.hok p _ j
     exact⟨o,e,ex⟩
    ·obtain⟨_,_,_,_,o,_,_,e,ex,_⟩:=I.hok p _ j
     exact⟨o,e,ex⟩
   obtain⟨o,e,ex⟩:=z
   refine⟨⟨o,e,ex.1⟩,fun a D=>?_⟩
   cases D
   exact⟨o,e,ex.2.1⟩
  ·obtain⟨o,_,_,_,e,ex,_⟩:=I.hok p _ j
   refine⟨⟨o,e,ex.1⟩,fun a D=>?_⟩
   cases D
   exact⟨o,e,ex.2.1⟩
 | _=>exact False.elim ty
noncomputable def Zv(K:PySem.W.Frag)(T:String)(r:V→List V→Hp→VK→Prop)(to:TE):TE:=fun σ H Q=>to σ H fun x H1=>Zn K T x H1∧r x [] H1 Q
noncomputable def tBM(K:PySem.W.Frag)(T:String)(r:V→List V→Hp→VK→Prop)(to:TE)(t:TA):TE:=fun σ H Q=>to σ H fun x H1=>Zn K T x H1∧t σ H1 fun xs H2=>r x xs H2 Q
variable {o e:Expr} {es:List Expr} {to:TE} {t:TA} {name:Str} {apos cpos:Pos} {T id:String} {r:V→List V→Hp→VK→Prop}
theorem rJ(O:PlainAttrs T)(slot:Slot T name id)(D:typeOf (.builtin id)=pure (.type "method_descriptor"))(J:Vy X id r)(S:PE X o to)
  (j:attributeBase o name X.env (eval o X.env)=eval o X.env:=by rfl) (z:(apos.endLine==cpos.line)=true:=by rfl):PE X (.Call (.Attribute o name apos) [] [] cpos) (Zv X.K T r to):=by
 intro pins s σ H Q I h
 refine wpAny_Call_method0_late j z (cW (S pins s σ H _ I h) fun v s1 ⟨x,H1,F,G,ty,L⟩=>?_)
 obtain⟨h1,h2⟩:=Nh F G ty
 exact⟨T,id,O,slot,D,h1,h2,Calls.callWith_builtin rfl (PySem.evalArgs_none (J pins s1 σ H1 x [] v [] Q F G .nil L))⟩
theorem lR(Z:PlainAttrs T)(slot:Slot T name id)(G:typeOf (.builtin id)=pure (.type "method_descriptor"))(U:Vy X id r)(ho:PE X o to)(ha:PA X (e::es) t)
  (z:attributeBase o name X.env (eval o X.env)=eval o X.env:=by rfl)
  (F:((backTo cpos (starEach (e::es) X.env)).all (fun x=>!x.1)&&(backToKw cpos (keywordEach [] X.env)).all (fun x=>x.1.isSome)
   && decide ((e::es).length+([]:List Keyword).length+(if([]:List Keyword).isEmpty then 0 else 1)<30))=true:=by rfl)
  (D:(apos.endLine==cpos.line)=true:=by rfl) (hs:starEach (e::es) X.env=(false,eval e X.env)::starEach es X.env:=by rfl) (j:(backTo cpos (starEach es X.env)).any (·.1)=false:=by rfl) :
  PE X (.Call (.Attribute o name apos) (e::es) [] cpos) (tBM X.K T r to t):=by
 intro pins s σ H Q I h
 refine wpAny_Call_method_late z F D rfl (cW (ho pins s σ H _ I h) fun v s1 ⟨x,H1,J,O,ty,Y⟩=>?_)
 obtain⟨h1,h2⟩:=Nh J O ty
 refine⟨T,id,Z,slot,G,h1,h2,?_⟩
 have L:=ha cpos pins s1 σ H1 _ J Y
 rw[hs]at L ⊢
 refine Calls.callWith_builtin (by show(false||(backTo cpos (starEach es X.env)).any (·.1))=false;rw[j]<;>rfl) (Calls.evalArgs_plain ?_)
 exact cW L fun us s2 ⟨vs,H2,S,r2,q2⟩=>U pins s2 σ H2 x vs v us Q S O r2 q2
/- xs.append(e),list.index on a module's tuple .. are Vy facts of 06m -/
end
end L2
namespace L2
open PySem PySem.Spec PyProof.Rows
noncomputable def Y7(X:Cx)(id:String)(r:V→List V→Hp→VK→Prop):Prop :=
 ∀(pins:List (Addr×Obj))(s:Shared)(σ:St)(H:Hp)(x:V)(xs:List V)(v:Value)(us:List Value)(Q:VK),Inv X pins σ H s→RelV x v→Vals xs us→r x xs H Q →
  wpAny (model X.prog X.w) X.A (call (.builtin id) (v::us)) (EP X pins σ Q) X.xe s
theorem Vals.one:∀{x:V}{us:List Value},Vals [x] us→∃u,us=[u]∧RelV x u
 | _,_,.cons r .nil=>⟨_,rfl,r⟩
theorem Vals.zero:∀{us:List Value},Vals [] us→us=[]
 | _,.nil=>rfl
theorem Vals.dropLast{xs:List V}{us:List Value}(h:Vals xs us):Vals xs.dropLast us.dropLast:=by
 induction h with
 | nil=>exact .nil
 | cons r t j =>
  cases t with
  | nil=>exact .nil
  | cons q t'=>exact .cons r j
theorem Vals.reverse{xs:List V}{us:List Value}(h:Vals xs us):Vals xs.reverse us.reverse:=by
 induction h with
 | nil=>exact .nil
 | cons r t j=>rw[List.reverse_cons,List.reverse_cons];exact Vals.append j (.cons r .nil)
theorem Hl{α:Type}(l:List α):l.eraseIdx (l.length-1)=l.dropLast:=by
 induction l with
 | nil=>rfl
 | cons a r j =>
  cases r with
  | nil=>rfl
  | cons b r =>
   have e:(a::b::r).length-1=((b::r).length-1)+1:=by
    have h1:(a::b::r).length=r.length+2:=rfl
    have h2:(b::r).length=r.length+1:=rfl
    assumption
   rw[e,List.eraseIdx_cons_succ,j]
   all_goals rfl
section
variable {X:Cx} {pins:List (Addr×Obj)} {σ:St} {H:Hp} {s:Shared} {l b:Addr} {xs ys zs:List V}
theorem Inv.QB{its its':List Value}{n:Nat}{f:Array Value→Array Value}{t':Nat}(I:Inv X pins σ H s)(G:H l=some (.lst xs))
  (e:s.heap.get? l=some { cls:=.type "list",data:=.seq its.toArray n }) (j:f its.toArray=its'.toArray) (F:Vals ys its') (hz:ys.length≤sizeLine) :
  Inv X pins σ (upd H l (.lst ys)) { s with heap:=s.heap.update l (Obj.mapSeq f),toks:=t' }:=by
 have q:=PySem.IsL.update e f
 rw[j]at q
 refine I.write (x:=l) (e:=l) (by rw[G];exact trivial) (.inl rfl) (fun J u z D=>(Heap.get?_update_other s.heap (Obj.mapSeq f) (Ne.symm z)).trans D) ⟨_,q⟩ ?_
 exact⟨hz,its',_,F,q⟩
theorem Inv.Z0{its:List Value}{t':Nat}(I:Inv X pins σ H s)(j:Vals ys its)(hz:ys.length≤sizeLine) :
  Inv X pins σ (upd H s.heap.objs.size (.lst ys)) { s with heap:=s.heap.push { cls:=.type "list",data:=.seq its.toArray },toks:=t' } :=
 I.laid (fun _ _ q=>Heap.get?_push_of_some _ q) (i' _) ⟨hz,its,0,j,Heap.get?_push_size _ rfl⟩
theorem Inv.fresh(I:Inv X pins σ H s):H s.heap.objs.size=none:=I.hok.fresh (i' _)
theorem Inv.CQ(I:Inv X pins σ H s)(j:H l=some (.lst xs)):xs.length≤sizeLine∧∃(its:List Value)(n:Nat),Vals xs its∧xs.length=its.length∧s.heap.get? l=some { cls:=.type "list",data:=.seq its.toArray n }:=by
 obtain⟨z,its,n,r,e⟩:=I.hok l _ j
 exact⟨z,its,n,r,r.length,e⟩
theorem Cr{n:Nat}(h:n≤sizeLine):Builtin.List.listTooLong n=false:=by
 unfold Builtin.List.listTooLong
 exact mu (by lia)
end
section
variable {X:Cx}
noncomputable def Sv:V→List V→Hp→VK→Prop:=fun x vs H Q=>∃l xs y,x=.ref l∧vs=[y]∧H l=some (.lst xs)∧xs.length<sizeLine∧Q .non (upd H l (.lst (xs++[y])))
theorem iw:Y7 X "list.append" Sv:=by
 intro pins s σ H x vs v us Q I G J h
 obtain⟨l,xs,y,rfl,rfl,j,hz,q⟩:=h
 cases G
 obtain⟨u,rfl,D⟩:=J.one
 obtain⟨z,its,n,r,L,e⟩:=I.CQ j
 refine call_meets F.slot_list_append ⟨_,e,rfl⟩ F.entry_list_append (F.args_list_append_2 _ _) (PySem.list_append l its.toArray n u (by rw[ll];lia)) ⟨e,?_⟩
 refine⟨.non,_,I.QB (its':=its++[u]) j e (by simp) (r.append (.cons D .nil)) ?_,rfl,q⟩
 rw[jp,List.length_singleton]
 assumption
noncomputable def Su:V→List V→Hp→VK→Prop:=fun x vs H Q=>∃l b xs zs,x=.ref l∧vs=[.ref b]∧H l=some (.lst xs)∧H b=some (.lst zs)∧xs.length+zs.length≤sizeLine∧Q .non (upd H l (.lst (xs++zs)))
theorem yz:Y7 X "list.extend" Su:=by
 intro pins s σ H x vs v us Q I O Y h
 obtain⟨l,b,xs,zs,rfl,rfl,G,Z,hz,q⟩:=h
 cases O
 obtain⟨u,rfl,J⟩:=Y.one
 cases J
 obtain⟨z,its,n,r,hl,e⟩:=I.CQ G
 obtain⟨z2,j,S,r2,L,U⟩:=I.CQ Z
 have hsz:its.toArray.size+j.toArray.size≤sizeLine:=by rw[ll,ll];lia
 have D:¬(!its.toArray.isEmpty&&Builtin.List.listTooLong (its.toArray.size+j.toArray.size))=true:=by
  rw[Cr hsz,Bool.and_false]
  exact lP
 refine call_meets F.slot_list_extend ⟨_,e,rfl⟩ F.entry_list_extend (F.args_list_extend_2 _ _)
  (AutoSeq1.list_extend_list_list_0 l its.toArray n b j.toArray S D (by rw[ll];lia) (by lia)) ⟨e,U,?_⟩
 refine⟨.non,_,I.QB (its':=its++j) G e (by simp) (r.append r2) ?_,rfl,q⟩
 rw[jp]
 assumption
noncomputable def ZG:V→List V→Hp→VK→Prop:=fun x vs H Q=>∃l xs y,x=.ref l∧vs=[]∧H l=some (.lst xs)∧xs[xs.length-1]?=some y∧Q y (upd H l (.lst xs.dropLast))
theorem zR:Y7 X "list.pop" ZG:=by
 intro pins s σ H x vs v us Q I O S h
 obtain⟨l,xs,y,rfl,rfl,G,U,q⟩:=h
 cases O
 have j:=S.zero
 subst j
 obtain⟨z,its,n,r,L,e⟩:=I.CQ G
 obtain⟨u,Y,J⟩:=r.get U
 have D:its.toArray[its.toArray.size-1]?=some u:=by
  show its.toArray[its.length-1]?=some u
  rw[←Array.getElem?_toList,←L]
  exact Y
 refine call_meets F.slot_list_pop ⟨_,e,rfl⟩ F.entry_list_pop (F.args_list_pop_1 _) (MeetsSeq.list_pop_last l its.toArray n u D (by rw[ll];lia)) ⟨e,?_⟩
 refine⟨y,_,I.QB (its':=its.dropLast) G e ?_ r.dropLast ?_,J,q⟩
 ·show its.toArray.eraseIdxIfInBounds (its.toArray.size-1)=its.dropLast.toArray
  rw[ll,List.eraseIdxIfInBounds_toArray,Hl]
 ·rw[List.length_dropLast]
  lia
noncomputable def Pk:V→List V→Hp→VK→Prop:=fun x vs H Q=>∃l xs,x=.ref l∧vs=[]∧H l=some (.lst xs)∧Q .non (upd H l (.lst xs.reverse))
theorem Gx:Y7 X "list.reverse" Pk:=by
 intro pins s σ H x vs v us Q I G J h
 obtain⟨l,xs,rfl,rfl,D,q⟩:=h
 cases G
 have j:=J.zero
 subst j
 obtain⟨z,its,n,r,L,e⟩:=I.CQ D
 refine call_meets F.slot_list_reverse ⟨_,e,rfl⟩ F.entry_list_reverse (F.args_list_reverse_1 _) (AutoSeq1.list_reverse_list_0 l its.toArray n (by rw[ll];lia)) ⟨e,?_⟩
 refine⟨.non,_,I.QB (its':=its.reverse) D e (by simp) r.reverse ?_,rfl,q⟩
 rw[List.length_reverse]
 assumption
noncomputable def ZK:R2:=fun x y H Q=>∃l b xs zs,x=.ref l∧y=.ref b∧H l=some (.lst xs)∧H b=some (.lst zs)∧xs.length+zs.length≤sizeLine∧∀p,H p=none→Q (.ref p) (upd H p (.lst (xs++zs)))
theorem Gp:uy X (binaryOp .Add) ZK:=by
 intro pins s σ H x y v u Q I F L h
 obtain⟨l,b,xs,zs,rfl,rfl,O,S,hz,q⟩:=h
 cases F
 cases L
 obtain⟨z,its,n,r,U,e⟩:=I.CQ O
 obtain⟨Y,j,Z,r2,D,G⟩:=I.CQ S
 refine PySem.P.add_list e G ?_ (by rw[ll,ll];lia)
 have J:its.toArray++j.toArray=(its++j).toArray:=by simp
 rw[J]
 exact⟨.ref _,_,I.Z0 (t':=s.toks) (r.append r2) (by rw[jp];assumption),rfl,q _ I.fresh⟩
end
section
variable {prog:Program} {w:World} {A:Around} {E:Value→Shared→Prop} {s:Shared}
set_option maxRecDepth 100000 in
end
section
variable {X:Cx}
end
end L2
namespace L2
open PySem PySem.Spec PyProof.Rows
theorem Vals.ints:∀{ns:List Int}{us:List Value},Vals (ns.map V.int) us→IntsAre us ns
 | [],us,h=>by
  rw[List.map_nil]at h
  cases h
  exact IntsAre.nil
 | n::ns,us,h=>by
  rw[mf]at h
  cases h with
  | cons r t =>
   obtain⟨k,rfl⟩:=r
   exact IntsAre.cons n k (Vals.ints t)
theorem Vals.bls:∀{bs:List Bool}{us:List Value},Vals (bs.map V.bl) us→us=bs.map Value.bool
 | [],us,h=>by
  rw[List.map_nil]at h
  cases h
  rfl
 | b::bs,us,h=>by
  rw[mf]at h
  cases h with
  | cons r t =>
   cases r
   rw[Vals.bls t,mf]
theorem Vals.Wj{a:Addr}{us:List Value}(r:Vals [V.ref a] us):us=[Value.ref a]:=by
 cases r with
 | cons r t =>
  cases t
  cases r
  rfl
section
variable {prog:Program} {w:World} {A:Around} {E:Value→Shared→Prop} {s:Shared} {l:Addr} {its:List Value} {ns:List Int} {Q:Value→Shared→Prop}
end
section
variable {X:Cx}
end
section
variable {X:Cx}
end
section
variable {X:Cx}
end
theorem QL{prog:Program}{w:World}{A:Around}{E:Value→Shared→Prop}{s:Shared}{l:Addr}{items:Array Value}{Q:Value→Shared→Prop}(j:s.heap.IsList l items)
  (h:∀s₂:Shared,s₂={ s with heap:=s.heap.push { cls:=.type "list_iterator",data:=.fields #[.ref l,.int 0 0] } } →
   (s₂.heap.IsListIter s.heap.objs.size l 0∧s₂.heap.IsList l items)→l≠s.heap.objs.size→Q (.ref s.heap.objs.size) s₂):wpAny (model prog w) A (pyIter (.ref l)) Q E s:=by
 have z:l<s.heap.objs.size:=by obtain⟨_,e,_⟩:=j;exact Heap.lt_size e
 exact wpAny_pyIter_list j (h _ rfl ⟨⟨_,Heap.get?_push_size _ rfl,rfl,rfl⟩,j.push _⟩ (md z))
theorem Ay{prog:Program}{w:World}{A:Around}{bs:List Bool}{its:List Value}(e:its=bs.map Value.bool) :
  TruthOf prog w A (fun i v=>its.toArray[i]?=some v) (fun i=>bs.getD i false):=fun i v s Q E J D=>by
 have j:its[i]?=some v:=by simpa using J
 rw[e,l0]at j
 obtain⟨b,F,rfl⟩:=cr.mp j
 have G:bs.getD i false=b:=by rw[List.getD_eq_getElem?_getD,F]<;>rfl
 have z:Q (bs.getD i false) s:=D
 rw[G]at z
 exact wpAny_truthy_bool z
theorem any_range:∀bs:List Bool,(List.range bs.length).any (fun i=>bs.getD i false)=bs.any id
 | []=>rfl
 | b::bs=>by
  rw[io,List.range_succ_eq_map,List.any_cons,List.any_map,List.any_cons,←any_range bs]
  all_goals rfl
section
variable {X:Cx}
noncomputable def Yp(K:PySem.W.Frag):List V→Hp→VK→Prop:=fun vs H Q=>∃(a:Addr)(bs:List Bool),vs=[V.ref a]∧bF K H a (bs.map V.bl)∧Q (.bl (bs.any id)) H
theorem W_(G:X.calm=true):kO X (.builtin "any") (Yp X.K):=by
 intro pins s σ H vs us Q I r h
 obtain⟨a,bs,rfl,S,q⟩:=h
 obtain⟨its,Y,J,_⟩:=I.list S
 rw[Vals.Wj r]
 have D:=Y.bls
 refine call_any_walk (QL J.isList fun s₂ U st z=>?_)
 subst U
 refine⟨_,_,_,_,_,_,_,rfl,Walks.list (A:=X.A.in1) (I.ok.hd G) _ a z its.toArray,st,Ay D,fun h' tk O=>?_⟩
 refine⟨.bl _,H,I.kept fun b o F=>O b o (fun j=>?_) (Heap.get?_push_of_some _ F),?_,q⟩
 ·rcases j'.mp j with L | j
  ·exact absurd (L▸Heap.lt_size F) (Nat.lt_irrefl _)
  ·cases j
 ·show Value.bool _=Value.bool _
  rw[←any_range,D,ll,ap]
end
mutual
inductive Dp (K:PySem.W.Frag) (H:Hp):V→PyData→Prop
 | non:Dp K H .non .none
 | bl (b:Bool):Dp K H (.bl b) (.bool b)
 | int (i:Int):Dp K H (.int i) (.int i)
 | str (x:Str):Dp K H (.str x) (.str x)
 | lst {a:Addr} {xs:List V} {ds:List PyData}:bF K H a xs→xm K H xs ds→Dp K H (.ref a) (.list ds)
 | tup {a:Addr} {xs:List V} {ds:List PyData}:bN K H a xs→xm K H xs ds→Dp K H (.ref a) (.tuple ds)
inductive xm (K:PySem.W.Frag) (H:Hp):List V→List PyData→Prop
 | nil:xm K H [] []
 | cons {v:V} {vs:List V} {d:PyData} {ds:List PyData}:Dp K H v d→xm K H vs ds→xm K H (v::vs) (d::ds)
end
section
variable {X:Cx} {pins:List (Addr×Obj)} {σ:St} {H:Hp} {s:Shared}
mutual
theorem Dp.reads(I:Inv X pins σ H s):∀(d:PyData)(v:V)(u:Value),Dp X.K H v d→RelV v u→∃as,Reads s.heap u d as
 | .none,_,_,h,r=>by
  cases h
  cases r
  exact⟨_,Reads.none⟩
 | .bool b,_,_,h,r=>by
  cases h
  cases r
  exact⟨_,Reads.bool b⟩
 | .int i,_,_,h,r=>by
  cases h
  obtain⟨t,rfl⟩:=r
  exact⟨_,Reads.int i t⟩
 | .str x,_,_,h,r=>by
  cases h
  obtain⟨t,rfl⟩:=r
  exact⟨_,Reads.str x t⟩
 | .list ds,_,_,h,r=>by
  cases h with
  | lst z F =>
   cases r
   obtain⟨its,D,⟨o,n,J,j,_,hd⟩,_⟩:=I.list z
   obtain⟨as,G⟩:=Dp.readsAll I ds _ its F D
   exact⟨_,Reads.list J j hd G⟩
 | .tuple ds,_,_,h,r=>by
  cases h with
  | tup z F =>
   cases r
   obtain⟨its,D,⟨o,J,j,n,hd⟩,_⟩:=I.tuple z
   obtain⟨as,G⟩:=Dp.readsAll I ds _ its F D
   exact⟨_,Reads.tuple J j hd G⟩
 | .dict _,_,_,h,_=>by cases h
theorem Dp.readsAll(I:Inv X pins σ H s):∀(ds:List PyData)(vs:List V)(us:List Value),xm X.K H vs ds→Vals vs us→∃as,ReadsAll s.heap us ds as
 | [],_,_,h,r=>by
  cases h
  cases r
  exact⟨_,ReadsAll.nil⟩
 | d::ds,_,_,h,r=>by
  cases h with
  | cons h1 h2 =>
   cases r with
   | cons z r2 =>
    obtain⟨as,j⟩:=Dp.reads I d _ _ h1 z
    obtain⟨bs,D⟩:=Dp.readsAll I ds _ _ h2 r2
    exact⟨_,ReadsAll.cons j D⟩
end
end
section
variable {X:Cx}
noncomputable def ZJ(K:PySem.W.Frag):R2:=fun x y H Q=>∃d e,Dp K H x d∧Dp K H y e∧SeqAt.shaped d=true∧SeqAt.shaped e=true∧Q (.bl (PyData.eqv d e)) H
theorem Gn(G:X.A.units+64<cLine):uy X (compareOp .Eq) (ZJ X.K):=by
 intro pins s σ H x y v u Q I j L h
 obtain⟨d,e,hd,D,F,z,q⟩:=h
 obtain⟨as,J⟩:=Dp.reads I d x v hd j
 obtain⟨bs,r2⟩:=Dp.reads I e y u D L
 exact SeqAt.compareEq_shaped J r2 F z G ⟨.bl _,H,I,rfl,q⟩
end
end L2
namespace L2
open PySem PySem.Spec PyProof.Rows
noncomputable abbrev Rz(h:Heap)(c:Addr)(v:Option Value):Prop:=h.IsCell c v
noncomputable def Zz(scope sc:Scope):Scope :=
  { scope with names:=scope.names.map fun(n,k)=>if(k==.free&&sc.kind==.function&&sc.names.lookup n==some .cell)then(n,.cell)else(n,k) }
noncomputable def cF(cells:List (Str×Addr)):List (Str×NameKind)→List (Str×Addr)→List (Str×Addr)
 | [],acc=>acc
 | (n,k)::r,acc=>if k==.free then cF cells r ((n,(cells.lookup n).getD 0)::acc)else cF cells r acc
theorem qD(env:Env)(f:Str×NameKind→List (Str×Addr)→Sem (ForInStep (List (Str×Addr))))
  (D:∀n k c,f (n,k) c=if k==.free then(do let a ←cellOf env n;pure (.yield ((n,a)::c)))else pure (.yield c)) :
  ∀(names:List (Str×NameKind))(acc:List (Str×Addr)),(∀y∈names,y.2=.free→∃c,env.cells.lookup y.1=some c)→forIn names acc f=pure (cF env.cells names acc)
 | [],acc,_=>by rw[List.forIn_nil];rfl
 | (n,k)::r,acc,h=>by
  rw[List.forIn_cons,D]
  have F:=fun acc=>qD env f D r acc fun y J=>h y (am _ J)
  unfold cF
  by_cases j:(k==NameKind.free)=true
  ·rw[mr j,mr j]
   obtain⟨c,z⟩:=h (n,k) ci (by simpa using j)
   have e:cellOf env n=pure c:=by unfold cellOf;rw[z]
   rw[e]
   have G:(env.cells.lookup n).getD 0=c:=by rw[z];rfl
   rw[G]
   exact F _
  ·rw[ml j,ml j]
   exact F _
theorem Hm{scope:Scope}{env:Env}(h:∀y∈scope.names,y.2=.free→∃c,env.cells.lookup y.1=some c):closureFor scope env=pure (cF env.cells scope.names []):=by
 simp only[closureFor]
 rw[qD env _ (fun n k c=>rfl) scope.names [] h]
 rfl
theorem mem_lookup{α:Type}:∀{l:List (Str×α)}{n:Str}{c:α},(n,c)∈l→∃j,l.lookup n=some j
 | (k,v)::r,n,c,h=>by
  rw[List.lookup_cons]
  cases z:n==k with
  | true=>exact⟨_,rfl⟩
  | false =>
   rcases j'.mp h with e | h
   ·cases e;simp at z
   ·exact mem_lookup h
theorem je{cells:List (Str×Addr)}:∀{names:List (Str×NameKind)}{acc:List (Str×Addr)}{n:Str}{c:Addr},(n,c)∈cF cells names acc→(n,c)∈acc∨((n,.free)∈names∧c=(cells.lookup n).getD 0)
 | [],_,_,_,h=>.inl h
 | (m,k)::r,acc,n,c,h=>by
  unfold cF at h
  split at h
  ·rename_i j
   have j:k=.free:=by simpa using j
   rcases je h with h | ⟨h1,h2⟩
   ·rcases j'.mp h with e | h
    ·cases e;exact .inr ⟨j▸ci,rfl⟩
    ·exact .inl h
   ·exact .inr ⟨am _ h1,h2⟩
  ·rcases je h with h | ⟨h1,h2⟩
   ·exact .inl h
   ·exact .inr ⟨am _ h1,h2⟩
theorem mJ{cells:List (Str×Addr)}:∀{names:List (Str×NameKind)}{acc:List (Str×Addr)}{p:Str×Addr},p∈acc→p∈cF cells names acc
 | [],_,_,h=>h
 | (m,k)::r,acc,p,h=>by
  unfold cF
  split
  ·exact mJ (am _ h)
  ·exact mJ h
theorem mH{cells:List (Str×Addr)}:∀{names:List (Str×NameKind)}{acc:List (Str×Addr)}{n:Str},(n,.free)∈names→(n,(cells.lookup n).getD 0)∈cF cells names acc
 | (m,k)::r,acc,n,h=>by
  unfold cF
  rcases j'.mp h with e | h
  ·cases e
   exact mJ ci
  ·split
   ·exact mH h
   ·exact mH h
theorem jw:∀{names:List (Str×NameKind)}{h:Heap}{acc:List (Str×Addr)}{x:Str}{c:Addr},(x,c)∈cellsFrom h.objs.size names acc →
  (x,c)∈acc∨((x,.cell)∈names∧h.objs.size≤c∧Rz (pushCells h names) c none)
 | [],_,_,_,_,h=>.inl h
 | (n,k)::r,h,acc,x,c,j=>by
  unfold cellsFrom at j
  unfold pushCells
  split at j
  ·rename_i z
   rw[mr z]
   have z:k=.cell:=by simpa using z
   rw[←Heap.size_push h { cls:=.type "cell",data:=.cell none }]at j
   rcases jw j with j | ⟨h1,h2,D⟩
   ·rcases j'.mp j with e | j
    ·cases e
     exact .inr ⟨z▸ci,i' _,_,pushCells_keeps r _ _ _ (Heap.get?_push_size _ rfl),rfl⟩
    ·exact .inl j
   ·rw[Heap.size_push]at h2
    exact .inr ⟨am _ h1,Nat.le_of_succ_le h2,D⟩
  ·rename_i z
   rw[ml z]
   rcases jw j with j | ⟨h1,h2,D⟩
   ·exact .inl j
   ·exact .inr ⟨am _ h1,h2,D⟩
theorem nJ:∀{names:List (Str×NameKind)}{n:Nat}{acc:List (Str×Addr)}{p:Str×Addr},p∈acc→p∈cellsFrom n names acc
 | [],_,_,_,h=>h
 | (m,k)::r,n,acc,p,h=>by
  unfold cellsFrom
  split
  ·exact nJ (am _ h)
  ·exact nJ h
theorem sS:∀{names:List (Str×NameKind)}{n:Nat}{acc:List (Str×Addr)}{x:Str},(x,.cell)∈names→∃c,(x,c)∈cellsFrom n names acc
 | (m,k)::r,n,acc,x,h=>by
  unfold cellsFrom
  rcases j'.mp h with e | h
  ·cases e
   exact⟨n,nJ ci⟩
  ·split
   ·exact sS h
   ·exact sS h
theorem sO:∀{names:List (Str×NameKind)}{h:Heap}{acc:List (Str×Addr)}{x y:Str}{c:Addr},(∀p∈acc,p.2<h.objs.size)→(∀x y c,(x,c)∈acc→(y,c)∈acc→x=y) →
  (x,c)∈cellsFrom h.objs.size names acc→(y,c)∈cellsFrom h.objs.size names acc→x=y
 | [],_,_,_,_,_,_,hi,h1,h2=>hi _ _ _ h1 h2
 | (n,k)::r,h,acc,x,y,c,j,hi,h1,h2=>by
  unfold cellsFrom at h1 h2
  split at h1
  ·rename_i z
   rw[mr z]at h2
   rw[←Heap.size_push h { cls:=.type "cell",data:=.cell none }]at h1 h2
   refine sO (h:=h.push _) (fun p D=>?_) (fun x y c a b=>?_) h1 h2
   ·rw[Heap.size_push]
    rcases j'.mp D with rfl | D
    ·exact Nat.lt_succ_self _
    ·exact Nat.lt_succ_of_lt (j p D)
   ·rcases j'.mp a with e | a<;>rcases j'.mp b with F | b
    ·cases e;cases F;rfl
    ·cases e;exact absurd (j _ b) (Nat.lt_irrefl _)
    ·cases F;exact absurd (j _ a) (Nat.lt_irrefl _)
    ·exact hi _ _ _ a b
  ·rename_i z
   rw[ml z]at h2
   exact sO j hi h1 h2
theorem Cy{M:Model}{A:Around}{E:Value→Shared→Prop}{s:Shared}{scope:Scope}{globals:Addr}{j:List (Str×Addr)}{qual:Str}{func:Option Addr}{code:Value}{z:Env}{builtins:Addr}{Q:Env→Shared→Prop}
    (h:Q (newEnv scope s.heap.objs.size globals (cellsFrom (s.heap.objs.size+1) scope.names j) qual func code (some z) builtins)
      { s with heap:=pushCells (s.heap.push { cls:=.type "dict",data:=.dict #[] }) scope.names }) :
    wpAny M A (newFunctionEnv scope globals j [] qual func code (some z) builtins) Q E s:=by
  simp only[newFunctionEnv,Option.isSome_some,if_true]
  refine wpAny_bind (wpAny_alloc ?_)
  refine wpAny_bind (wpAny_layCells _ (fun n k c=>rfl) scope.names j _ _ ?_)
  rw[show({ s with heap:=s.heap.push { cls:=.type "dict",data:=.dict #[] } }:Shared).heap.objs.size=s.heap.objs.size+1 from Heap.size_push ..]
  rw[List.forIn_nil]
  exact wpAny_bind (wpAny_pure (wpAny_pure h))
theorem mj{sc:Scope}:∀{names:List (Str×NameKind)}{x:Str}{k:NameKind},
  (names.map fun(n,k)=>if(k==NameKind.free&&sc.kind==.function&&sc.names.lookup n==some .cell)then(n,NameKind.cell)else(n,k)).lookup x=some k →
  ∃z,names.lookup x=some z∧(k=z∨(z=.free∧k=.cell))
 | [],_,_,h=>by simp at h
 | (n,k₀)::r,x,k,h=>by
  have D:=@mj sc r x k
  have h':List.lookup x ((if(k₀==NameKind.free&&sc.kind==.function&&sc.names.lookup n==some .cell)=true then(n,NameKind.cell)else(n,k₀))::(r.map _))=some k:=h
  cases hx:x==n with
  | true =>
   simp only[List.lookup_cons,hx]
   by_cases j:(k₀==NameKind.free&&sc.kind==.function&&sc.names.lookup n==some .cell)=true
   ·rw[mr j]at h'
    simp only[List.lookup_cons,hx]at h'
    cases h'
    simp only[lj,beq_iff_eq]at j
    exact⟨k₀,rfl,.inr ⟨j.1.1,rfl⟩⟩
   ·rw[ml j]at h'
    simp only[List.lookup_cons,hx]at h'
    cases h'
    exact⟨_,rfl,.inl rfl⟩
  | false =>
   simp only[List.lookup_cons,hx]
   by_cases j:(k₀==NameKind.free&&sc.kind==.function&&sc.names.lookup n==some .cell)=true
   ·rw[mr j]at h'
    simp only[List.lookup_cons,hx]at h'
    exact D h'
   ·rw[ml j]at h'
    simp only[List.lookup_cons,hx]at h'
    exact D h'
structure Ea (N:List Str) (sc scope:Scope) (own:List (Str×Nat)):Prop where
 kind:scope.kind=.function
 uniq:∀y∈scope.names,scope.names.lookup y.1=some y.2
 ix:∀p∈own,N[p.2]?=some p.1
 free:∀y∈scope.names,y.2=.free→sc.names.lookup y.1=some .cell∨sc.names.lookup y.1=some .free
 own:∀y∈scope.names,y.2=.local∨y.2=.cell→y.1∈own.map (·.1)∨y.1∉N
noncomputable def wipe(σ:St):List Nat→St
 | []=>σ
 | v::vs=>(wipe σ vs).set v none
theorem k_(σ:St):∀vs:List Nat,(wipe σ vs).length=σ.length
 | []=>rfl
 | v::vs=>by unfold wipe;rw[List.length_set,k_ σ vs]
theorem qQ{σ:St}{i:Nat}{x:V}:∀{vs:List Nat},(wipe σ vs)[i]?=some (some x)→σ[i]?=some (some x)∧i∉vs
 | [],h=>⟨h,by simp⟩
 | v::vs,h=>by
  unfold wipe at h
  by_cases hi:v=i
  ·subst hi
   by_cases j:v<(wipe σ vs).length
   ·rw[List.getElem?_set_self j]at h;cases h
   ·rw[List.getElem?_eq_none (by simpa using j)]at h;cases h
  ·rw[List.getElem?_set_ne hi]at h
   obtain⟨h1,h2⟩:=qQ h
   exact⟨h1,by simp only[j',not_or];exact⟨fun e=>hi e.symm,h2⟩⟩
noncomputable abbrev Cx.blk(X:Cx)(s:Shared)(H:Hp)(scope:Scope)(j:Env)(fp:List Addr):Cx:={ X with s_0:=s,H_0:=H,env:=j,outer:=X.stack,ex:=fp,fn:=fun x=>scope.names.lookup x==some .cell,pn:=[],xe:=fun _ _=>False }
section
variable {X:Cx} {pins:List (Addr×Obj)} {σ:St} {H:Hp} {s:Shared}
theorem Dy{scope:Scope}{own:List (Str×Nat)}{fp:List Addr}(I:Inv X pins σ H s)(ok:Ea X.N X.env.scope scope own)(hN:X.N.Nodup)(G:∀b∈fp,uz X pins H b∧b<s.heap.objs.size) :
  Inv (X.blk s H scope (compEnvC scope (cellsFrom (s.heap.objs.size+1) scope.names (cF X.env.cells scope.names [])) s.heap.objs.size X.env) fp) [] (wipe σ (own.map (·.2))) H { s with heap:=pushCells (s.heap.push { cls:=.type "dict",data:=.dict #[] }) scope.names }:=by
 have ae:∀y∈scope.names,y.2=.free→∃c,X.env.cells.lookup y.1=some c:=fun y O e=>by
  rcases ok.free y O e with k | k
  ·exact I.ok.has _ (.inl k)
  ·exact I.ok.has _ (.inr k)
 generalize j:compEnvC scope (cellsFrom (s.heap.objs.size+1) scope.names (cF X.env.cells scope.names [])) s.heap.objs.size X.env=cenv
 have kp:∀b o,s.heap.get? b=some o→(pushCells (s.heap.push { cls:=.type "dict",data:=.dict #[] }) scope.names).get? b=some o:=fun b o e=>pushCells_keeps _ _ _ _ (Heap.get?_push_of_some _ e)
 have hL:cenv.locals=s.heap.objs.size:=by rw[←j];rfl
 have D:cenv.cells=cellsFrom (s.heap.objs.size+1) scope.names (cF X.env.cells scope.names []):=by rw[←j];rfl
 have ac:cenv.scope=Zz scope X.env.scope:=by rw[←j];rfl
 rw[←Heap.size_push s.heap { cls:=.type "dict",data:=.dict #[] }]at D
 have cm:∀{y c},(y,c)∈cF X.env.cells scope.names []→X.env.cells.lookup y=some c∧c<s.heap.objs.size:=fun{y c} J=>by
  rcases je J with J | ⟨h1,rfl⟩
  ·cases J
  ·obtain⟨c,hc⟩:=ae _ h1 rfl
   rw[hc]
   obtain⟨w,z⟩:=I.cell _ _ hc
   exact⟨rfl,z.lt⟩
 have mem:∀{y c},cenv.cells.lookup y=some c→(X.env.cells.lookup y=some c∧c<s.heap.objs.size)∨(s.heap.objs.size+1≤c∧Rz (pushCells (s.heap.push { cls:=.type "dict",data:=.dict #[] }) scope.names) c none):=fun{y c} e=>by
  rw[D]at e
  rcases jw (PySem.mem_of_lookup e)with J | ⟨_,h2,h3⟩
  ·exact .inl (cm J)
  ·rw[Heap.size_push]at h2;exact .inr ⟨h2,h3⟩
 have look:∀{y},scope.names.lookup y=some .free→∃c,cenv.cells.lookup y=some c∧X.env.cells.lookup y=some c:=fun{y} hl=>by
  have O:(y,NameKind.free)∈scope.names:=PySem.mem_of_lookup hl
  obtain⟨c',F⟩:=mem_lookup (nJ (names:=scope.names) (n:=(s.heap.push { cls:=.type "dict",data:=.dict #[] }).objs.size) (mH (cells:=X.env.cells) (acc:=[]) O))
  rw[←D]at F
  refine⟨c',F,?_⟩
  rw[D]at F
  rcases jw (PySem.mem_of_lookup F)with J | ⟨h1,_,_⟩
  ·exact(cm J).1
  ·have:=ok.uniq _ h1
   rw[hl]at this;cases this
 have ai:(X.blk s H scope cenv fp).Ok:=by
  refine⟨I.ok.mod,by show cenv.scope.kind=_;rw[ac];exact ok.kind,by show cenv.globals=_;rw[←j];exact I.ok.glob,by show cenv.builtins=_;rw[←j];exact I.ok.blt,by show s.heap.objs.size≤cenv.locals;rw[hL];exact i' _,
   fun y z c U Z=>?_,fun y O=>?_,fun y c z e=>?_,I.ok.hd,I.ok.frames,.inl rfl,fun b hb=>⟨?_,fun y c e z=>?_⟩,I.bs,lS I.ok.bsz I.sz,fun b o e hb=>?_,fun b hb z=>?_,I.stack,I.pK⟩
  ·have U:cenv.cells.lookup y=some c:=U
   have Z:cenv.cells.lookup z=some c:=Z
   rw[D]at U Z
   refine sO (fun p hp=>?_) (fun y z c a b=>I.ok.inj y z c (cm a).1 (cm b).1) (PySem.mem_of_lookup U) (PySem.mem_of_lookup Z)
   rw[Heap.size_push]
   exact Nat.lt_succ_of_lt (cm (y:=p.1) (c:=p.2) hp).2
  ·show ∃c,cenv.cells.lookup y=some c
   have key:∀k,cenv.kindOf y=some k→(k=.cell∨k=.free)→∃c,cenv.cells.lookup y=some c:=fun k hk af=>by
    unfold Env.kindOf at hk
    rw[ac]at hk
    obtain⟨Y,e,r⟩:=mj hk
    have:Y=.cell∨Y=.free:=by
     rcases r with rfl | ⟨rfl,_⟩
     ·exact af
     ·exact .inr rfl
    rcases this with rfl | rfl
    ·obtain⟨c,J⟩:=sS (n:=(s.heap.push { cls:=.type "dict",data:=.dict #[] }).objs.size) (acc:=cF X.env.cells scope.names []) (PySem.mem_of_lookup e)
     obtain⟨c',F⟩:=mem_lookup J
     exact⟨c',by rw[D];exact F⟩
    ·obtain⟨c,h1,_⟩:=look e
     exact⟨c,h1⟩
   rcases O with O | O
   ·exact key _ O (.inl rfl)
   ·exact key _ O (.inr rfl)
  ·have z:(scope.names.lookup y==some NameKind.cell)=true:=z
   have z:scope.names.lookup y=some .cell:=by simpa using z
   have e:cenv.cells.lookup y=some c:=e
   rw[D]at e
   rcases jw (PySem.mem_of_lookup e)with J | ⟨_,h2,_⟩
   ·rcases je J with J | ⟨h1,_⟩
    ·cases J
    ·have q:=ok.uniq _ h1
     rw[z]at q;cases q
   ·rw[Heap.size_push]at h2
    exact Nat.le_of_succ_le h2
  ·show b≠cenv.locals
   rw[hL];exact md (G b hb).2
  ·have e:cenv.cells.lookup y=some c:=e
   rcases mem e with⟨h1,_⟩ | ⟨h1,_⟩
   ·exact(G b hb).1.2.2.2.2.1 y c h1 z
   ·have h2:s.heap.objs.size+1≤b:=by rw[←z];exact h1
    exact absurd (lm (G b hb).2 (Nat.le_of_succ_le h2)) (Nat.lt_irrefl _)
  ·rcases(G b hb).1.2.2.2.1 with z | z
   ·exact I.ok.noex b o e z
   ·exact absurd (lm (Heap.lt_size e) (lS I.ok.bsz z)) (Nat.lt_irrefl _)
  ·rcases j'.mp (I.Ew b z)with z | z
   ·exact(G b hb).1.2.1 z
   ·exact(G b hb).1.2.2.1 z
 refine⟨ai,rfl,I.bare,Un.kept kp,⟨fun _=>none,?_,fun i y av U Z L=>?_⟩,fun y c e=>?_,?_,fun y c e=>?_,fun p hp=>?_,I.hok.kept kp,by rw[k_];exact I.len⟩
 ·show Heap.Ns _ cenv.locals _
  rw[hL]
  exact Heap.Ns.keeps (Heap.Ns.new ..) fun b o e=>pushCells_keeps _ _ _ _ e
 ·obtain⟨Z,al⟩:=qQ Z
  have S:scope.names.lookup y=some .free∧(cenv.kindOf y=some .cell∨cenv.kindOf y=some .free):=by
   have key:∀k,cenv.scope.names.lookup y=some k→k=.local∨k=.cell∨k=.free→scope.names.lookup y=some .free∧(cenv.kindOf y=some .cell∨cenv.kindOf y=some .free):=fun k hk af=>by
    have ah:=hk
    rw[ac]at hk
    obtain⟨Y,e,r⟩:=mj hk
    have no:¬(Y=.local∨Y=.cell):=fun hh=>by
     rcases ok.own _ (PySem.mem_of_lookup e) hh with F | F
     ·obtain⟨p,hp,aw⟩:=List.mem_map.mp F
      have L:=ok.ix p hp
      have:p.1=y:=aw
      rw[this]at L
      exact al (List.mem_map.mpr ⟨p,hp,vZ hN L U⟩)
     ·exact F (mw U)
    rcases r with rfl | ⟨rfl,rfl⟩
    ·rcases af with rfl | rfl | rfl
     ·exact absurd (.inl rfl) no
     ·exact absurd (.inr rfl) no
     ·exact⟨e,.inr ah⟩
    ·exact⟨e,.inl ah⟩
   have L:XN cenv.scope y:=L
   rcases L with L | L | L
   ·exact key _ L (.inl rfl)
   ·exact key _ L (.inr (.inl rfl))
   ·exact key _ L (.inr (.inr rfl))
  obtain⟨m,hn,hl⟩:=I.loc
  have ag:XN X.env.scope y:=(ok.free _ (PySem.mem_of_lookup S.1) rfl).elim (fun k=>.inr (.inl k)) (fun k=>.inr (.inr k))
  obtain⟨w,r,q⟩:=hl i y av U Z ag
  refine⟨w,r,.inr ⟨S.2,?_⟩⟩
  obtain⟨c,h1,h2⟩:=look S.1
  rcases q with⟨k,_⟩ | ⟨_,c',F,z⟩
  ·have k:X.env.scope.names.lookup y=some .local:=k
   rcases ok.free _ (PySem.mem_of_lookup S.1) rfl with Y | Y<;>rw[show X.env.scope.names.lookup y=_ from Y]at k<;>cases k
  ·rw[h2]at F;cases F
   exact⟨c,h1,z.keeps kp⟩
 ·have e:cenv.cells.lookup y=some c:=e
  rcases mem e with⟨h1,_⟩ | ⟨_,z⟩
  ·obtain⟨w,z⟩:=I.cell y c h1
   exact⟨w,z.keeps kp⟩
  ·exact⟨_,z⟩
 ·show H cenv.locals=none
  rw[hL];exact I.hok.fresh (i' _)
 ·have e:cenv.cells.lookup y=some c:=e
  rcases mem e with⟨h1,_⟩ | ⟨h1,_⟩
  ·exact I.freeC y c h1
  ·exact I.hok.fresh (Nat.le_of_succ_le h1)
 ·exact absurd (show p∈([]:List (Addr×Obj))++[]from hp) (by simp)
theorem Xh{E:Value→Shared→Prop}{D:Addr}{xs:List V}{y:V}{v:Value}{Q:Value→Shared→Prop}(I:Inv X pins σ H s)(F:H D=some (.lst xs))(hz:xs.length<sizeLine)(r:RelV y v)
  (h:∀s',Inv X pins σ (upd H D (.lst (xs++[y]))) s'→Q .none s'):wpAny (model X.prog X.w) X.A (call (.builtin "list.append") [.ref D,v]) Q E s:=by
 obtain⟨G,its,n,z,e⟩:=I.hok D _ F
 have O:=z.length
 refine append_at (hsz:=by rw[ll];lia) e fun h' J j=>?_
 refine h { s with heap:=h' } (I.write (t':=s.toks) (by rw[F];trivial) (.inl rfl) (fun b u L q=>(J.2 b L).trans q) ⟨_,j⟩ ⟨by rw[jp];exact hz,its++[v],n+1,z.append (.cons r .nil),?_⟩)
 rw[j]
 simp
noncomputable def Zg(X:Cx)(j:List Expr)(t:TT):Prop :=
 ∀(pins:List (Addr×Obj))(s:Shared)(σ:St)(H:Hp)(Q:Bool→Hp→Prop),Inv X pins σ H s→t σ H Q →
  wpAny (model X.prog X.w) X.A (forIn j true fun c r=>if r=true then do let ok ←isTrue c X.env (eval c X.env);pure (ForInStep.yield ok)else pure (ForInStep.yield r)) (TP X pins σ Q) X.xe s
noncomputable def Zo:TT:=fun _ H Q=>Q true H
theorem iW:Zg X [] Zo:=fun _ _ _ H _ I h=>wpAny_tests_nil ⟨H,I,h⟩
end
theorem J7{α:Type}{t:Sem α}{Q j:α→Shared→Prop}{M:Model}{A:Around}{E:Value→Shared→Prop}{s:Shared}(h:wpAny M A t Q (fun _ _=>False) s)(D:∀a s,Q a s→j a s):wpAny M A t j E s:=wpAny_mono h D fun _ _ z=>False.elim z
theorem Aa{prog:Program}{w:World}{A:Around}{R:Result→Shared→Prop}{s:Shared}{elt target iter:Expr}{j:List Expr}{scope:Scope}{pos:Pos}{it acc:Value}{env:Env}(I:Nat→Shared→Prop)
  (z:∀n s,I n s→wpAny (model prog w) A (pyNext it) (fun r s₁=>match r with
   | none=>R (.ok .next) s₁
   | some v=>wpAny (model prog w) A (letOwnedTupleGo target it v) (fun _ s₁'=>wpAny (model prog w) A (assign target env v) (fun _ s₂ =>
     wpAny (model prog w) A (forIn j true fun c r=>if r=true then do let ok ←isTrue c env (eval c env);pure (ForInStep.yield ok)else pure (ForInStep.yield r)) (fun ok s₃ =>
      if ok=true then wpAny (model prog w) A (eval elt env) (fun x s₄ =>
       wpAny (model prog w) A (call (.builtin "list.append") [acc,x]) (fun _ s₅=>∃m,m<n∧I m s₅) (notedBy (model prog w) A env fun e s'=>R (.error e) s') s₄) (notedBy (model prog w) A env fun e s'=>R (.error e) s') s₃
      else ∃m,m<n∧I m s₃) (notedBy (model prog w) A env fun e s'=>R (.error e) s') s₂) (notedBy (model prog w) A env fun e s'=>R (.error e) s') s₁') (notedBy (model prog w) A env fun e s'=>R (.error e) s') s₁) (notedBy (model prog w) A env fun e s'=>R (.error e) s') s)
  (n:Nat) (h:I n s) :
  codeAny (model prog w) A (.compLoop (.ListComp elt [⟨target,iter,j,0⟩] scope pos) 0 it acc env) R s:=by
 refine codeAny_loop rfl I (fun n s D=>?_) n h
 show wpAny _ A ((compTurn (.ListComp elt [⟨target,iter,j,0⟩] scope pos) 0 it acc env).onRaise (fun x=>do noteFrame x env;theTreesLotGoes x)) _ _ s
 refine wpAny_noted ?_
 rw[compTurn_list]
 refine wpAny_bind (wpAny_standAt (wpAny_bind (wpAny_mono (z n s D) (fun r s₁ h₁=>?_) fun _ _ h'=>h')))
 cases r with
 | none=>exact wpAny_pure h₁
 | some v =>
  refine wpAny_bind (wpAny_mono h₁ (fun _ s₁' h₁'=>?_) fun _ _ h'=>h')
  refine wpAny_bind (wpAny_mono h₁' (fun _ s₂ h₂=>wpAny_bind (wpAny_mono h₂ (fun ok s₃ h₃=>?_) fun _ _ h'=>h')) fun _ _ h'=>h')
  cases ok with
  | false=>exact wpAny_pure ⟨rfl,h₃⟩
  | true =>
   exact wpAny_bind (wpAny_bind (wpAny_mono h₃ (fun x s₄ h₄=>wpAny_bind (wpAny_mono h₄ (fun _ s₅ h₅=>wpAny_pure (wpAny_pure ⟨rfl,h₅⟩)) fun _ _ h'=>h')) fun _ _ h'=>h'))
section
variable {X:Cx}
noncomputable def Ze(O:TI)(g:TG)(L:TT)(te:TE)(vs:List Nat):TE:=fun σ H Q=>O σ H fun J H1=>∀D,H1 D=none→∃W:Nat→Nat→Hp→Prop,(∃m,W 0 m (upd H1 D (.lst [])))∧∀i m H,W i m H →
 (J.stop i H∧Q (.ref D) H)∨(J.go i H∧∃j:Hp→Prop,(∀H',j H'→∃G,G<m∧W (i+1) G H')∧∀x H',J.yld i H x H'→g x (wipe σ vs) H' fun σ2 H2=>wipe σ2 vs=wipe σ vs∧L σ2 H2 fun b F =>
  if b=true then te σ2 F fun y z=>∃acc,z D=some (.lst acc)∧acc.length<sizeLine∧j (upd z D (.lst (acc++[y])))else j F)
theorem Jj{pins:List (Addr×Obj)}{s:Shared}{σ:St}{H:Hp}{Q:VK}{elt tg iter:Expr}{O:List Expr}{scope:Scope}{own:List (Str×Nat)}{pos pos':Pos}{wi:TI}{g:TG}{tt:TT}{te:TE}{use:Option (Value→Sem Unit)}{Qf:Value→Shared→Prop}
  (hc:X.calm=true) (hN:X.N.Nodup) (I:Inv X pins σ H s) (hi:PI X tg iter wi) (ok:Ea X.N X.env.scope scope own)
  (hg:∀(s:Shared)(H:Hp)(C:Addr)(cl:List (Str×Addr))(fp:List Addr),PG (X.blk s H scope (compEnvC scope cl C X.env) fp) tg g) (ht:∀(s:Shared)(H:Hp)(C:Addr)(cl:List (Str×Addr))(fp:List Addr),Zg (X.blk s H scope (compEnvC scope cl C X.env) fp) O tt)
  (he:∀(s:Shared)(H:Hp)(C:Addr)(cl:List (Str×Addr))(fp:List Addr),PE (X.blk s H scope (compEnvC scope cl C X.env) fp) elt te) (hs:∀x,foldedSetIterable iter X.env x=pure x)
  (h:Ze wi g tt te (own.map (·.2)) σ H Q)
  (a0:∀D C s' m H',Inv X pins σ H' s'→Q (.ref D) H'→s'.heap.Ns C m→uz X pins H' C→compPost (model X.prog X.w) X.A X.xe use Qf (.ref D) C (.ok .next) s') :
  wpAny (model X.prog X.w) X.A (comprehension (.ListComp elt [⟨tg,iter,O,0⟩] scope pos) scope X.env pos' (newList []) false (eval iter X.env) use) Qf X.xe s:=by
 have ac:∀y∈scope.names,y.2=.free→∃c,X.env.cells.lookup y.1=some c:=fun y hy e=>by
  rcases ok.free y hy e with k | k
  ·exact I.ok.has _ (.inl k)
  ·exact I.ok.has _ (.inr k)
 refine wpAny_comprehension_free (use:=use) rfl hs (Hm ac) ok.kind (fun y hy e=>by rw[ok.uniq y hy,e])
  (cW (hi pins s σ H _ I h) fun xv s1 hx=>cW hx fun a6 s2 h2=>?_)
 obtain⟨it,fp,tn,J,H2,e,I2,T,av,f2,q⟩:=h2
 subst e
 refine wpAny_newObj_type (Cy ?_) (by show 0≤sizeLine;decide)
 generalize hD:s2.heap.objs.size=D
 have aT:H2 D=none:=I2.hok.fresh (Nat.le_of_eq hD)
 obtain⟨W,⟨m0,w0⟩,al⟩:=q D aT
 generalize ae:({ s2 with heap:=s2.heap.push { cls:=.type "list",data:=.seq ([]:List Value).toArray } }:Shared)=F
 have I3:Inv X pins σ (upd H2 D (.lst [])) F:=by
  rw[←ae]
  refine I2.laid (t':=s2.toks) (fun b o e=>Heap.get?_push_of_some _ e) (Nat.le_of_eq hD) ⟨Nat.zero_le _,[],0,.nil,?_⟩
  rw[←hD]
  exact Heap.get?_push_size _ rfl
 have h3:F.heap=s2.heap.push { cls:=.type "list",data:=.seq ([]:List Value).toArray }:=by rw[←ae]
 have sz:∀b∈fp,b<s2.heap.objs.size:=fun b G=>by
  obtain⟨o,e,_⟩:=T.obj _ _ av b G
  exact Heap.lt_size e
 have f3:∀b∈fp,uz X pins (upd H2 D (.lst [])) b∧b<F.heap.objs.size:=fun b G=>by
  have af:=sz b G
  refine⟨⟨?_,(f2 b G).2⟩,by rw[h3,Heap.size_push];exact Nat.lt_succ_of_lt af⟩
  rw[aA (by rw[←hD];exact md af)]
  exact(f2 b G).1
 have aE:tn 0 F.heap:=T.keep _ _ _ av fun b _ o e=>by rw[h3];exact Heap.get?_push_of_some _ e
 have I4:=Dy I3 ok hN f3
 have pg:=hg F (upd H2 D (.lst [])) F.heap.objs.size (cellsFrom (F.heap.objs.size+1) scope.names (cF X.env.cells scope.names [])) fp
 have pt:=ht F (upd H2 D (.lst [])) F.heap.objs.size (cellsFrom (F.heap.objs.size+1) scope.names (cF X.env.cells scope.names [])) fp
 have pe:=he F (upd H2 D (.lst [])) F.heap.objs.size (cellsFrom (F.heap.objs.size+1) scope.names (cF X.env.cells scope.names [])) fp
 show codeAny _ _ (.compStart (.ListComp elt [⟨tg,iter,O,0⟩] scope pos) 0 (.ref it) (.ref D) (compEnvC scope (cellsFrom (F.heap.objs.size+1) scope.names (cF X.env.cells scope.names [])) F.heap.objs.size X.env)) (compPost (model X.prog X.w) X.A X.xe use Qf (.ref D) F.heap.objs.size) { F with heap:=pushCells (F.heap.push { cls:=.type "dict",data:=.dict #[] }) scope.names }
 have ah:∀b∈fp,(upd H2 D (.lst [])) b=none:=fun b G=>(f3 b G).1.1
 generalize a3:compEnvC scope (cellsFrom (F.heap.objs.size+1) scope.names (cF X.env.cells scope.names [])) F.heap.objs.size X.env=ce at I4 pg pt pe ⊢
 have cL:ce.locals=F.heap.objs.size:=by subst a3;rfl
 generalize a8:upd H2 D (.lst [])=H3 at I3 I4 pg pt pe w0 ah f3
 generalize aI:({ F with heap:=pushCells (F.heap.push { cls:=.type "dict",data:=.dict #[] }) scope.names }:Shared)=s4 at I4 ⊢
 have aw:tn 0 s4.heap:=T.keep _ _ _ aE fun b _ o e=>by rw[←aI];exact pushCells_keeps _ _ _ _ (Heap.get?_push_of_some _ e)
 have L:∀{σ':St}{H':Hp}{s':Shared},Inv (X.blk F H3 scope ce fp) [] σ' H' s'→(∀b∈fp,H' b=none)→∀b∈fp,uz (X.blk F H3 scope ce fp) [] H' b:=fun{σ' H' s'} I' hn b G =>
  ⟨hn b G,(I'.ok.exf b G).1,I'.ok.exfs b G,.inl G,fun x c e=>(I'.ok.exf b G).2 x c e,fun p hp=>absurd (show p∈([]:List (Addr×Obj))++[]from hp) (by simp)⟩
 have U:codeAny (model X.prog X.w) X.A (.compLoop (.ListComp elt [⟨tg,iter,O,0⟩] scope pos) 0 (.ref it) (.ref D) ce) (compPost (model X.prog X.w) X.A X.xe use Qf (.ref D) F.heap.objs.size) s4:=by
  refine Aa (fun n s'=>∃i H',Inv (X.blk F H3 scope ce fp) [] (wipe σ (own.map (·.2))) H' s'∧tn i s'.heap∧(∀b∈fp,H' b=none)∧W i n H') ?_ m0 ⟨0,H3,I4,aw,ah,w0⟩
  rintro n s5 ⟨i,Z,I5,ax,n5,w5⟩
  rcases al i n Z w5 with⟨stop,qq⟩ | ⟨go,Nx,a2,step⟩
  ·have td:=T.done (X.blk F H3 scope ce fp) rfl rfl rfl hc i [] s5 _ Z (fun _ _=>False) I5 (L I5 n5) ax stop
   refine J7 td fun r s6 ⟨hr,I6⟩=>?_
   subst hr
   have I7:Inv X pins σ Z s6:=I3.call' (ch:=fp) I6.os I6.base I6.hok I6.bare fun b G=>⟨(f3 b G).1.2.2.2.1,(f3 b G).1.2.1,(f3 b G).1.2.2.2.2.1,(f3 b G).1.2.2.2.2.2⟩
   have nC:Z F.heap.objs.size=none:=by
    have z:Z ce.locals=none:=I6.free
    rw[cL]at z
    exact z
   obtain⟨m,hn,_⟩:=I6.loc
   have hn:s6.heap.Ns ce.locals m:=hn
   rw[cL]at hn
   exact a0 D F.heap.objs.size s6 m Z I7 qq hn (I3.Hg (i' _) nC)
  ·have ti:=T.item (X.blk F H3 scope ce fp) rfl rfl rfl hc i [] s5 _ Z (fun _ _=>False) I5 (L I5 n5) ax go
   refine J7 ti fun r s6 ⟨u,hr,h6⟩=>?_
   subst hr
   refine J7 h6 fun _ s7 hz=>?_
   obtain⟨x,H7,I7,r7,y7,Y,n7⟩:=hz
   have aM:=I7.pinned (L I7 n7) (T.obj _ _ Y)
   refine J7 (pg _ s7 _ H7 x u _ aM r7 (step x H7 y7)) fun _ s8 ⟨σ8,H8,I8,ag,q8⟩=>?_
   refine J7 (pt _ s8 σ8 H8 _ I8 q8) fun b s9 ⟨H9,I9,q9⟩=>?_
   have fin:∀{s':Shared}{H':Hp},Inv (X.blk F H3 scope ce fp) ([]++vW fp s7.heap) σ8 H' s'→Nx H'→∃m,m<n∧∃i H',Inv (X.blk F H3 scope ce fp) [] (wipe σ (own.map (·.2))) H' s'∧tn i s'.heap∧(∀b∈fp,H' b=none)∧W i m H':=fun{s' H'} I' nx=>by
    obtain⟨m',hm,w'⟩:=a2 H' nx
    have S:∀b∈fp,∀o,s7.heap.get? b=some o→s'.heap.get? b=some o∧H' b=none:=fun b G o e =>
     let z:=I'.pin (b,o) (List.mem_append_right _ (List.mem_append_right _ (oZ G e)))
     ⟨z.1,z.2.1⟩
    have hl:(wipe σ (own.map (·.2))).length=σ8.length:=by rw[←ag,k_]
    refine⟨m',hm,i+1,H',(I'.pG (pins:=[])).weak hl (fun j v e=>?_),T.keep _ _ _ Y fun b G o e=>(S b G o e).1,fun b G=>?_,w'⟩
    ·rw[←ag]at e
     exact(qQ e).1
    ·obtain⟨o,e,_⟩:=T.obj _ _ Y b G
     exact(S b G o e).2
   cases b with
   | false =>
    simp only[Bool.false_eq_true,if_false]at q9 ⊢
    exact fin I9 q9
   | true =>
    simp only[if_true]at q9 ⊢
    refine J7 (pe _ s9 σ8 H9 _ I9 q9) fun z a5 hz=>?_
    obtain⟨yv,a4,aS,aC,acc,ay,ai,nx⟩:=hz
    exact Xh (X:=X.blk F H3 scope ce fp) aS ay ai aC fun a7 a1=>fin a1 nx
 exact codeAny_compStart_list U (T.self X.A 0 _ _ _ aw U)
theorem yr{elt tg iter:Expr}{j:List Expr}{scope:Scope}{own:List (Str×Nat)}{pos:Pos}{F:TI}{g:TG}{z:TT}{te:TE}(G:X.calm=true)(O:X.N.Nodup)(hi:PI X tg iter F)(ok:Ea X.N X.env.scope scope own)
  (hg:∀(s:Shared)(H:Hp)(C:Addr)(cl:List (Str×Addr))(fp:List Addr),PG (X.blk s H scope (compEnvC scope cl C X.env) fp) tg g) (ht:∀(s:Shared)(H:Hp)(C:Addr)(cl:List (Str×Addr))(fp:List Addr),Zg (X.blk s H scope (compEnvC scope cl C X.env) fp) j z)
  (he:∀(s:Shared)(H:Hp)(C:Addr)(cl:List (Str×Addr))(fp:List Addr),PE (X.blk s H scope (compEnvC scope cl C X.env) fp) elt te) (Z:∀x,foldedSetIterable iter X.env x=pure x:=by intro _;rfl) :
  PE X (.ListComp elt [⟨tg,iter,j,0⟩] scope pos) (Ze F g z te (own.map (·.2))):=by
 intro pins s σ H Q I h
 rw[eval_ListComp]
 refine Jj G O I hi ok hg ht he Z h fun D C s' m H' S q J f=>⟨m,J,fun ac U=>?_⟩
 obtain⟨L,f1,f2,f3,f4,f5⟩:=f
 exact⟨.ref D,H',S.turned (t':=s'.toks) (fun b o Y e=>(U.2 b Y).trans e) L f1 f3 f4 f5,rfl,q⟩
theorem BZ{i:Nat}{y:Str}{py:Pos}{elt tg iter:Expr}{j:List Expr}{scope:Scope}{own:List (Str×Nat)}{pos F:Pos}{U:TI}{g:TG}{S:TT}{te:TE}(hc:X.calm=true)(Z:X.N.Nodup)(hy:X.N[i]?=some y)(G:X.env.scope.names.lookup y=some .local)
  (J:swapsWith (.ListComp elt [⟨tg,iter,j,0⟩] scope pos) (some (.Name y py)) F.line X.env=pure true) (hi:PI X tg iter U) (ok:Ea X.N X.env.scope scope own)
  (hg:∀(s:Shared)(H:Hp)(C:Addr)(cl:List (Str×Addr))(fp:List Addr),PG (X.blk s H scope (compEnvC scope cl C X.env) fp) tg g) (ht:∀(s:Shared)(H:Hp)(C:Addr)(cl:List (Str×Addr))(fp:List Addr),Zg (X.blk s H scope (compEnvC scope cl C X.env) fp) j S)
  (he:∀(s:Shared)(H:Hp)(C:Addr)(cl:List (Str×Addr))(fp:List Addr),PE (X.blk s H scope (compEnvC scope cl C X.env) fp) elt te) (hs:∀x,foldedSetIterable iter X.env x=pure x:=by intro _;rfl) :
  PS X (.Assign [.Name y py] (.ListComp elt [⟨tg,iter,j,0⟩] scope pos) F) (Bf (Ze U g S te (own.map (·.2))) (oF i)):=by
 intro pins s σ H D I h
 rw[exec_Assign_Name_used _ _ _ _ J]
 refine wpAny_bind (wpAny_standAt (wpAny_bind ?_))
 show wpAny _ X.A (do let _ ←comprehension (.ListComp elt [⟨tg,iter,j,0⟩] scope pos) scope X.env (firstIterPos [⟨tg,iter,j,0⟩] pos) (newList []) false (eval iter X.env) (some (assign (.Name y py) X.env))) _ _ s
 have h:Ze U g S te (own.map (·.2)) σ H (fun x H1=>oF i x σ H1 D.nx):=h
 refine wpAny_bind (cW (Jj (Qf:=fun _ s'=>SP X pins D .next s') hc Z I hi ok hg ht he hs h fun L C s' m H' I' q hn f=>?_) fun _ s' hq=>wpAny_pure (wpAny_pure hq))
 show wpAny _ _ (assign (.Name y py) X.env (.ref L)) _ _ _
 refine wpAny_assign_Name (yg (v:=V.ref L) I' Z hy (.inl G) rfl (fun s2 I2 ⟨a,sb,ha⟩=>?_) (.inr G))
 obtain⟨f0,f1,f2,f3,f4,f5⟩:=f
 have O:C≠a:=by
  rcases ha with z | z
  ·rw[z];exact f1
  ·exact fun e=>f4 y a z e.symm
 refine⟨m,hn.sameBut sb O,fun h3 Y=>?_⟩
 exact⟨_,H',I2.turned (t':=s2.toks) (fun b o hb e=>(Y.2 b hb).trans e) f0 f1 f3 f4 f5,q⟩
theorem HH{elt:Expr}{j:List Comprehension}{scope:Scope}{pos py:Pos}{y:Str}{l:Nat}{env:Env}(L:env.scope.kind=.function)(F:env.scope.names.lookup y=some .local)(D:(py.line==pos.line)=true)
  (z:(scope.names.any fun(n,k)=>n==y&&(k==.local||k==.cell))=false):swapsWith (.ListComp elt j scope pos) (some (.Name y py)) l env=pure true:=by
 have G:env.kindOf y=some .local:=F
 have J:env.blockKind=.function:=by unfold Env.blockKind;rw[L];rfl
 have ep:Expr.pos (.ListComp elt j scope pos)=pos:=rfl
 unfold swapsWith
 simp only[J,G,z,ep,D]
 rfl
end
theorem jb{K:PySem.W.Frag}{a:Addr}{xs:List V}{g:TG}{L:TT}{te:TE}{vs:List Nat}{σ:St}{H1:Hp}{D:Addr}{J:Hp→Prop}(Pv:Nat→Hp→Prop)(h0:Pv 0 (upd H1 D (.lst [])))(S:∀i H,i≤xs.length→Pv i H→bF K H a xs)
  (U:∀i x H,xs[i]?=some x→Pv i H→g x (wipe σ vs) H fun σ2 H2=>wipe σ2 vs=wipe σ vs∧L σ2 H2 fun b F =>
   if b=true then te σ2 F fun y j=>∃acc,j D=some (.lst acc)∧acc.length<sizeLine∧Pv (i+1) (upd j D (.lst (acc++[y])))else Pv (i+1) F) (hd:∀H,Pv xs.length H→J H) :
  ∃W:Nat→Nat→Hp→Prop,(∃m,W 0 m (upd H1 D (.lst [])))∧∀i m H,W i m H →
   ((Vz K a).stop i H∧J H)∨((Vz K a).go i H∧∃G:Hp→Prop,(∀H',G H'→∃O,O<m∧W (i+1) O H')∧∀x H',(Vz K a).yld i H x H'→g x (wipe σ vs) H' fun σ2 H2=>wipe σ2 vs=wipe σ vs∧L σ2 H2 fun b F =>
    if b=true then te σ2 F fun y j=>∃acc,j D=some (.lst acc)∧acc.length<sizeLine∧G (upd j D (.lst (acc++[y])))else G F):=by
 refine⟨fun i m H=>m=xs.length-i∧i≤xs.length∧Pv i H,⟨xs.length,by simp,Nat.zero_le _,h0⟩,?_⟩
 rintro i m H ⟨rfl,hi,p⟩
 have q:=S i H hi p
 by_cases z:i<xs.length
 ·refine .inr ⟨⟨xs,xs[i],q,by simp[z]⟩,Pv (i+1),fun H' Y=>⟨xs.length-(i+1),by lia,rfl,z,Y⟩,fun x H' y=>?_⟩
  obtain⟨e,y⟩:=y
  subst e
  exact U i x _ (y xs q) p
 ·have e:i=xs.length:=by lia
  subst e
  exact .inl ⟨⟨xs,q,i' _⟩,hd H p⟩
noncomputable def YX(N:List Str)(sc scope:Scope)(own:List (Str×Nat)):Bool :=
 (match scope.kind with | .function=>true | _=>false)&&(scope.names.all fun y=>decide (scope.names.lookup y.1=some y.2))&&(own.all fun p=>decide (N[p.2]?=some p.1)) &&
  (scope.names.all fun y=>match y.2 with
   | .free=>(match sc.names.lookup y.1 with | some .cell=>true | some .free=>true | _=>false)
   | .local=>decide (y.1∈own.map (·.1))||decide (y.1∉N)
   | .cell=>decide (y.1∈own.map (·.1))||decide (y.1∉N)
   | _=>true)
theorem g_{N:List Str}{sc scope:Scope}{own:List (Str×Nat)}(h:YX N sc scope own=true):Ea N sc scope own:=by
 unfold YX at h
 simp only[lj,mv,mo]at h
 obtain⟨⟨⟨h1,h2⟩,D⟩,z⟩:=h
 refine⟨?_,h2,D,fun y j e=>?_,fun y j e=>?_⟩
 ·split at h1
  ·assumption
  ·cases h1
 ·have q:=z y j
  simp only[e]at q
  split at q<;>first | exact .inl (by assumption) | exact .inr (by assumption) | cases q
 ·have q:=z y j
  rcases e with e | e<;>(simp only[e,Bool.or_eq_true,mo]at q;exact q)
end L2
namespace L2
open PySem PySem.Spec PyProof.Rows
section
variable {prog:Program} {w:World} {A:Around} {R:Result→Shared→Prop} {s:Shared} {elt t0 i0 t1 i1:Expr} {ifs0 ifs1:List Expr} {scope:Scope} {pos:Pos} {it acc:Value} {env:Env}
end
section
variable {X:Cx}
end
end L2
namespace L2
open PySem PySem.Spec PyProof.Rows
section
variable {κ:Type} [DecidableEq κ]
noncomputable def xr(kvs:List (κ×V))(k:κ):Option V:=(kvs.find? fun j=>decide (j.1=k)).map (·.2)
theorem Nb{p:κ×V}{r:List (κ×V)}{k:κ}(e:p.1=k):xr (p::r) k=some p.2:=by simp[xr,List.find?_cons,e]
theorem Nf{p:κ×V}{r:List (κ×V)}{k:κ}(e:¬p.1=k):xr (p::r) k=xr r k:=by simp[xr,List.find?_cons,e]
theorem pF.Lw{o:Option V}{u:Option Value}(r:pF o u):o.isSome=u.isSome:=by
 cases o with
 | none=>cases u with
  | none=>rfl
  | some _=>exact(show False from r).elim
 | some _=>cases u with
  | none=>exact(show False from r).elim
  | some _=>rfl
theorem KV.val{kvs:List (κ×V)}{vs:List (κ×Value)}(r:KV kvs vs)(k:κ):pF (xr kvs k) (valueAt vs k):=by
 unfold KV at r
 induction r with
 | nil=>exact True.intro
 | @cons p q ps D h t F =>
  obtain⟨h1,h2⟩:=h
  by_cases e:p.1=k
  ·have j:q.1=k:=h1.symm.trans e
   have b:valueAt (q::D) k=some q.2:=by simp[valueAt,List.find?_cons,j]
   rw[Nb e,b];exact h2
  ·have j:¬q.1=k:=fun z=>e (h1.trans z)
   have b:valueAt (q::D) k=valueAt D k:=by simp[valueAt,List.find?_cons,j]
   rw[Nf e,b];exact F
end
theorem Vu{P:Program}{w:World}{k:Key}{u:Value}(r:RelV (kV k) u):(du P w).is k u=true:=by
 cases k with
 | inl i=>obtain⟨t,e⟩:=(show ∃t,u=Value.int i t from r);subst e;exact CJ P w i t
 | inr x=>obtain⟨t,e⟩:=(show ∃t,u=Value.str x t from r);subst e;exact lZ P w x t
section
variable {P:Program} {w:World} {H:Hp} {h:Heap} {a:Addr}
end
section
variable {X:Cx} {pins:List (Addr×Obj)} {σ:St} {H:Hp} {s:Shared} {a:Addr} {y v:V} {u r:Value} {o:Option V} {A:Around} {E:Value→Shared→Prop}
end
section
variable {X:Cx} {pins:List (Addr×Obj)} {σ:St} {H:Hp} {s:Shared} {a:Addr} {kvs:List (Key×V)} {k:Key} {u:Value} {A:Around} {E:Value→Shared→Prop}
end
noncomputable def Y6(i:Expr):Prop:=∀z j,subscripted i false z j=operate [z,j] (getItem z j)
theorem RQ{prog:Program}{w:World}{A:Around}{E:Value→Shared→Prop}{s:Shared}{env:Env}{value slice:Expr}{pos:Pos}{T id:String}{Q:Value→Shared→Prop}
  (z:typeLookup (.type T) "__getitem__"=pure (some (.builtin id))) (D:Y6 slice)
  (h:wpAny (model prog w) A (eval value env) (fun o s₁=>wpAny (model prog w) A (eval slice env) (fun i s₂=>s₂.TypeIs o T∧wpAny (model prog w) A (getItem o i) Q E s₂) E s₁) E s) :
  wpAny (model prog w) A (eval (.Subscript value slice pos) env) Q E s:=by
 refine Subscript_ (wpAny_mono h (fun o s₁ h₁=>wpAny_mono h₁ (fun i s₂ h₂=>?_) fun _ _ x=>x) fun _ _ x=>x)
 obtain⟨j,h₂⟩:=h₂
 unfold subscriptTail
 refine wpAny_bind ?_
 rw[getitemInPython_of_ne j.not_modules]
 refine wpAny_bind (wpAny_specialOf j z ?_)
 have fin:wpAny (model prog w) A (subscripted slice false o i) (fun r s₃=>wpAny (model prog w) A (letTemporaryGo value o r>>=fun _=>pure r) Q E s₃) E s₂:=by
  rw[D o i]
  exact wpAny_operating (wpAny_mono h₂ (fun r s₃ h₃=>wpAny_bind (wpAny_letTemporaryGo (wpAny_pure h₃))) fun _ _ x=>x)
 first
  | exact wpAny_pure (wpAny_bind fin)
  | exact wpAny_bind (wpAny_pure (wpAny_bind fin))
  | exact wpAny_bind fin
section
variable {X:Cx} {o i e value:Expr} {pos pos' tpos:Pos} {td ty tv:TE}
end
section
variable {X:Cx} {pos:Pos}
end
section
variable {X:Cx} {pins:List (Addr×Obj)} {σ:St} {H:Hp} {s:Shared} {a:Addr} {y d:V} {u r:Value} {o:Option V} {A:Around} {E:Value→Shared→Prop}
end
section
variable {X:Cx} {o e f:Expr} {apos cpos:Pos} {td ty tx:TE}
end
section
variable {X:Cx} {pins:List (Addr×Obj)} {σ:St} {H:Hp} {s:Shared} {a:Addr} {kvs:List (Key×V)} {A:Around} {E:Value→Shared→Prop}
end
section
variable {X:Cx} {pins:List (Addr×Obj)} {σ:St} {H:Hp} {s:Shared} {a:Addr} {y:V} {u:Value} {A:Around} {E:Value→Shared→Prop}
end
end L2
namespace L2
open PySem PySem.Spec PyProof.Rows
section
variable {prog:Program} {w:World} {A:Around} {E:Value→Shared→Prop}
end
section
variable {X:Cx}
end
end L2
namespace L2
open PySem PySem.Spec PyProof.Rows
section
variable {X:Cx} {pins:List (Addr×Obj)} {σ:St} {H:Hp} {s:Shared} {h':Heap}
theorem Inv.RN{t':Nat}{ch:List Addr}(I:Inv X pins σ H s)(k:∀b o,b∉ch→s.heap.get? b=some o→h'.get? b=some o)(D:∀b∈ch,uz X pins H b):Inv X pins σ H { s with heap:=h',toks:=t' }:=by
 have F:∀b u,H b=some u→b∉ch:=fun b u e z=>by
  have q:=(D b z).1
  rw[q]at e;cases e
 refine I.step (g':=s.gens) (d':=s.drawn) (ch:=ch) (fun b G=>⟨(D b G).2.2.2.1,(D b G).2.1,(D b G).2.2.2.2.1,(D b G).2.2.2.2.2⟩) (fun b o _ _ j e _=>k b o j e) (fun b o _ _ j e _=>⟨o.slots,k b o j e⟩)
  (fun _ _ _ _ n=>n) (fun b o j e=>⟨o,k b o j e⟩) (fun _ _ e=>e) (fun _ _ _ e=>e) (fun b ps e=>⟨#[],by rw[e];simp⟩) (fun m J=>?_) (fun b u e=>?_) I.bare
 ·obtain⟨o,es,ep,L,r⟩:=J
  exact⟨o,es,ep,k _ o (fun z=>(D _ z).2.1 rfl) L,r⟩
 ·refine(I.hok b u e).stay (fun c v j q=>k c v ?_ q) (fun _ q=>q) fun _ _ q=>q
  rcases j with z | z
  ·rw[z];exact F b u e
  ·exact F c _ z
theorem Inv.qR{t':Nat}{ch:List Addr}{T:Addr}{L:HO}(I:Inv X pins σ H s)(k:∀b o,b∉ch→s.heap.get? b=some o→h'.get? b=some o)(F:∀b∈ch,uz X pins H b)(O:s.heap.objs.size≤T)
  (new:dq X.prog X.w (upd H T L) h' T L):Inv X pins σ (upd H T L) { s with heap:=h',toks:=t' }:=by
 have G:H T=none:=I.hok.fresh O
 have J:∀b u,H b=some u→b∉ch:=fun b u e z=>by
  have q:=(F b z).1
  rw[q]at e;cases e
 refine I.step (g':=s.gens) (d':=s.drawn) (ch:=ch) (fun b D=>⟨(F b D).2.2.2.1,(F b D).2.1,(F b D).2.2.2.2.1,(F b D).2.2.2.2.2⟩) (fun b o _ _ j e _=>k b o j e) (fun b o _ _ j e _=>⟨o.slots,k b o j e⟩)
  (fun b o _ e n=>?_) (fun b o j e=>⟨o,k b o j e⟩) (fun b xs e=>?_) (fun b o u e=>?_) (fun b ps e=>⟨#[],?_⟩) (fun m S=>?_) (fun b u e=>?_) I.bare
 ·rw[aA (md (lm (Heap.lt_size e) O))];exact n
 ·rw[aA (aP e G)];exact e
 ·rw[aA (aP e G)];exact e
 ·rw[aA (aP e G),e];simp
 ·obtain⟨o,es,ep,U,r⟩:=S
  exact⟨o,es,ep,k _ o (fun z=>(F _ z).2.1 rfl) U,r⟩
 ·by_cases D:b=T
  ·subst D
   rw[au]at e
   cases e
   exact new
  ·rw[aA D]at e
   refine(I.hok b u e).stay (fun c v j q=>k c v ?_ q) (fun c q=>by rw[aA (aP q G)];exact q) fun c xs q=>by rw[aA (aP q G)];exact q
   rcases j with z | z
   ·rw[z];exact J b u e
   ·exact J c _ z
end
section
variable {X:Cx}
theorem Wr{tg:Expr}{pins:List (Addr×Obj)}{σ:St}{H:Hp}{s:Shared}{R:It→Hp→Prop}{J:It}{tn:Nat→Heap→Prop}{tk:Nat}(I:Inv X pins σ H s)(o:Obj)
  (T:Turn X.prog X.w X.K tg J [s.heap.objs.size] s.heap.objs.size tn) (st:tn 0 (s.heap.push o)) (q:R J H):PIE X pins σ tg R (.ref s.heap.objs.size) { s with heap:=s.heap.push o,toks:=tk }:=by
 refine⟨s.heap.objs.size,[s.heap.objs.size],tn,J,H,rfl,I.kept fun b z e=>Heap.get?_push_of_some _ e,T,st,fun b j=>?_,q⟩
 have e:b=s.heap.objs.size:=by simpa using j
 subst e
 exact I.Hg (i' _) (I.hok.fresh (i' _))
end
section
variable {X:Cx} {tg:Expr}
end
section
variable {X:Cx} {tg:Expr}
end
section
variable {prog:Program} {w:World} {A:Around} {E:Value→Shared→Prop} {s:Shared}
end
theorem W3{κ:Type}{kvs:List (κ×V)}{vs:List (κ×Value)}(h:KV kvs vs):∀{i:Nat}{k:κ}{v:V},kvs[i]?=some (k,v)→∃u,vs[i]?=some (k,u)∧RelV v u:=by
 unfold KV at h
 induction h with
 | nil=>intro i k v e;simp at e
 | @cons a b l₁ l₂ r t z =>
  intro i k v e
  cases i with
  | zero =>
   simp only[mI,Option.some.injEq]at e
   subst e
   refine⟨b.2,?_,r.2⟩
   simp only[mI]
   exact congrArg some (Prod.ext r.1.symm rfl)
  | succ j =>
   simp only[mE]at e ⊢
   exact z e
theorem cz{α β:Type}{G:α→β→Prop}{l₁:List α}{l₂:List β}(h:Paired G l₁ l₂):∀{i:Nat}{a:α},l₁[i]?=some a→∃b,l₂[i]?=some b∧G a b:=by
 induction h with
 | nil=>intro i a e;simp at e
 | @cons a b l₁ l₂ r t z =>
  intro i D e
  cases i with
  | zero =>
   simp only[mI,Option.some.injEq]at e
   subst e
   exact⟨b,rfl,r⟩
  | succ j =>
   simp only[mE]at e ⊢
   exact z e
theorem Ph{k:Key}{u:Value}(h:tW k u=true):RelV (kV k) u:=by
 rcases cR h with⟨i,t,rfl,rfl⟩ | ⟨x,t,rfl,rfl⟩
 ·exact⟨t,rfl⟩
 ·exact⟨t,rfl⟩
section
variable {X:Cx} {pins:List (Addr×Obj)} {σ:St} {H:Hp} {s:Shared} {d:Addr} {o:Obj}
end
theorem JB{o:Obj}{es z:Array DictEntry}{ep j:Nat}(h:o.data=.dict es ep)(h':o.data=.dict z j):z=es∧j=ep:=by
 rw[h]at h'
 cases h'
 exact⟨rfl,rfl⟩
section
variable {P:Program} {w:World} {K:PySem.W.Frag} {tg:Expr} {d:Addr} {o:Obj} {es:Array DictEntry} {ep:Nat}
end
section
variable {X:Cx} {tg e:Expr} {td:TE} {apos cpos:Pos}
end
noncomputable def Zb(K:PySem.W.Frag)(a:Addr):It :=
 ⟨fun i H=>∃(xs:List V)(x:V),bF K H a xs∧xs[i]?=some x,fun i H v H'=>∃T x,v=.ref T∧H T=none∧H'=upd H T (.tup [.int (i:Nat),x])∧∀xs,bF K H a xs→xs[i]?=some x,fun i H=>∃xs:List V,bF K H a xs∧xs.length≤i⟩
theorem J0{P:Program}{w:World}{K:PySem.W.Frag}{J:List Expr}{kk:Nat}{tpos:Pos}(a e it:Addr) :
  Turn P w K (.Tuple J kk tpos) (Zb K a) [e,it] e (fun i h=>(∃old,IsEnum h e it ((i:Nat):Int) old)∧h.IsListIter it a i∧e≠it) where
 mem:=by simp
 obj:=fun i h st b D=>by
  obtain⟨⟨old,F⟩,⟨o,ho,hc,hd⟩,_⟩:=st
  have Y:b=e∨b=it:=by simpa using D
  rcases Y with z | z
  ·rw[z];exact⟨_,F,fun v q=>nomatch q⟩
  ·rw[z];exact⟨o,ho,fun v q=>by rw[hd]at q;cases q⟩
 keep:=fun i h h' st k=>let⟨⟨old,F⟩,hi,j⟩:=st;⟨⟨old,k e (by simp) _ F⟩,hi.at fun o q=>k it (by simp) o q,j⟩
 item:=by
  intro X hP hw hK hc i pins s σ H E I U st hg
  subst hP hw hK
  obtain⟨⟨old,F⟩,hit,j⟩:=st
  obtain⟨xs,x,S,hx⟩:=hg
  obtain⟨its,rv,p,hz⟩:=I.list S
  obtain⟨u,hu,ru⟩:=rv.get hx
  have O:e<s.heap.objs.size:=Heap.lt_size F
  have af:it<s.heap.objs.size:=by obtain⟨_,q,_⟩:=hit;exact Heap.lt_size q
  refine wpAny_pyNext_enum_item F hit p.isList (x:=u) (by simpa using hu) j fun h' ho L hT hsz hk=>?_
  refine⟨_,rfl,wpAny_letOwnedTupleGo_enum (s:={ s with heap:=h',toks:=s.toks+1 }) ho fun G Z sb=>?_⟩
  have ac:G.get? s.heap.objs.size=some { cls:=.type "tuple",data:=.seq #[.int i s.toks,u] }:=(sb.2 _ (Nat.ne_of_gt O)).trans hT
  have new:dq X.prog X.w (upd H s.heap.objs.size (.tup [.int (i:Nat),x])) G s.heap.objs.size (.tup [.int (i:Nat),x]) :=
   ⟨by show 2≤sizeLine;decide,[.int i s.toks,u],.cons ⟨_,rfl⟩ (.cons ru .nil),⟨_,ac,rfl,_,rfl⟩⟩
  have I1:Inv X pins σ (upd H s.heap.objs.size (.tup [.int (i:Nat),x])) { s with heap:=G,toks:=s.toks+1 } :=
   I.qR (ch:=[e,it]) (fun b ob D q=>(sb.2 b (fun z=>D (by simp[z]))).trans (hk b ob (fun z=>D (by simp[z])) (fun z=>D (by simp[z])) q)) U (i' _) new
  refine⟨.ref s.heap.objs.size,_,I1,rfl,⟨_,x,rfl,I.hok.fresh (i' _),rfl,fun ys hy=>by rw[I.qw hy S];exact hx⟩,⟨⟨u,?_⟩,L.at fun o q=>(sb.2 it (Ne.symm j)).trans q,j⟩,fun b D=>?_⟩
  ·have e1:((i+1:Nat):Int)=(i:Int)+1:=by lia
   rw[e1];exact Z
  ·have ae:b<s.heap.objs.size:=by
    have Y:b=e∨b=it:=by simpa using D
    rcases Y with z | z
    ·rw[z];exact O
    ·rw[z];exact af
   rw[aA (md ae)]
   exact(U b D).1
 done:=by
  intro X hP hw hK hc i pins s σ H E I U st hg
  subst hP hw hK
  obtain⟨⟨old,F⟩,hit,j⟩:=st
  obtain⟨xs,S,hx⟩:=hg
  obtain⟨its,rv,p,hz⟩:=I.list S
  obtain⟨f0,f1,f2,f3,f4,f5⟩:=U it (by simp)
  have hl:=rv.length
  exact wpAny_pyNext_enum_end (I.ok.hd hc) F hit p.isList (by simp;lia) fun h' eb=>⟨rfl,I.turned (t':=s.toks) (fun b o D q=>eb b o D q) f0 f1 f3 f4 f5⟩
 self:=fun A i s Q E st h=>let⟨⟨_,F⟩,_⟩:=st;wpAny_pyIter_enum F h
noncomputable def YK(K:PySem.W.Frag)(ta:TA):TI:=fun σ H R=>ta σ H fun vs H1=>∃a xs,vs=[.ref a]∧bF K H1 a xs∧R (Zb K a) H1
theorem SJ{X:Cx}{e:Expr}{ta:TA}{p pos tpos:Pos}{D:List Expr}{U:Nat}(hg:Gl X "enumerate")(O:X.mg "enumerate"=none)(ha:PA X [e] ta)(hs:starEach [e] X.env=[(false,eval e X.env)]:=by rfl) :
  PI X (.Tuple D U tpos) (.Call (.Name "enumerate" p) [e] [] pos) (YK X.K ta):=by
 intro pins s σ H R I h
 refine Call_ (o4 I hg O boot_enumerate (PyProof.Rows.callWith_type1 (cW (ha pos pins s σ H _ I h) fun us s1 ⟨vs,H1,F,r1,Z⟩=>?_) hs rfl))
 obtain⟨a,xs,ex,hq,q⟩:=Z
 subst ex
 cases r1 with
 | cons r Y =>
  cases Y
  cases r
  obtain⟨its,rv,p',hz⟩:=F.list hq
  refine call_enumerate_list p'.isList fun h' G hit hsz S=>wpAny_pyIter_enum G ?_
  have L:Inv X pins σ H1 { s1 with heap:=h' }:=F.kept (t':=s1.toks) S
  refine⟨s1.heap.objs.size+1,[s1.heap.objs.size+1,s1.heap.objs.size],_,_,H1,rfl,L,J0 a (s1.heap.objs.size+1) s1.heap.objs.size,⟨⟨.none,G⟩,hit,Nat.succ_ne_self _⟩,fun b hb=>?_,q⟩
  have J:b=s1.heap.objs.size+1∨b=s1.heap.objs.size:=by simpa using hb
  have j:s1.heap.objs.size≤b:=by
   rcases J with z | z
   ·rw[z];exact Nat.le_add_right _ _
   ·rw[z];exact i' _
  exact F.Hg j (F.hok.fresh j)
theorem Mp:bootBuiltins "zip"=some (.type "zip"):=by decide +kernel
noncomputable def Y9(K:PySem.W.Frag)(a b:Addr):It :=
 ⟨fun i H=>∃(xs ys:List V)(x y:V),bF K H a xs∧bF K H b ys∧xs[i]?=some x∧ys[i]?=some y,
  fun i H v H'=>∃T x y,v=.ref T∧H T=none∧H'=upd H T (.tup [x,y])∧(∀xs,bF K H a xs→xs[i]?=some x)∧∀ys,bF K H b ys→ys[i]?=some y,
  fun i H=>∃xs ys:List V,bF K H a xs∧bF K H b ys∧(xs.length≤i∨ys.length≤i)⟩
theorem Nj{P:Program}{w:World}{K:PySem.W.Frag}{ag:List Expr}{kk:Nat}{tpos:Pos}{a b z TI TO i1 O:Addr}(D:ZipApart z TI TO i1 O a b) :
  Turn P w K (.Tuple ag kk tpos) (Y9 K a b) [z,TI,TO,i1,O] z (fun i h=>IsZip h z TI TO .none∧IsPair h TI (.ref i1) (.ref O)∧(∃x y,IsPair h TO x y)∧h.IsListIter i1 a i∧h.IsListIter O b i) where
 mem:=by simp
 obj:=fun i h st c hc=>by
  obtain⟨hz,j,⟨x,y,F⟩,⟨o1,e1,_,d1⟩,⟨o2,e2,_,d2⟩⟩:=st
  have e':c=z∨c=TI∨c=TO∨c=i1∨c=O:=by simpa using hc
  rcases e' with q | q | q | q | q
  ·rw[q];exact⟨_,hz,fun v q=>nomatch q⟩
  ·rw[q];exact⟨_,j,fun v q=>nomatch q⟩
  ·rw[q];exact⟨_,F,fun v q=>nomatch q⟩
  ·rw[q];exact⟨o1,e1,fun v q=>by rw[d1]at q;cases q⟩
  ·rw[q];exact⟨o2,e2,fun v q=>by rw[d2]at q;cases q⟩
 keep:=fun i h h' st k=>by
  obtain⟨hz,j,⟨x,y,F⟩,h1,h2⟩:=st
  exact⟨k z (by simp) _ hz,k TI (by simp) _ j,⟨x,y,k TO (by simp) _ F⟩,h1.at fun o q=>k i1 (by simp) o q,h2.at fun o q=>k O (by simp) o q⟩
 item:=by
  intro X hP hw hK hc i pins s σ H E I hf st hg
  subst hP hw hK
  obtain⟨hz,j,⟨x0,y0,F⟩,h1,h2⟩:=st
  obtain⟨xs,ys,x,y,L,S,hx,hy⟩:=hg
  obtain⟨its,rv,p,_⟩:=I.list L
  obtain⟨U,Y,p2,_⟩:=I.list S
  obtain⟨u,hu,ru⟩:=rv.get hx
  obtain⟨u2,al,aC⟩:=Y.get hy
  have ae:z<s.heap.objs.size:=Heap.lt_size hz
  refine wpAny_pyNext_zip_item D hz j F h1 h2 p.isList p2.isList (x:=u) (y:=u2) (by simpa using hu) (by simpa using al) fun h' z' ax ay aw hT hsz hk=>?_
  refine⟨_,rfl,wpAny_letOwnedTupleGo_zip (s:={ s with heap:=h' }) z' fun Z av sb=>?_⟩
  have ai:Z.get? s.heap.objs.size=some { cls:=.type "tuple",data:=.seq #[u,u2] }:=(sb.2 _ (Nat.ne_of_gt ae)).trans hT
  have new:dq X.prog X.w (upd H s.heap.objs.size (.tup [x,y])) Z s.heap.objs.size (.tup [x,y]) :=
   ⟨by show 2≤sizeLine;decide,[u,u2],.cons ru (.cons aC .nil),⟨_,ai,rfl,_,rfl⟩⟩
  have I1:Inv X pins σ (upd H s.heap.objs.size (.tup [x,y])) { s with heap:=Z } :=
   I.qR (t':=s.toks) (ch:=[z,TI,TO,i1,O]) (fun c o J q=>(sb.2 c (fun G=>J (by simp[G]))).trans (hk c o (fun G=>J (by simp[G])) (fun G=>J (by simp[G])) (fun G=>J (by simp[G])) (fun G=>J (by simp[G])) q)) hf (i' _) new
  refine⟨.ref s.heap.objs.size,_,I1,rfl,⟨_,x,y,rfl,I.hok.fresh (i' _),rfl,fun l hl=>by rw[I.qw hl L];exact hx,fun l hl=>by rw[I.qw hl S];exact hy⟩,⟨av,?_,⟨u,u2,?_⟩,?_,?_⟩,fun c af=>?_⟩
  ·exact(sb.2 _ D.TIz).trans (hk _ _ D.TIz D.TITO D.TIi1 D.TIi2 j)
  ·exact(sb.2 _ D.TOz).trans ax
  ·exact ay.at fun o q=>(sb.2 _ D.i1z).trans q
  ·exact aw.at fun o q=>(sb.2 _ D.i2z).trans q
  ·have ah:c<s.heap.objs.size:=by
    have e':c=z∨c=TI∨c=TO∨c=i1∨c=O:=by simpa using af
    rcases e' with q | q | q | q | q
    ·rw[q];exact ae
    ·rw[q];exact Heap.lt_size j
    ·rw[q];exact Heap.lt_size F
    ·rw[q];obtain⟨_,e1,_⟩:=h1;exact Heap.lt_size e1
    ·rw[q];obtain⟨_,e2,_⟩:=h2;exact Heap.lt_size e2
   rw[aA (md ah)]
   exact(hf c af).1
 done:=by
  intro X hP hw hK hc i pins s σ H E I hf st hg
  subst hP hw hK
  obtain⟨hz,j,⟨x0,y0,F⟩,h1,h2⟩:=st
  obtain⟨xs,ys,L,S,ac⟩:=hg
  obtain⟨its,rv,p,_⟩:=I.list L
  obtain⟨U,Y,p2,_⟩:=I.list S
  have l1:=rv.length
  have l2:=Y.length
  have he:its.toArray[i]?=none∨U.toArray[i]?=none:=by
   rcases ac with q | q
   ·exact .inl (by simp;lia)
   ·exact .inr (by simp;lia)
  exact wpAny_pyNext_zip_end (I.ok.hd hc) D hz j F h1 h2 p.isList p2.isList he fun h' hk=>⟨rfl,I.RN (t':=s.toks) (ch:=[z,TI,TO,i1,O]) (fun c o J q =>
   hk c o (fun G=>J (by simp[G])) (fun G=>J (by simp[G])) (fun G=>J (by simp[G])) (fun G=>J (by simp[G])) q) hf⟩
 self:=fun A i s Q E st h=>wpAny_pyIter_zip st.1 h
noncomputable def Z2(K:PySem.W.Frag)(ta:TA):TI:=fun σ H R=>ta σ H fun vs H1=>∃a b xs ys,vs=[.ref a,.ref b]∧bF K H1 a xs∧bF K H1 b ys∧R (Y9 K a b) H1
theorem Wq{X:Cx}{e D:Expr}{ta:TA}{p pos tpos:Pos}{G:List Expr}{kk:Nat}(hg:Gl X "zip")(hm:X.mg "zip"=none)(ha:PA X [e,D] ta)
  (hs:starEach [e,D] X.env=(false,eval e X.env)::starEach [D] X.env:=by rfl) (Z:(backTo pos (starEach [D] X.env)).any (·.1)=false:=by rfl) :
  PI X (.Tuple G kk tpos) (.Call (.Name "zip" p) [e,D] [] pos) (Z2 X.K ta):=by
 intro pins s σ H R I h
 refine Call_ (o4 I hg hm Mp (PyProof.Rows.callWith_type1 (cW (ha pos pins s σ H _ I h) fun us s1 ⟨vs,H1,F,r1,q1⟩=>?_) hs Z))
 obtain⟨a,b,xs,ys,ex,L,O,q⟩:=q1
 subst ex
 cases r1 with
 | cons r J =>
  cases J with
  | cons r' J =>
   cases J
   cases r
   cases r'
   obtain⟨its,rv,p1,_⟩:=F.list L
   obtain⟨ac,ae,p2,_⟩:=F.list O
   have la:a<s1.heap.objs.size:=p1.lt
   have lb:b<s1.heap.objs.size:=p2.lt
   refine call_zip_2 p1.isList p2.isList fun h' hz U S h1 h2 hsz hk=>wpAny_pyIter_zip hz ?_
   have I2:Inv X pins σ H1 { s1 with heap:=h' }:=F.kept (t':=s1.toks) hk
   refine⟨s1.heap.objs.size+4,[s1.heap.objs.size+4,s1.heap.objs.size+2,s1.heap.objs.size+3,s1.heap.objs.size,s1.heap.objs.size+1],_,_,H1,rfl,I2,Nj (PySem.W.ktu_apart s1.heap.objs.size a b la lb),⟨hz,U,⟨_,_,S⟩,h1,h2⟩,fun c Y=>?_,q⟩
   have e':c=s1.heap.objs.size+4∨c=s1.heap.objs.size+2∨c=s1.heap.objs.size+3∨c=s1.heap.objs.size∨c=s1.heap.objs.size+1:=by simpa using Y
   have j:s1.heap.objs.size≤c:=by
    rcases e' with z | z | z | z | z
    ·rw[z];exact Nat.le_add_right _ _
    ·rw[z];exact Nat.le_add_right _ _
    ·rw[z];exact Nat.le_add_right _ _
    ·rw[z];exact i' _
    ·rw[z];exact Nat.le_add_right _ _
   exact F.Hg j (F.hok.fresh j)
end L2
section
namespace Bits
open PySem PyProof.Rows
end Bits
end
section
namespace TL
open PySem PySem.Builtin PySem.Builtin.Str PySem.StrLaws
noncomputable abbrev tl(x:Str):List Nat:=x.cps.toList
theorem rR(x:Str):x.length=(tl x).length:=by simp[tl,Str.length]
theorem Q9{x y:Str}(h:tl x=tl y):x=y:=Str.ext' (Array.toList_inj.mp h)
theorem yc(x y:Str):tl (x++y)=tl x++tl y:=by
 show(x++y).cps.toList=_
 rw[Str.cps_append,Array.toList_append]
theorem HD(l:List Nat):tl ⟨l.toArray⟩=l:=rfl
theorem A_(s:String):tl (Str.ofString s)=s.toList.map Char.toNat:=PyProof.Rows.signs_ofString s
noncomputable def Yy(n:Nat):List Nat:=(Nat.toDigits 10 n).map Char.toNat
theorem Ek(n:Nat):tl (Str.ofString (toString ((n:Nat):Int)))=Yy n:=PySem.W.KIN.signs_num n
theorem Cq{n k:Nat}(j:0<k)(h:n<10 ^ k):(Yy n).length≤k:=by
 have z:=PyProof.Rows.toString_length_le (v:=(n:Int)) (by lia) j (by
  have e:((10:Int) ^ k)=((10 ^ k:Nat):Int):=by
   first
    | exact(Int.natCast_pow 10 k).symm
    | simp
  rw[e]
  first | exact Int.ofNat_lt.mpr h | omega)
 rw[rR,Ek]at z
 exact z
end TL
end
namespace L2
open PySem PySem.Spec PyProof.Rows
section
variable {X:Cx} {pins:List (Addr×Obj)} {σ:St} {H:Hp} {s:Shared} {Q:VK}
end
section
variable {X:Cx}
theorem mt0{id:String}{C:Str→Prop}{g:Str→V} (rule:∀(a:Str)(t:Tok)(s:Shared)(Q:Value→Shared→Prop),C a→(∀(u:Value)(k:Nat),RelV (g a) u→Q u { s with toks:=k }) →
  wpAny (model X.prog X.w) X.A (call (.builtin id) [.str a t]) Q X.xe s):Vy X id (fun x xs H Q=>∃a,x=.str a∧xs=[]∧C a∧Q (g a) H):=by
 intro pins s σ H x xs v us Q I z D h
 obtain⟨a,rfl,rfl,j,h⟩:=h
 obtain⟨t,rfl⟩:=z
 cases D
 exact rule a t s _ j fun u k r=>⟨g a,H,I.tok k,r,h⟩
theorem Gy:Vy X "str.isdigit" (fun x xs H Q=>∃a,x=.str a∧xs=[]∧True∧Q (.bl (Txt.isdigit a)) H) :=
 mt0 (C:=fun _=>True) (g:=fun a=>.bl (Txt.isdigit a)) fun _ _ s _ _ h=>PySem.SC.isdigit (h _ s.toks rfl)
theorem mt1{id:String}{g:Str→Str→V} (rule:∀(a b:Str)(t u:Tok)(s:Shared)(Q:Value→Shared→Prop),(∀(v:Value)(k:Nat),RelV (g a b) v→Q v { s with toks:=k }) →
  wpAny (model X.prog X.w) X.A (call (.builtin id) [.str a t,.str b u]) Q X.xe s):Vy X id (fun x xs H Q=>∃a b,x=.str a∧xs=[.str b]∧Q (g a b) H):=by
 intro pins s σ H x xs v us Q I z j h
 obtain⟨a,b,rfl,rfl,h⟩:=h
 obtain⟨t,rfl⟩:=z
 cases j with
 | cons D j =>
  cases j
  obtain⟨u,rfl⟩:=D
  exact rule a b t u s _ fun v k r=>⟨g a b,H,I.tok k,r,h⟩
theorem xH:Vy X "str.startswith" (fun x xs H Q=>∃a b,x=.str a∧xs=[.str b]∧Q (.bl (Txt.startswith a b)) H) :=
 mt1 (g:=fun a b=>.bl (Txt.startswith a b)) fun _ _ _ _ s _ h=>PySem.SC.startswith (h _ s.toks rfl)
theorem Cz:Vy X "str.endswith" (fun x xs H Q=>∃a b,x=.str a∧xs=[.str b]∧Q (.bl (Txt.endswith a b)) H) :=
 mt1 (g:=fun a b=>.bl (Txt.endswith a b)) fun _ _ _ _ s _ h=>PySem.SC.endswith (h _ s.toks rfl)
theorem Ad:kO X (.type "int") (fun xs H Q=>∃a n,xs=[.str a]∧PySem.intText? a=some n∧a.length≤640∧Q (.int n) H):=by
 intro pins s σ H xs us Q I j h
 obtain⟨a,n,rfl,D,z,h⟩:=h
 cases j with
 | cons F j =>
  cases j
  obtain⟨t,rfl⟩:=F
  exact PySem.W.KIN.call_text D z ⟨.int n,H,I.tok _,⟨_,rfl⟩,h⟩
end
section
variable {X:Cx} {o e:Expr} {to te:TE}
end
end L2
namespace L2
open PySem PySem.Spec PyProof.Rows
section
variable {X:Cx}
end
theorem IsPart.raw{v:Value}{o:Option Int}(p:IsPart v o):∃l:Option (Int×Tok),v=partValue l∧l.map (·.1)=o:=by
 cases p with
 | none=>exact⟨none,rfl,rfl⟩
 | int i t=>exact⟨some (i,t),rfl,rfl⟩
noncomputable def Dt(n d:Nat):Option Int→Int
 | none=>(d:Int)
 | some i=>max 0 (min (if i<0 then i+(n:Int)else i) (n:Int))
theorem Ds(n d:Nat)(o:Option Int):Dt n d o=((HT.h_ n d o:Nat):Int):=by
 cases o with
 | none=>rfl
 | some v =>
  show max (0:Int) (min (if v<0 then v+(n:Int)else v) (n:Int))=(((if v<0 then(v+(n:Int)).toNat else min v.toNat n):Nat):Int)
  by_cases j:v<0
  ·simp only[mr j]
   lia
  ·simp only[ml j]
   lia
theorem Kd(a b:Option Int)(n:Nat):Builtin.Str.strSliceIndices a b 1 n=sliceRange (Dt n 0 a) (Dt n n b) 1:=by
 have h1:((1:Int)>0)=True:=by simp
 cases a<;>cases b<;>first
  | rfl
  | (simp only[Builtin.Str.strSliceIndices,Dt,h1,if_true];rfl)
  | simp[Builtin.Str.strSliceIndices,Dt]
theorem Zx(a b:Option Int)(n:Nat):Builtin.Str.strSliceIndices a b 1 n=(List.range (HT.h_ n n b-HT.h_ n 0 a)).map (fun k=>HT.h_ n 0 a+k):=by
 rw[Kd,Ds,Ds]
 generalize HT.h_ n 0 a=p
 generalize HT.h_ n n b=q
 simp only[sliceRange,show((1:Int)>0)=True from by simp,if_true]
 by_cases j:(p:Int)<q
 ·have z:(((q:Int)-p+1-1) / 1).toNat=q-p:=by first | lia | (simp;done) | (simp;omega)
  simp only[j,if_true,z]
  refine List.map_congr_left fun k _=>?_
  lia
 ·have:q-p=0:=by lia
  simp[j,this]
noncomputable def Ux(z:Str)(lo hi:Option Int):Str :=
 ⟨((z.cps.toList.drop (HT.h_ z.length 0 lo)).take (HT.h_ z.length z.length hi-HT.h_ z.length 0 lo)).toArray⟩
theorem oE(z:Str)(lo hi:Option Int):PySem.StrLaws.sliceText z lo hi=Ux z lo hi:=by
 have h1:HT.h_ z.length 0 lo≤z.length:=HT.O4 _ _ (Nat.zero_le _) _
 have h2:HT.h_ z.length z.length hi≤z.length:=HT.O4 _ _ (i' _) _
 have D:HT.h_ z.length 0 lo≤max (HT.h_ z.length 0 lo) (HT.h_ z.length z.length hi):=Nat.le_max_left _ _
 have j:max (HT.h_ z.length 0 lo) (HT.h_ z.length z.length hi)≤z.length:=Nat.max_le.mpr ⟨h1,h2⟩
 have hd:max (HT.h_ z.length 0 lo) (HT.h_ z.length z.length hi)-HT.h_ z.length 0 lo=HT.h_ z.length z.length hi-HT.h_ z.length 0 lo:=by lia
 have e:Builtin.Str.strSliceIndices lo hi 1 z.length =
   Builtin.Str.strSliceIndices (some ((HT.h_ z.length 0 lo:Nat):Int)) (some ((max (HT.h_ z.length 0 lo) (HT.h_ z.length z.length hi):Nat):Int)) 1 z.length:=by
  rw[PySem.StrLaws.strSliceIndices_plain D j,hd,Zx]
 have F:PySem.StrLaws.sliceText z lo hi =
   PySem.StrLaws.sliceText z (some ((HT.h_ z.length 0 lo:Nat):Int)) (some ((max (HT.h_ z.length 0 lo) (HT.h_ z.length z.length hi):Nat):Int)):=by
  unfold PySem.StrLaws.sliceText
  rw[e]
 rw[F,PySem.StrLaws.sliceText_nat z D j,hd]
 rfl
theorem ue(z:Str)(lo hi:Option Int):(Ux z lo hi).length≤z.length:=by
 show(((z.cps.toList.drop (HT.h_ z.length 0 lo)).take (HT.h_ z.length z.length hi-HT.h_ z.length 0 lo)).toArray).size≤z.cps.size
 rw[ll,lp,mM,Array.length_toList]
 lia
noncomputable def ZC:V→Option Int→Option Int→Hp→VK→Prop:=fun x lo hi H Q=>∃z,x=.str z∧z.length≤sizeLine∧Q (.str (Ux z lo hi)) H
theorem V6{X:Cx}:SlR X ZC:=by
 intro pins s σ H x v U Y lo hi sl Q I L O pl S h
 obtain⟨z,rfl,hz,q⟩:=h
 obtain⟨t,rfl⟩:=L
 obtain⟨os,G,J,D⟩:=O
 obtain⟨l,rfl,rfl⟩:=IsPart.raw pl
 obtain⟨u,rfl,rfl⟩:=IsPart.raw S
 refine⟨"str",_,F.slot_str_getitem.lookup,typeIs_str _ _ _,?_⟩
 refine wpAny_getItem_str_slice (l:=l) (u:=u) (st:=none) ⟨os,G,J,D⟩ rfl ?_
 have j:(PySem.StrLaws.sliceText z (l.map (·.1)) (u.map (·.1))).length≤sizeLine:=by
  rw[oE]
  exact lS (ue z _ _) hz
 rw[←oE]at q
 unfold PySem.StrLaws.sliceText at q j
 show Made.post (if((1:Int)==1&&(Builtin.Str.strSliceIndices (l.map (·.1)) (u.map (·.1)) 1 z.length).length==z.length)=true then Made.val (.str z t)
  else Made.str ⟨((Builtin.Str.strSliceIndices (l.map (·.1)) (u.map (·.1)) 1 z.length).filterMap (z.cps[·]?)).toArray⟩) (EP X pins σ Q) s
 by_cases c:((1:Int)==1&&(Builtin.Str.strSliceIndices (l.map (·.1)) (u.map (·.1)) 1 z.length).length==z.length)=true
 ·rw[mr c]at q ⊢
  exact⟨.str z,H,I,⟨t,rfl⟩,q⟩
 ·rw[ml c]at q j ⊢
  exact⟨j,.str _,H,I.tok _,⟨_,rfl⟩,q⟩
end L2
namespace Att
open PySem PySem.W PySem.Calls PyProof.Rows
section
variable {prog:Program} {w:World} {A:Around} {E:Value→Shared→Prop} {s:Shared} {K:Frag}
end
end Att
namespace L2
open PySem PySem.Spec PyProof.Rows
end L2
namespace L2
open PySem PySem.Spec PyProof.Rows
end L2
namespace L2
open PySem PySem.Spec PyProof.Rows
noncomputable def inClass(s:Stmt)(j:Nat):Stmt:=match s with
 | .ClassDef _ _ _ body _ _ _ _ _ _ _=>body.getD j (.Pass ⟨0,0,0,0⟩)
 | _=>.Pass ⟨0,0,0,0⟩
noncomputable def nG(s:Stmt):Arguments:=match s with
 | .FunctionDef _ a _ _ _ _ _ _ _ _=>a
 | _=>{ posonlyargs:=[],args:=[],vararg:=none,kwonlyargs:=[],kw_defaults:=[],kwarg:=none,defaults:=[] }
noncomputable def jX(s:Stmt):List Stmt:=match s with
 | .FunctionDef _ _ b _ _ _ _ _ _ _=>b
 | _=>[]
noncomputable def aH(s:Stmt):Scope:=match s with
 | .FunctionDef _ _ _ _ _ _ sc _ _ _=>sc
 | _=>{ kind:=.function,names:=[],isGenerator:=false,isCoroutine:=false }
noncomputable abbrev E0:XK:=fun _ _ _=>False
structure kZ (K:PySem.W.Frag) (x qual:Str) (st:Stmt) (f:Addr) (fd:FuncData):Prop where
 ex:∃(oc:Value)(od:Option Addr)(kV doc pm:Value)(an:Option Addr)(cdv ct:Value)(osl:Array (Option Value)),
  fd=PySem.W.fnOf x qual (nG st) (jX st) (aH st) .none kV doc pm an cdv ct∧K.lookup f=some ⟨oc,od,.func fd,osl⟩∧PySem.W.codeIn K cdv qual=true
 kp:PySem.W.keepIn K (.ref f)=true
section
variable {P:Program} {w:World} {K:PySem.W.Frag} {mg:Str→Option Value} {base:Heap}
theorem kZ.binds{x qual:Str}{st:Stmt}{f:Addr}{fd:FuncData}{ps:List Str}(F:kZ K x qual st f fd)
  (h:∀(kV doc pm:Value)(an:Option Addr)(cdv ct:Value)(us:List Value),us.length=ps.length→bindArgs (PySem.W.fnOf x qual (nG st) (jX st) (aH st) .none kV doc pm an cdv ct) ⟨us,[]⟩=pure (ps.zip us)):Binds K fd ps []:=by
 obtain⟨oc,od,kV,doc,pm,an,cdv,ct,osl,rfl,z,j⟩:=F.ex
 exact .all (h kV doc pm an cdv ct)
theorem rW{x qual:Str}{st:Stmt}{f:Addr}{oc:Value}{od an:Option Addr}{osl:Array (Option Value)}{kV doc pm cdv ct:Value}(l:K.lookup f=some ⟨oc,od,.func (PySem.W.fnOf x qual (nG st) (jX st) (aH st) .none kV doc pm an cdv ct),osl⟩)
  (c:PySem.W.codeIn K cdv qual=true) (k:PySem.W.keepIn K (.ref f)=true):kZ K x qual st f (PySem.W.fnOf x qual (nG st) (jX st) (aH st) .none kV doc pm an cdv ct):=⟨⟨oc,od,kV,doc,pm,an,cdv,ct,osl,rfl,l,c⟩,k⟩
end
section
variable {X:Cx}
theorem pv(i:Nat){x:Str}{pos:Pos}(D:X.N[i]?=some x:=by rfl)(z:XN X.env.scope x:=by first | exact Or.inl rfl | exact Or.inr (Or.inl rfl) | exact Or.inr (Or.inr rfl))(hd:(x==("__debug__" : Str))=false:=by decide)
  (j:(x==("__classdict__" : Str))=false:=by decide):PE X (.Name x pos) (jB i):=Pz D z hd j
end
theorem aN{A B:Prop}(h:B):if false=true then A else B:=by
 rw[ml lP]
 exact h
theorem bj{A B:Prop}(h:A):if true=true then A else B:=by
 rw[mr rfl]
 exact h
theorem bC{c A B:Prop}[Decidable c](h1:c→A)(h2:¬c→B):if c then A else B:=by
 by_cases h:c
 ·rw[mr h]
  exact h1 h
 ·rw[ml h]
  exact h2 h
noncomputable def az(H H':Hp):Prop:=∀b o,H b=some o→H' b=some o
theorem az.refl(H:Hp):az H H:=fun _ _ h=>h
theorem az.trans{H H1 H2:Hp}(a:az H H1)(b:az H1 H2):az H H2:=fun c o h=>b c o (a c o h)
theorem az.free{H H':Hp}(e:az H H'){l:Addr}(h:H' l=Option.none):H l=Option.none:=by
 cases q:H l with
 | none=>rfl
 | some o =>
  rw[e l o q]at h
  cases h
theorem az.seq{K:PySem.W.Frag}{H H':Hp}{a:Addr}{xs:List V}(e:az H H')(h:bF K H a xs):bF K H' a xs:=by
 rcases h with(h | ⟨o,h⟩) | h
 ·exact .inl (.inl (e _ _ h))
 ·exact .inl (.inr ⟨o,e _ _ h⟩)
 ·exact .inr h
section
variable {κ:Type} [DecidableEq κ]
end
theorem at_of{xs:List V}{z:Int}{j:Nat}{v:V}(e:z=(j:Int))(h:xs[j]?=some v):kY xs z=some v:=by
 rw[e]
 exact j7 h
end L2
end
section
section
set_option maxHeartbeats 2000000
namespace L2
open PySem PySem.Spec PyProof.Rows
open PySem.W (WData Codec OpenSpec Well WellAll ReadsW ReadsAllW)
mutual
inductive Dw (K:PySem.W.Frag) (H:Hp):V→WData→Prop
 | non:Dw K H .non .none
 | bl (b:Bool):Dw K H (.bl b) (.bool b)
 | int (i:Int):Dw K H (.int i) (.int i)
 | str (x:Str):Dw K H (.str x) (.str x)
 | byt (b:Array UInt8):Dw K H (.byt b) (.bytes b.toList)
 | lst {a:Addr} {xs:List V} {ds:List WData}:bF K H a xs→kJ K H xs ds→Dw K H (.ref a) (.list ds)
 | tup {a:Addr} {xs:List V} {ds:List WData}:bN K H a xs→kJ K H xs ds→Dw K H (.ref a) (.tuple ds)
inductive kJ (K:PySem.W.Frag) (H:Hp):List V→List WData→Prop
 | nil:kJ K H [] []
 | cons {v:V} {vs:List V} {d:WData} {ds:List WData}:Dw K H v d→kJ K H vs ds→kJ K H (v::vs) (d::ds)
end
theorem Jy{K:PySem.W.Frag}{H:Hp}:∀ns:List Int,kJ K H (ns.map V.int) (ns.map WData.int)
 | []=>.nil
 | n::r=>.cons (.int n) (Jy r)
theorem Jo{K:PySem.W.Frag}{H:Hp}:∀(ns:List Int)(xs:List V),kJ K H xs (ns.map WData.int)→xs=ns.map V.int
 | [],xs,h=>by
  cases h
  rfl
 | n::r,xs,h=>by
  cases h with
  | cons h1 h2 =>
   cases h1
   rw[Jo r _ h2]<;>rfl
section
variable {P:Program} {w:World} {K:PySem.W.Frag} {H:Hp} {h:Heap} {R:PySem.W.WRecords} {cl:Str→Option Addr}
theorem V0{a:Addr}{xs:List V}(hok:ou P w H h)(D:K.In h)(q:bF K H a xs):∃(its:List Value)(o:Obj)(n:Nat),Vals xs its∧h.get? a=some o∧o.cls=.type "list"∧o.data=.seq its.toArray n:=by
 rcases q with q | ⟨o,its,n,e,z,_,hd,_,j⟩
 ·obtain⟨_,its,n,j,e⟩:=(show dq P w H h a (.lst xs)from q.ok hok)
  exact⟨its,_,n,j,e,rfl,rfl⟩
 ·exact⟨its.toList,o,n,j,D _ _ e,z,by simp[hd]⟩
theorem VV{a:Addr}{xs:List V}(hok:ou P w H h)(D:K.In h)(q:bN K H a xs):∃(its:List Value)(o:Obj)(n:Nat),Vals xs its∧h.get? a=some o∧o.cls=.type "tuple"∧o.data=.seq its.toArray n:=by
 rcases q with q | ⟨o,its,n,e,j,hd,_,z⟩
 ·obtain⟨_,its,z,o,e,j,n,hd⟩:=(show dq P w H h a (.tup xs)from q.ok hok)
  exact⟨its,o,n,z,e,j,hd⟩
 ·exact⟨its.toList,o,n,z,D _ _ e,j,by simp[hd]⟩
mutual
theorem Dw.reads(hok:ou P w H h)(j:K.In h):∀(d:WData)(v:V)(u:Value),Dw K H v d→RelV v u→∃as,ReadsW R cl h u d as
 | .none,_,_,x,r=>by
  cases x
  cases r
  exact⟨_,ReadsW.none⟩
 | .bool b,_,_,x,r=>by
  cases x
  cases r
  exact⟨_,ReadsW.bool b⟩
 | .int i,_,_,x,r=>by
  cases x
  obtain⟨t,rfl⟩:=r
  exact⟨_,ReadsW.int i t⟩
 | .str s,_,_,x,r=>by
  cases x
  obtain⟨t,rfl⟩:=r
  exact⟨_,ReadsW.str s t⟩
 | .bytes b,_,_,x,r=>by
  cases x
  obtain⟨t,rfl⟩:=r
  exact⟨_,ReadsW.bytes _ t⟩
 | .list ds,_,_,x,r=>by
  cases x with
  | lst D G =>
   cases r
   obtain⟨its,o,n,F,L,z,hd⟩:=V0 hok j D
   obtain⟨as,J⟩:=Dw.readsAll hok j ds _ its G F
   exact⟨_,ReadsW.list L z hd J⟩
 | .tuple ds,_,_,x,r=>by
  cases x with
  | tup D G =>
   cases r
   obtain⟨its,o,n,F,L,z,hd⟩:=VV hok j D
   obtain⟨as,J⟩:=Dw.readsAll hok j ds _ its G F
   exact⟨_,ReadsW.tuple L z hd J⟩
 | .float _,_,_,x,_=>by cases x
 | .dict _,_,_,x,_=>by cases x
 | .bytearray _,_,_,x,_=>by cases x
 | .set _,_,_,x,_=>by cases x
 | .frozenset _,_,_,x,_=>by cases x
 | .obj _ _,_,_,x,_=>by cases x
theorem Dw.readsAll(hok:ou P w H h)(j:K.In h):∀(ds:List WData)(vs:List V)(us:List Value),kJ K H vs ds→Vals vs us→∃as,ReadsAllW R cl h us ds as
 | [],_,_,x,r=>by
  cases x
  cases r
  exact⟨_,ReadsAllW.nil⟩
 | d::ds,_,_,x,r=>by
  cases x with
  | cons h1 h2 =>
   cases r with
   | cons D r2 =>
    obtain⟨as,z⟩:=Dw.reads hok j d _ _ h1 D
    obtain⟨bs,F⟩:=Dw.readsAll hok j ds _ _ h2 r2
    exact⟨_,ReadsAllW.cons z F⟩
end
end
mutual
noncomputable def Iz:WData→Bool
 | .none=>true
 | .bool _=>true
 | .int _=>true
 | .str _=>true
 | .bytes _=>true
 | .list xs=>uh xs
 | .tuple xs=>uh xs
 | _=>false
noncomputable def uh:List WData→Bool
 | []=>true
 | x::r=>Iz x&&uh r
end
theorem B_{α:Type}{f:α→WData}(h:∀a,Iz (f a)=true):∀l:List α,uh (l.map f)=true
 | []=>rfl
 | x::r=>by
  show(Iz (f x)&&uh (r.map f))=true
  rw[h x,B_ h r]<;>rfl
theorem lO:∀(c:Codec)(a:c.denote),Iz (c.enc a)=true
 | .unit,_=>rfl
 | .bool,_=>rfl
 | .int _ _,_=>rfl
 | .nat _ _,_=>rfl
 | .u8,_=>rfl
 | .bytes _ _,_=>rfl
 | .text _ _ _ _,_=>rfl
 | .list _ _ c,a=>B_ (fun x=>lO c x) a
 | .pair c d,a=>by
  show(Iz (c.enc a.1)&&(Iz (d.enc a.2)&&true))=true
  rw[lO c a.1,lO d a.2]<;>rfl
 | .triple c d e,a=>by
  show(Iz (c.enc a.1)&&(Iz (d.enc a.2.1)&&(Iz (e.enc a.2.2)&&true)))=true
  rw[lO c a.1,lO d a.2.1,lO e a.2.2]<;>rfl
 | .option c,none=>rfl
 | .option c,some x=>lO c x
theorem yq:∀(cs:List Codec)(a:Codec.denoteAll cs),uh (Codec.encAll cs a)=true
 | [],_=>rfl
 | c::cs,a=>by
  show(Iz (c.enc a.1)&&uh (Codec.encAll cs a.2))=true
  rw[lO c a.1,yq cs a.2]<;>rfl
theorem oM:∀{xs:List WData}{d:WData},d∈xs→d.weight≤WData.weightAll xs
 | [],d,h=>absurd h (by simp)
 | x::r,d,h=>by
  show d.weight≤x.weight+1+WData.weightAll r
  rcases j'.mp h with e | m
  ·rw[e]
   lia
  ·have z:=oM m
   lia
noncomputable def toV:Value→V
 | .none=>.non
 | .bool b=>.bl b
 | .int i _=>.int i
 | .str x _=>.str x
 | .bytes b _=>.byt b
 | .ref a=>.ref a
 | _=>.non
noncomputable def M5(A:List Addr):Value→Prop
 | .none=>True
 | .bool _=>True
 | .int _ _=>True
 | .str _ _=>True
 | .bytes _ _=>True
 | .ref a=>a∈A
 | _=>False
theorem M5.mono{A B:List Addr}(h:∀a∈A,a∈B):∀{u:Value},M5 A u→M5 B u:=fun{u} x=>by
 cases u with
 | ref a=>exact h a x
 | none=>trivial
 | bool b=>trivial
 | int i t=>trivial
 | str s t=>trivial
 | bytes b t=>trivial
 | _=>exact False.elim x
theorem Pg{A:List Addr}{u:Value}(x:M5 A u):RelV (toV u) u:=by
 cases u with
 | ref a=>rfl
 | none=>rfl
 | bool b=>rfl
 | int i t=>exact⟨t,rfl⟩
 | str s t=>exact⟨t,rfl⟩
 | bytes b t=>exact⟨t,rfl⟩
 | _=>exact False.elim x
theorem jn{A:List Addr}:∀{vs:List Value},(∀u∈vs,M5 A u)→Vals (vs.map toV) vs
 | [],_=>.nil
 | u::r,h=>.cons (Pg (h u (ci ..))) (jn fun x hx=>h x (am _ hx))
noncomputable def kW(h:Heap)(A:List Addr)(a:Addr):Prop:=∃vs:List Value,vs.length≤sizeLine∧(∀u∈vs,M5 A u) ∧
 (h.get? a=some { cls:=.type "list",data:=.seq vs.toArray }∨h.get? a=some { cls:=.type "tuple",data:=.seq vs.toArray })
theorem kW.mono{h:Heap}{A B:List Addr}{a:Addr}(k:∀a∈A,a∈B)(x:kW h A a):kW h B a:=by
 obtain⟨vs,h1,h2,z⟩:=x
 exact⟨vs,h1,fun u j=>(h2 u j).mono k,z⟩
theorem iT{P:Params}{h:Heap}:∀{vs:List Value}{ds:List WData},WellAll P h vs ds→vs.length=ds.length
 | _,_,.nil=>rfl
 | _,_,.cons _ b=>by
  show _+1=_+1
  rw[iT b]
theorem xX{P:Params}{h:Heap}{v:Value}{ds:List WData}(x:Well P h v (.list ds)):∃(a:Addr)(vs:List Value),v=.ref a∧h.get? a=some { cls:=.type "list",data:=.seq vs.toArray }∧WellAll P h vs ds:=by
 cases x with
 | list z j=>exact⟨_,_,rfl,z,j⟩
theorem uU{P:Params}{h:Heap}{v:Value}{ds:List WData}(x:Well P h v (.tuple ds)):∃(a:Addr)(vs:List Value),v=.ref a∧h.get? a=some { cls:=.type "tuple",data:=.seq vs.toArray }∧WellAll P h vs ds:=by
 cases x with
 | tuple z j=>exact⟨_,_,rfl,z,j⟩
theorem xY{P:Params}{h:Heap}{us:List Value}{d:WData}{ds:List WData}(x:WellAll P h us (d::ds)):∃(v:Value)(vs:List Value),us=v::vs∧Well P h v d∧WellAll P h vs ds:=by
 cases x with
 | cons a b=>exact⟨_,_,rfl,a,b⟩
theorem Jh{n:Nat}(h:n≤1048576):n≤sizeLine:=lS h (by decide)
section
variable {P:Params} {h:Heap}
mutual
theorem Rt:∀(d:WData)(v:Value),Well P h v d→Iz d=true→d.weight≤1048576→∃A:List Addr,M5 A v∧∀a∈A,kW h A a
 | .none,_,x,_,_=>by
  cases x
  exact⟨[],trivial,fun a m=>absurd m (by simp)⟩
 | .bool b,_,x,_,_=>by
  cases x
  exact⟨[],trivial,fun a m=>absurd m (by simp)⟩
 | .int i,_,x,_,_=>by
  cases x
  exact⟨[],trivial,fun a m=>absurd m (by simp)⟩
 | .str s,_,x,_,_=>by
  cases x
  exact⟨[],trivial,fun a m=>absurd m (by simp)⟩
 | .bytes b,_,x,_,_=>by
  cases x
  exact⟨[],trivial,fun a m=>absurd m (by simp)⟩
 | .list ds,_,x,p,z=>by
  obtain⟨a,vs,rfl,J,j⟩:=xX x
  have F:WData.weightAll ds≤1048576:=z
  obtain⟨A,h1,h2⟩:=qO ds _ j p fun d hd=>lS (oM hd) F
  have k:∀b∈A,b∈a::A:=fun b D=>am _ D
  refine⟨a::A,ci ..,fun b D=>?_⟩
  rcases j'.mp D with e | m
  ·rw[e]
   exact⟨vs,Jh (by rw[iT j];exact lS (PySem.W.length_le_weightAllW ds) F),fun u G=>(h1 u G).mono k,.inl J⟩
  ·exact(h2 b m).mono k
 | .tuple ds,_,x,p,z=>by
  obtain⟨a,vs,rfl,J,j⟩:=uU x
  have F:WData.weightAll ds≤1048576:=z
  obtain⟨A,h1,h2⟩:=qO ds _ j p fun d hd=>lS (oM hd) F
  have k:∀b∈A,b∈a::A:=fun b D=>am _ D
  refine⟨a::A,ci ..,fun b D=>?_⟩
  rcases j'.mp D with e | m
  ·rw[e]
   exact⟨vs,Jh (by rw[iT j];exact lS (PySem.W.length_le_weightAllW ds) F),fun u G=>(h1 u G).mono k,.inr J⟩
  ·exact(h2 b m).mono k
 | .float _,_,_,p,_=>Bool.noConfusion (show false=true from p)
 | .dict _,_,_,p,_=>Bool.noConfusion (show false=true from p)
 | .bytearray _,_,_,p,_=>Bool.noConfusion (show false=true from p)
 | .set _,_,_,p,_=>Bool.noConfusion (show false=true from p)
 | .frozenset _,_,_,p,_=>Bool.noConfusion (show false=true from p)
 | .obj _ _,_,_,p,_=>Bool.noConfusion (show false=true from p)
theorem qO:∀(ds:List WData)(vs:List Value),WellAll P h vs ds→uh ds=true→(∀d∈ds,d.weight≤1048576)→∃A:List Addr,(∀u∈vs,M5 A u)∧∀a∈A,kW h A a
 | [],_,x,_,_=>by
  cases x
  exact⟨[],fun u m=>absurd m (by simp),fun a m=>absurd m (by simp)⟩
 | d::ds,_,x,p,z=>by
  obtain⟨v,vs,rfl,x1,x2⟩:=xY x
  have q:Iz d=true∧uh ds=true:=Bool.and_eq_true_iff.mp p
  obtain⟨A,L,J⟩:=Rt d v x1 q.1 (z d (ci ..))
  obtain⟨B,U,G⟩:=qO ds vs x2 q.2 fun e O=>z e (am _ O)
  have F:∀b∈A,b∈A++B:=fun b j=>List.mem_append.mpr (.inl j)
  have D:∀b∈B,b∈A++B:=fun b j=>List.mem_append.mpr (.inr j)
  refine⟨A++B,fun u S=>?_,fun b j=>?_⟩
  ·rcases j'.mp S with e | m
   ·rw[e]
    exact L.mono F
   ·exact(U u m).mono D
  ·rcases List.mem_append.mp j with m | m
   ·exact(J b m).mono F
   ·exact(G b m).mono D
end
end
noncomputable def Ul(o:Obj):Option HO:=match o.data with
 | .seq vs _=>if(o.cls==Value.type "list")=true then some (.frz o (.lst (vs.toList.map toV)))else some (.frz o (.tup (vs.toList.map toV)))
 | _=>none
noncomputable def j8(K:PySem.W.Frag)(h:Heap)(A:List Addr):Hp:=fun b=>if b∈A then(if(K.lookup b).isNone=true then(h.get? b).bind Ul else none)else none
noncomputable def JQ(H:Hp):Prop:=∀b,H b=none∨∃o u,H b=some (.frz o u)
theorem Df(vs:List Value):Ul { cls:=.type "list",data:=.seq vs.toArray }=some (.frz { cls:=.type "list",data:=.seq vs.toArray } (.lst (vs.map toV))):=by
 show(if(Value.type "list"==Value.type "list")=true then some (HO.frz { cls:=.type "list",data:=.seq vs.toArray } (.lst (vs.toArray.toList.map toV)))else some (HO.frz { cls:=.type "list",data:=.seq vs.toArray } (.tup (vs.toArray.toList.map toV))))=_
 rw[mr (beq_self_eq_true _)]
theorem De(vs:List Value):Ul { cls:=.type "tuple",data:=.seq vs.toArray }=some (.frz { cls:=.type "tuple",data:=.seq vs.toArray } (.tup (vs.map toV))):=by
 show(if(Value.type "tuple"==Value.type "list")=true then some (HO.frz { cls:=.type "tuple",data:=.seq vs.toArray } (.lst (vs.toArray.toList.map toV)))else some (HO.frz { cls:=.type "tuple",data:=.seq vs.toArray } (.tup (vs.toArray.toList.map toV))))=_
 rw[ml (by decide)]
section
variable {P:Program} {w:World} {K:PySem.W.Frag} {h:Heap} {A:List Addr}
theorem uR{b:Addr}{o:Obj}(z:b∈A)(j:K.lookup b=none)(e:h.get? b=some o):j8 K h A b=Ul o:=by
 unfold j8
 rw[mr z,j,mr (show(none:Option Obj).isNone=true from rfl),e]<;>rfl
theorem T8{b:Addr}{u:HO}(q:j8 K h A b=some u):b∈A∧K.lookup b=none:=by
 unfold j8 at q
 by_cases j:b∈A
 ·rw[mr j]at q
  cases z:K.lookup b with
  | none=>exact⟨j,rfl⟩
  | some o =>
   rw[z,ml (by simp)]at q
   cases q
 ·rw[ml j]at q
  cases q
theorem uQ(ar:∀a∈A,kW h A a){b:Addr}{u:HO}(q:j8 K h A b=some u):K.lookup b=none∧∃vs:List Value,vs.length≤sizeLine∧(∀u∈vs,M5 A u) ∧
    ((h.get? b=some { cls:=.type "list",data:=.seq vs.toArray }∧u=.frz { cls:=.type "list",data:=.seq vs.toArray } (.lst (vs.map toV))) ∨
     (h.get? b=some { cls:=.type "tuple",data:=.seq vs.toArray }∧u=.frz { cls:=.type "tuple",data:=.seq vs.toArray } (.tup (vs.map toV)))):=by
  obtain⟨z,j⟩:=T8 q
  obtain⟨vs,h1,h2,D⟩:=ar b z
  refine⟨j,vs,h1,h2,?_⟩
  rcases D with e | e
  · rw[uR z j e,Df]at q
    exact .inl ⟨e,(Option.some.inj q).symm⟩
  · rw[uR z j e,De]at q
    exact .inr ⟨e,(Option.some.inj q).symm⟩
theorem MK(ar:∀a∈A,kW h A a):JQ (j8 K h A):=fun b=>by
 cases q:j8 K h A b with
 | none=>exact .inl rfl
 | some u =>
  obtain⟨_,vs,_,_,⟨_,e⟩ | ⟨_,e⟩⟩:=uQ ar q
  ·exact .inr ⟨_,_,by rw[e]⟩
  ·exact .inr ⟨_,_,by rw[e]⟩
theorem U0(ar:∀a∈A,kW h A a):ou P w (j8 K h A) h:=fun b u q=>by
 obtain⟨_,vs,h1,h2,⟨e,rfl⟩ | ⟨e,rfl⟩⟩:=uQ ar q
 ·exact⟨e,by rw[ap];exact h1,vs,_,jn h2,e⟩
 ·exact⟨e,by rw[ap];exact h1,vs,jn h2,_,e,rfl,_,rfl⟩
theorem uG{c j:Value}{vs us:List Value}(e:(some { cls:=c,data:=.seq vs.toArray }:Option Obj)=some { cls:=j,data:=.seq us.toArray }):c=j∧vs=us:=by
 have z:=Option.some.inj e
 have D:c=j:=congrArg Obj.cls z
 have G:Data.seq vs.toArray=Data.seq us.toArray:=congrArg Obj.data z
 injection G with F
 refine⟨D,?_⟩
 have J:=congrArg Array.toList F
 simpa using J
theorem Z9(J:K.In h)(ar:∀a∈A,kW h A a){a:Addr}{vs:List Value}(D:a∈A)(e:h.get? a=some { cls:=.type "list",data:=.seq vs.toArray }):(∀u∈vs,M5 A u)∧bF K (j8 K h A) a (vs.map toV):=by
 obtain⟨us,h1,h2,F⟩:=ar a D
 have G:us=vs:=by
  rcases F with q | q
  ·rw[e]at q
   exact(uG q).2.symm
  ·rw[e]at q
   exact absurd (Value.type.inj (uG q).1) (by decide)
 subst G
 refine⟨h2,?_⟩
 cases j:K.lookup a with
 | none=>exact .inl (.inr ⟨_,by rw[uR D j e,Df]⟩)
 | some o =>
  have z:=J a o j
  rw[e]at z
  obtain rfl:=Option.some.inj z
  exact .inr ⟨_,us.toArray,_,j,rfl,rfl,rfl,by rw[ll];exact h1,by simpa using jn h2⟩
theorem Z8(J:K.In h)(ar:∀a∈A,kW h A a){a:Addr}{vs:List Value}(D:a∈A)(e:h.get? a=some { cls:=.type "tuple",data:=.seq vs.toArray }):(∀u∈vs,M5 A u)∧bN K (j8 K h A) a (vs.map toV):=by
 obtain⟨us,h1,h2,F⟩:=ar a D
 have G:us=vs:=by
  rcases F with q | q
  ·rw[e]at q
   exact absurd (Value.type.inj (uG q).1) (by decide)
  ·rw[e]at q
   exact(uG q).2.symm
 subst G
 refine⟨h2,?_⟩
 cases j:K.lookup a with
 | none=>exact .inl (.inr ⟨_,by rw[uR D j e,De]⟩)
 | some o =>
  have z:=J a o j
  rw[e]at z
  obtain rfl:=Option.some.inj z
  exact .inr ⟨_,us.toArray,_,j,rfl,rfl,by rw[ll];exact h1,by simpa using jn h2⟩
mutual
theorem W9{L:Params}(D:K.In h)(ar:∀a∈A,kW h A a):∀(d:WData)(v:Value),Well L h v d→Iz d=true→M5 A v→Dw K (j8 K h A) (toV v) d
 | .none,_,x,_,_=>by
  cases x
  exact .non
 | .bool b,_,x,_,_=>by
  cases x
  exact .bl b
 | .int i,_,x,_,_=>by
  cases x
  exact .int i
 | .str s,_,x,_,_=>by
  cases x
  exact .str s
 | .bytes b,_,x,_,_=>by
  cases x
  have z:=Dw.byt (K:=K) (H:=j8 K h A) b.toArray
  exact z
 | .list ds,_,x,p,G=>by
  obtain⟨a,vs,rfl,J,j⟩:=xX x
  obtain⟨h2,F⟩:=Z9 D ar G J
  exact .lst F (z_ D ar ds _ j p h2)
 | .tuple ds,_,x,p,G=>by
  obtain⟨a,vs,rfl,J,j⟩:=uU x
  obtain⟨h2,F⟩:=Z8 D ar G J
  exact .tup F (z_ D ar ds _ j p h2)
 | .float _,_,_,p,_=>Bool.noConfusion (show false=true from p)
 | .dict _,_,_,p,_=>Bool.noConfusion (show false=true from p)
 | .bytearray _,_,_,p,_=>Bool.noConfusion (show false=true from p)
 | .set _,_,_,p,_=>Bool.noConfusion (show false=true from p)
 | .frozenset _,_,_,p,_=>Bool.noConfusion (show false=true from p)
 | .obj _ _,_,_,p,_=>Bool.noConfusion (show false=true from p)
theorem z_{D:Params}(z:K.In h)(ar:∀a∈A,kW h A a):∀(ds:List WData)(vs:List Value),WellAll D h vs ds→uh ds=true→(∀u∈vs,M5 A u)→kJ K (j8 K h A) (vs.map toV) ds
 | [],_,x,_,_=>by
  cases x
  exact .nil
 | d::ds,_,x,p,j=>by
  obtain⟨v,vs,rfl,x1,x2⟩:=xY x
  have q:Iz d=true∧uh ds=true:=Bool.and_eq_true_iff.mp p
  exact .cons (W9 z ar d v x1 q.1 (j _ (ci ..))) (z_ z ar ds vs x2 q.2 fun u m=>j u (am _ m))
end
end
theorem Ka{P:Program}{w:World}{K:PySem.W.Frag}{mg mb:Str→Option Value}{CX:JS}{k:Nat}{fa:Addr}{fd:FuncData}{ps:List Str}{sp:Sp}{s₁:Shared}{j:List Value}{ds:List WData}{R:PySem.W.WRecords}{cl:Str→Option Addr}{d0:WData}
  (KX:K.In s₁.heap) (ae:s₁.heap.Ns mainGlobals mg) (hb:s₁.heap.Ns builtinsNs mb) (al:∀x:Str,x ≠ "__name__"→mb x=bootBuiltins x) (Y:s₁.heap.NoLimit) (hg:s₁.gens=#[])
  (O:WellAll w.params s₁.heap j ds) (U:uh ds=true) (ai:∀d∈ds,d.weight≤1048576) (hr:bB k callerA)
  (F:∀base:Heap,K.In base→base.Ns mainGlobals mg→aL P w K mg base CX k fa fd ps sp) (L:∀(s:Shared)(us:List Value),us.length=ps.length→BindsTo s fd ⟨us,[]⟩ (ps.zip us)) (af:ds.length=ps.length)
  (aw:∀(H:Hp)(xs:List V),JQ H→kJ K H xs ds→sp xs H (fun v H'=>Dw K H' v d0) fun _ _ _=>False)
  (ah:∀H e s',CX [] H s₁ (fun _ _ _=>False) e s'→False) :
  codeAny (model P w) callerA (.call (.ref fa) ⟨j,[]⟩) (fun r s'=>∃u as,r=.ok (.ret u)∧ReadsW R cl s'.heap u d0 as∧OldK s₁.heap s'.heap∧s'.os=s₁.os∧AllBare s'.gens) s₁:=by
 obtain⟨A,ho,ar⟩:=qO ds j O U ai
 have hO:JQ (j8 K s₁.heap A):=MK ar
 have hok:ou P w (j8 K s₁.heap A) s₁.heap:=U0 ar
 have hS:=z_ KX ar ds j O U ho
 have hV:=jn ho
 have hK:∀b u,j8 K s₁.heap A b=some u→K.lookup b=none:=fun b u q=>(uQ ar q).1
 have ac:∀{b:Addr}{o:Obj}{es:Array DictEntry}{ep:Nat},s₁.heap.get? b=some o→o.data=.dict es ep→j8 K s₁.heap A b=none:=fun{b o es ep} e d=>by
  cases q:j8 K s₁.heap A b with
  | none=>rfl
  | some u =>
   obtain⟨_,vs,_,_,⟨S,_⟩ | ⟨S,_⟩⟩:=uQ ar q
   ·rw[S]at e
    cases e
    have d':Data.seq vs.toArray _=Data.dict es ep:=d
    cases d'
   ·rw[S]at e
    cases e
    have d':Data.seq vs.toArray _=Data.dict es ep:=d
    cases d'
 generalize j8 K s₁.heap A=H at hO hok hS hK ac
 have D:∀{b:Addr}{o:Obj},s₁.heap.get? b=some o→H b=none→(zV s₁.heap H).get? b=some o:=fun e n=>QW e n
 have G:∀{b:Addr}{m:Str→Option Value},s₁.heap.Ns b m→(zV s₁.heap H).Ns b m:=fun{b m} ⟨o,es,ep,e,d,r⟩=>⟨o,es,ep,D e (ac e d),d,r⟩
 have nK:∀b o,K.lookup b=some o→H b=none:=fun b o e=>by
  cases q:H b with
  | none=>rfl
  | some u =>
   rw[hK b u q]at e
   cases e
 have Z:K.In (zV s₁.heap H):=fun b o e=>D (KX b o e) (nK b o e)
 have hM:Mod K mg (zV s₁.heap H):=⟨Z,G ae,⟨mb,G hb,al⟩,let⟨mc,h1,h2⟩:=Y;⟨mc,G h1,h2⟩⟩
 have e0:Hz P w K mg (zV s₁.heap H) callerA [] s₁ H:=⟨rfl,hM,fun b o e=>T7 e,Nat.le_of_eq (Lz _ _),trivial,fun b hb=>absurd (show b∈([]:List Addr)from hb) (by simp),hok,.of_eq hg⟩
 have hl:j.length=ps.length:=by rw[iT O];exact af
 refine codeAny_mono ((F _ Z (G ae)).run callerA [] s₁ H ⟨j,[]⟩ j (j.map toV) _ _ hr e0 (L s₁ j hl) hV (aw H _ hO hS)) fun r s' x=>?_
 cases r with
 | error e=>exact(ah H e s' x).elim
 | ok fl =>
  cases fl with
  | next=>exact False.elim x
  | brk=>exact False.elim x
  | cont=>exact False.elim x
  | ret u =>
   obtain⟨v,H',os,bare,un,J,r',q⟩:=x
   have kept:∀b o,s₁.heap.get? b=some o→s'.heap.get? b=some o:=fun b o e=>by
    cases q2:H b with
    | none=>exact un.keep b o e q2 (by intro z;exact absurd (show b∈([]:List Addr)from z) (by simp)) (by simp)
    | some u2 =>
     rcases hO b with z | ⟨ob,u3,z⟩
     ·rw[q2]at z
      cases z
     ·have z2:=un.frzs b ob _ z
      obtain⟨e1,_⟩:=hok b _ z
      obtain⟨S,_⟩:=J b _ z2
      rw[e]at e1
      cases e1
      exact S
   have ag:K.In s'.heap:=fun b o e=>kept b o (KX b o e)
   obtain⟨as,av⟩:=Dw.reads (R:=R) (cl:=cl) J ag d0 v u q r'
   exact⟨u,as,rfl,av,OldK.of_keep kept,os,bare⟩
theorem wk{ds:List WData}(h:WData.layableAll ds=true):∀d∈ds,d.weight≤1048576:=fun d hd =>
 (PySem.W.layableW_iff.mp (mv.mp h d hd)).2.2
theorem wO:∀(cs:List Codec)(a:Codec.denoteAll cs),(Codec.encAll cs a).length=cs.length
 | [],_=>rfl
 | c::cs,a=>by
  show(Codec.encAll cs a.2).length+1=cs.length+1
  rw[wO cs a.2]
theorem JX{r:OpenSpec}{k:Nat}{q:Program}{D:List Str}{XP:(Str→Option Value)→Heap→Prop}{YP:World→Heap→Prop}{d:DefRec}{K:Params→PySem.W.Frag}{CX:World→JS}{ps:List Str}{sp:World→Sp}
  (j:r.wellSaid=true) (ai:d.params.defaults=[]) (S:r.args.length=ps.length) (hr:bB k callerA)
  (hY:∀(w:World)(h:Heap),YP w h→(K w.params).In h)
  (F:∀(w:World)(mg:Str→Option Value)(U:Addr)(h:Heap),YP w h→(K w.params).In h→h.Ns mainGlobals mg→mg d.name=some (.ref U) →
   ∃fd:FuncData,(∀(s:Shared)(us:List Value),us.length=ps.length→BindsTo s fd ⟨us,[]⟩ (ps.zip us)) ∧
    ∀base:Heap,(K w.params).In base→base.Ns mainGlobals mg→aL r.prog w (K w.params) mg base (CX w) k U fd ps (sp w))
  (ag:∀(w:World)(H:Hp)(xs:List V)(a:Codec.denoteAll r.args),JQ H→Codec.withinAll r.args a=true→Codec.app r.args r.asked a=true→kJ (K w.params) H xs (Codec.encAll r.args a) →
   sp w xs H (fun v H'=>Dw (K w.params) H' v (r.ret.enc (Codec.app r.args r.f a))) fun _ _ _=>False)
  (af:∀(w:World)(H:Hp)(s:Shared)(e:Value)(s':Shared),CX w [] H s (fun _ _ _=>False) e s'→False) :
  PySem.W.WalkOS q D XP YP r d [] (fun f vs=>PySem.call f vs):=by
 intro w s_0 s₁ mg mb G Y U o pm cd doc dV kV ho hd al hD ae hg args ah as J L aw ac av
 obtain⟨a,e1,e2⟩:=PySem.W.os_pre_some J
 obtain⟨e3,O⟩:=Codec.encAll_of_decAll r.args args a e1
 subst e3
 have KX:=hY w _ Y
 obtain⟨fd,hb,hF⟩:=F w mg U _ Y KX G.T.g ae
 refine PySem.W.enter_call (codeAny_mono (Ka (R:=[]) (cl:=classAt s_0.heap) (d0:=r.ret.enc (Codec.app r.args r.f a)) KX G.T.g G.T.b G.T.builtins G.T.nolimit hg ac (yq _ _) (wk L) hr hF hb (by rw[wO];exact S)
  (fun H xs hO hS=>ag w H xs a hO O e2 hS) fun H e s'=>af w H s₁ e s') fun r' s' hq=>?_)
 obtain⟨u,Z,rfl,h1,h2,h3,h4⟩:=hq
 exact⟨.inl ⟨u,_,Z,rfl,fun _=>rfl,h1,(OpenSpec.post_iff j O _ _).mpr rfl,fun z=>Bool.noConfusion (show false=true from z)⟩,h2,h3,h4⟩
end L2
end
end
section
namespace XL
open PySem
section
variable {prog:Program} {w:World} {A:Around} {R:Result→Shared→Prop} {I:Addr} {fp wr:List Addr} {n:Nat} {P:Nat→Value→Prop} {St:Nat→Heap→Prop}
theorem Lg(W:Walks prog w A.in1 I fp wr n P St)(bt:Nat→Nat→Bool)(ai:CmpOf prog w A.in1 .Gt P bt)(S:Addr)(ae:S∉fp)(dn:Str)(dv:Value) :
  ∀(k j:Nat)(s:Shared)(old:List Value)(c:Nat),n-j=k→j≤n→St j s.heap→((old=[]∧j=0)∨∃vb m,j=m+1∧old=[vb,vb]∧P (argBest bt m) vb) →
  s.heap.get? S=some { cls:=.type "list",dict:=none,data:=.seq old.toArray c,slots:=#[] } →
  (∀v h' tk,((n=0∧v=dv)∨(0<n∧P (argBest bt (n-1)) v))→(∀b o,b∉wr→b≠S→s.heap.get? b=some o→h'.get? b=some o)→R (.ok (.ret v)) { s with heap:=h',toks:=tk }) →
  codeAny (model prog w) A (.builtin "max.loop" ⟨[.ref I,.none,.ref S],[(dn,dv)]⟩) R s:=by
 have ag:S∉wr:=fun h=>ae (W.sub _ h)
 have nm:(toString "max"++toString ".loop" : String) = "max.loop":=by decide
 intro k
 induction k with
 | zero =>
  intro j s old c hk hj af ho hS hR
  obtain rfl:j=n:=by lia
  refine codeAny_builtin F.entry_max_loop ?_
  rw[Around.under_plainId F.plain_max_loop _]
  show wpAny _ A.in1 (seqItems? (.ref S)>>=_) _ _ s
  refine wpAny_bind (wpAny_seqItems hS rfl ?_)
  show wpAny _ A.in1 (tryCatch (pyNext (.ref I)) _>>=_) _ _ s
  refine wpAny_bind (wpAny_tryCatch (W.done s _ _ af fun h' tk L=>?_))
  rcases ho with⟨rfl,rfl⟩ | ⟨vb,m,rfl,rfl,hP⟩
  ·refine wpAny_bind (wpAny_rule (wpAny_pure ?_))
   exact hR dv _ tk (.inl ⟨rfl,rfl⟩) fun b o G _ e=>L b o G e
  ·have U:=L S _ ag hS
   show wpAny _ A.in1 (updateSeq S (fun _=>#[])>>=_) _ _ _
   refine wpAny_bind (wpAny_updateSeq U rfl (wpAny_bind (wpAny_letGo (wpAny_pure ?_))))
   exact hR vb _ tk (.inr ⟨by lia,hP⟩) fun b o G D e=>(Heap.get?_update_other _ _ (Ne.symm D)).trans (L b o G e)
 | succ k ih =>
  intro j s old c hk hj af ho hS hR
  have al:j<n:=by lia
  refine codeAny_builtin F.entry_max_loop ?_
  rw[Around.under_plainId F.plain_max_loop _]
  show wpAny _ A.in1 (seqItems? (.ref S)>>=_) _ _ s
  refine wpAny_bind (wpAny_seqItems hS rfl ?_)
  show wpAny _ A.in1 (tryCatch (pyNext (.ref I)) _>>=_) _ _ s
  refine wpAny_bind (wpAny_tryCatch (W.item j s _ _ al af fun v h' tk hP Z L=>?_))
  have U:=L S _ ag hS
  rcases ho with⟨rfl,rfl⟩ | ⟨vb,m,rfl,rfl,ah⟩
  ·show wpAny _ A.in1 (updateSeq S (fun _=>#[v,v])>>=_) _ _ _
   refine wpAny_bind (wpAny_updateSeq U rfl ?_)
   rw[nm]
   refine wpAny_pure ⟨plainId_quiet F.plain_max_loop _,ih 1 _ [v,v] _ (by lia) (by assumption) (W.frame _ _ _ Z fun b G o e=>?_) (.inr ⟨v,0,rfl,rfl,hP⟩) (Heap.get?_update_self _ U rfl) fun v' ac O Y J=>?_⟩
   ·exact(Heap.get?_update_other _ _ (fun z:S=b=>ae (z▸G))).trans e
   ·exact hR v' ac O Y fun b o G D e=>J b o G D ((Heap.get?_update_other _ _ (Ne.symm D)).trans (L b o G e))
  ·show wpAny _ A.in1 (tryCatch (holding [v,v] (richCompare .Gt v vb>>=_)) _>>=_) _ _ _
   refine wpAny_bind (wpAny_tryCatch (wpAny_holding (wpAny_bind (ai (m+1) (argBest bt m) v vb _ _ _ hP ah ?_))))
   refine wpAny_bind (wpAny_holding (wpAny_truthy_bool (wpAny_bind (wpAny_letGo (wpAny_pure ?_)))))
   cases G:bt (m+1) (argBest bt m)with
   | true =>
    simp only[if_true]
    refine wpAny_bind (wpAny_updateSeq U rfl (wpAny_bind (wpAny_letGo ?_)))
    rw[nm]
    refine wpAny_pure ⟨plainId_quiet F.plain_max_loop _,ih (m+2) _ [v,v] _ (by lia) (by assumption) (W.frame _ _ _ Z fun b G o e=>?_) (.inr ⟨v,m+1,rfl,rfl,by simp only[argBest,G,if_true];exact hP⟩) (Heap.get?_update_self _ U rfl) fun v' ac O Y J=>?_⟩
    ·exact(Heap.get?_update_other _ _ (fun z:S=b=>ae (z▸G))).trans e
    ·exact hR v' ac O Y fun b o G D e=>J b o G D ((Heap.get?_update_other _ _ (Ne.symm D)).trans (L b o G e))
   | false =>
    simp only[Bool.false_eq_true,if_false]
    refine wpAny_bind (wpAny_letGo ?_)
    rw[nm]
    refine wpAny_pure ⟨plainId_quiet F.plain_max_loop _,ih (m+2) _ [vb,vb] c (by lia) (by assumption) Z (.inr ⟨vb,m+1,rfl,rfl,by simp only[argBest,G,Bool.false_eq_true,if_false];exact ah⟩) U fun v' ac O Y J=>?_⟩
    exact hR v' ac O Y fun b o G D e=>J b o G D (L b o G e)
end
theorem MJ(a d:Value):argsOk "max" ⟨[a],[("default",d)]⟩:=by unfold argsOk;kernel_rfl
section
variable {prog:Program} {w:World} {A:Around} {E:Value→Shared→Prop} {s:Shared} {l:Addr} {xs:Array (Int×Tok)}
theorem Lh{Q:Value→Shared→Prop}{z:Value}(Y:A.handled=none)(U:s.heap.IsList l (intItems xs))
  (h:∀v h' tk,((xs.size=0∧v=z)∨(0<xs.size∧(intItems xs)[argBest (fun i j=>decide (numAt xs i>numAt xs j)) (xs.size-1)]?=some v))→(∀b o,s.heap.get? b=some o→h'.get? b=some o)→Q v { s with heap:=h',toks:=tk }) :
  wpAny (model prog w) A (call (.builtin "max") [.ref l] [("default",z)]) Q E s:=by
 have nm:(toString "max"++toString ".loop" : String) = "max.loop":=by decide
 refine wpAny_call (codeAny_call_builtin F.plain_max F.entry_max ?_)
 have fin:wpAny (model prog w) A.in1 (Builtin.«max» ⟨[.ref l],[("default",z)]⟩) (fun fin s'=>match fin with
   | .done f=>(match(Except.ok f:Result)with | .ok (.ret v)=>Q v s' | .ok _=>False | .error e=>E e s')
   | .again S=>S.quiet=true∧codeAny (model prog w) A S (fun r s'=>match r with | .ok (.ret v)=>Q v s' | .ok _=>False | .error e=>E e s') s') E s:=by
  show wpAny _ A.in1 (Builtin.Builtins.bindParams "max" ["key","default"] 0 ⟨[],[("default",z)]⟩>>=_) _ _ s
  refine wpAny_bind (wpAny_of_eq (show Builtin.Builtins.bindParams "max" ["key","default"] 0 ⟨[],[("default",z)]⟩=pure [none,some z]from rfl) ?_)
  refine wpAny_bind (wpAny_pure (wpAny_bind (iter_intList U fun s2 e st G O=>?_)))
  subst e
  refine wpAny_bind (wpAny_newObj_type ?_)
  rw[nm]
  have W:=Walks.list (prog:=prog) (w:=w) (A:=A.in1) Y s.heap.objs.size l O (intItems xs)
  refine wpAny_pure ⟨plainId_quiet F.plain_max_loop _,Lg W (fun i j=>decide (numAt xs i>numAt xs j)) (CmpOf.ints_gt (numAt xs) fun _ _=>intItems_at) _ (fun Z=>Nat.lt_irrefl _ (G _ Z)) "default" z _ 0 _ [] 0 rfl (Nat.zero_le _)
   (W.frame _ _ _ st fun b _ o e=>Heap.get?_push_of_some _ e) (.inl ⟨rfl,rfl⟩) (Heap.get?_push_size _ rfl) fun v h' tk hP hk=>?_⟩
  refine h v h' tk (by simpa[intItems]using hP) (old_kept fun b o hb e=>hk b o hb (md (Heap.lt_size e)) (Heap.get?_push_of_some _ e))
 simp only[checkBuiltinCall,F.kind_max]
 cases D:Manifest.signature? "max" with
 | none=>exact wpAny_pure fin
 | some L =>
  have J:Bind.checkArgs "max" L ⟨[.ref l],[("default",z)]⟩=pure ():=by simpa only[argsOk,D]using MJ (.ref l) z
  simp only[J]
  exact wpAny_pure fin
end
end XL
namespace XL
open PySem PySem.Spec PyProof.Rows L2
noncomputable def X6(K:PySem.W.Frag)(ta tk:TA):TE:=fun σ H Q=>ta σ H fun vs H1=>tk σ H1 fun zs H2=>∃(a:Addr)(ns:List Int)(d:Int),vs=[.ref a]∧zs=[.int d]∧bF K H2 a (ns.map V.int)∧∀m,((ns=[]∧m=d)∨(m∈ns∧∀y∈ns,y≤m))→Q (.int m) H2
theorem SN{X:Cx}{e dx:Expr}{ta tk:TA}{p kp pos:Pos}(calm:X.calm=true)(hg:Gl X "max")(J:X.mg "max"=none)(ha:PA X [e] ta)(hk:PK X [⟨some "default",dx,kp⟩] tk)(z:starEach [e] X.env=[(false,eval e X.env)]:=by rfl) :
  PE X (.Call (.Name "max" p) [e] [⟨some "default",dx,kp⟩] pos) (X6 X.K ta tk):=by
 intro pins s σ H Q I h
 refine wpAny_Call_Name_kw (o4 I hg J (u:=.builtin "max") (by decide +kernel) ?_ (by decide) (by decide))
 refine PyProof.Rows.callWith_kw ?_ (by rw[z];rfl) (by rw[z];rfl)
 refine cW (ha pos pins s σ H _ I h) fun us s1 ⟨vs,H1,I1,r1,q1⟩=>?_
 refine cW (hk pos pins s1 σ H1 _ I1 q1) fun ws s2 hz=>?_
 obtain⟨zs,H2,G,r2,a,ns,d,e1,e2,hs,q2⟩:=hz
 subst e1 e2
 obtain rfl:=Vals.Wj r1
 obtain⟨wd,rfl,td,rfl⟩:∃wd,ws=[wd]∧∃t,wd=Value.int d t:=by
  obtain⟨u,e,r⟩:=Vals.one r2
  exact⟨u,e,r⟩
 show wpAny _ _ (call (.builtin "max") [.ref a] [("default",Value.int d td)]) _ _ _
 obtain⟨its,rv,Z,hz⟩:=G.list hs
 have hi:=Vals.ints rv
 obtain⟨xs,e⟩:=hi.allInts.items
 have F:numsOf (intItems xs).toList=ns:=by rw[←e];exact hi.numsOf
 rw[nums_intItems]at F
 have D:xs.size=ns.length:=by rw[←F,ap,Array.length_toList]
 have O:s2.heap.IsList a (intItems xs):=by rw[←e];exact Z.isList
 refine Lh (G.ok.hd calm) O fun v h' tk S L=>?_
 have fin:∀m t,((ns=[]∧m=d)∨(m∈ns∧∀y∈ns,y≤m))→EP X pins σ Q (.int m t) { s2 with heap:=h',toks:=tk }:=fun m t J=>⟨.int m,H2,G.kept (t':=tk) L,⟨t,rfl⟩,q2 m J⟩
 rcases S with⟨h0,rfl⟩ | ⟨h0,S⟩
 ·exact fin d td (.inl ⟨List.length_eq_zero_iff.mp (D.symm.trans h0),rfl⟩)
 ·obtain⟨t,rfl⟩:=intItems_at S
  obtain⟨h1,h2⟩:=argBest_gt (numAt xs) (xs.size-1)
  refine fin _ t (.inr ⟨?_,fun y U=>?_⟩)
  ·rw[numAt_eq,←F]
   exact PySem.getD_mem (by rw[ap,Array.length_toList];lia)
  ·rw[←F]at U
   obtain⟨j,Y,rfl⟩:=mem_getD U
   rw[ap,Array.length_toList]at Y
   rw[←numAt_eq]
   exact h2 j (by lia)
end XL
end
section
namespace XL
open PySem PySem.Spec PyProof.Rows L2
theorem Uq{K:PySem.W.Frag}{a b:Addr}{xs ys:List V}{g:TG}{tb:TS}{D:Ends}{σ:L2.St}{H:Hp}(z:xs.length=ys.length)(Pv:Nat→L2.St→Hp→Prop)(h0:Pv 0 σ H)(S:∀i σ H,i≤xs.length→Pv i σ H→bF K H a xs∧bF K H b ys)
  (Y:∀i x y σ H T,xs[i]?=some x→ys[i]?=some y→Pv i σ H→H T=none→g (.ref T) σ (L2.upd H T (.tup [x,y])) fun σ2 H2=>tb { D with nx:=Pv (i+1),ct:=Pv (i+1),bk:=D.nx } σ2 H2) (hd:∀σ H,Pv xs.length σ H→D.nx σ H) :
  ∃W:Nat→Nat→L2.St→Hp→Prop,(∃m,W 0 m σ H)∧∀i m σ H,W i m σ H →
   ((Y9 K a b).stop i H∧D.nx σ H)∨((Y9 K a b).go i H∧∃N:L2.St→Hp→Prop,(∀σ' H',N σ' H'→∃O,O<m∧W (i+1) O σ' H')∧∀x H',(Y9 K a b).yld i H x H'→g x σ H' fun σ2 H2=>tb { D with nx:=N,ct:=N,bk:=D.nx } σ2 H2):=by
 refine⟨fun i m σ H=>m=xs.length-i∧i≤xs.length∧Pv i σ H,⟨xs.length,by simp,Nat.zero_le _,h0⟩,?_⟩
 rintro i m σ H ⟨rfl,hi,p⟩
 obtain⟨F,J⟩:=S i σ H hi p
 by_cases j:i<xs.length
 ·refine .inr ⟨⟨xs,ys,xs[i],ys[i],F,J,by simp[j],by simp[z▸j]⟩,Pv (i+1),fun σ' H' p'=>⟨xs.length-(i+1),by lia,rfl,j,p'⟩,fun x H' y=>?_⟩
  obtain⟨T,z1,U,rfl,Z,rfl,G,L⟩:=y
  exact Y i z1 U σ H T (G xs F) (L ys J) p Z
 ·have e:i=xs.length:=by lia
  subst e
  exact .inl ⟨⟨xs,ys,F,J,.inl (i' _)⟩,hd σ H p⟩
theorem rP(S it:Addr)(old:Array Value)(F:Nat)(dd:Option Addr)(sl:Array (Option Value))(items:Array Value)(n:Nat)(z:¬(!old.isEmpty&&Builtin.List.listTooLong (old.size+items.size))=true)(h1:old.size≤sizeLine)(h2:old.size+items.size≤sizeLine+1) :
  Meets (Builtin.«list.extend» ⟨[.ref S,.ref it],[]⟩) (fun _ R s=>s.heap.get? S=some { cls:=.type "list",dict:=none,data:=.seq old F,slots:=#[] }∧s.heap.get? it=some { cls:=.type "tuple",dict:=dd,data:=.seq items n,slots:=sl }∧R (.ok (.ret Value.none)) { s with heap:=s.heap.update S (Obj.mapSeq fun x=>x++items),toks:=s.toks }) :=
 .of_wp fun prog w A R s h=>by
  obtain⟨J,g,d,tk,os⟩:=s;obtain⟨D,G,h⟩:=h;have f1:=AutoSeq1.idx_int;have f2:=AutoSeq1.sub_tuple_tuple;have f3:=AutoSeq1.sub_list_list;have f4:=AutoSeq1.sub_tuple_list;have f5:=AutoSeq1.sub_list_tuple
  have j:(old++items).size≤sizeLine+1:=by rw[Array.size_append];exact h2
  wp_walk using (wpAny_updateSeq D rfl (hz:=h1) (_hz':=j)),AutoSeq1.wpAny_loadPart' D,AutoSeq1.wpAny_loadPart' G;exact⟨_,rfl,h⟩
noncomputable def Pn(K:PySem.W.Frag):V→List V→Hp→VK→Prop:=fun x vs H Q=>∃l b xs zs,x=.ref l∧vs=[.ref b]∧H l=some (.lst xs)∧bN K H b zs∧xs.length+zs.length≤sizeLine∧Q .non (L2.upd H l (.lst (xs++zs)))
theorem Gz{X:Cx}:Y7 X "list.extend" (Pn X.K):=by
 intro pins s σ H x vs v us Q I Y Z h
 obtain⟨l,b,xs,zs,rfl,rfl,O,hB,hz,q⟩:=h
 cases Y
 obtain⟨u,rfl,S⟩:=Z.one
 cases S
 obtain⟨z,its,n,r,hl,e⟩:=I.CQ O
 obtain⟨j,r2,⟨o,ho,G,L,hd⟩,ac⟩:=I.tuple hB
 obtain⟨oc,od,J,osl⟩:=o
 have G:oc=.type "tuple":=G
 have hd:J=.seq j.toArray L:=hd
 subst G hd
 have U:=r2.length
 have hsz:its.toArray.size+j.toArray.size≤sizeLine:=by rw[ll,ll];lia
 have D:¬(!its.toArray.isEmpty&&Builtin.List.listTooLong (its.toArray.size+j.toArray.size))=true:=by
  rw[Cr hsz,Bool.and_false]
  exact lP
 refine call_meets F.slot_list_extend ⟨_,e,rfl⟩ F.entry_list_extend (F.args_list_extend_2 _ _)
  (rP l b its.toArray n od osl j.toArray L D (by rw[ll];lia) (by lia)) ⟨e,ho,?_⟩
 refine⟨.non,_,I.QB (its':=its++j) O e (by simp) (r.append r2) ?_,rfl,q⟩
 rw[jp]
 assumption
end XL
end
section
set_option maxHeartbeats 2000000
namespace XL
open PySem PySem.Spec PyProof.Rows L2
noncomputable def Va(h:Heap)(e:Addr)(c:Value)(dd:Option Addr)(tb:Value):Prop :=
 ∃j vs,h.get? e=some j∧j.cls=c∧j.dict=dd∧j.data=.fields vs∧vs[1]?=some tb
noncomputable def Xp(h:Heap)(T:Addr)(fl:Value):Prop:=∃j ts,h.get? T=some j∧j.data=.fields ts∧ts[3]?=some fl
theorem Mi(o:Obj)(f:Array Value→Array Value):(o.mapFields f).dict=o.dict:=by
 obtain⟨c,d,j,s⟩:=o
 cases j<;>rfl
section
variable {M:Model} {A:Around} {E:Value→Shared→Prop} {s:Shared}
structure U_ (base:Heap) (l:List Env) (e:Addr) (c:Value) (dd:Option Addr) (fl:Value) (h h':Heap):Prop where
 st:base.StaysIn h'
 fr:h'.FunFrames base l
 ex:∃T,Va h' e c dd (.ref T)∧T≠e∧base.get? T=none∧Xp h' T fl∧h.objs.size≤T
 sl:h.UpToSlots h'
theorem Dk{base:Heap}{env:Env}{outer:List Env}{L e:Addr}{c hd:Value}{dd:Option Addr}{tb:Value}{b:Bool}{Q:Unit→Shared→Prop}
  (ah:A.frames=some (env::outer)) (hl:s.heap.FunFrames base (env::outer)) (hf:env.frame=some L) (hx:Va s.heap e c dd tb) (ac:base.StaysIn s.heap) (ai:base.get? e=none)
  (h:∀h',U_ base (env::outer) e c dd (rawInt L) s.heap h'→Q () { s with heap:=h' }) :
  wpAny M A (do let a ←frameOf env;let pl ←entryPlaceOf L b;let x ←EntryCells.newEntry hd a .none (rawInt L) .none pl;setField (.ref e) 1 x) Q E s:=by
 obtain⟨oe,vs,he,hc,ae,D,h1⟩:=hx
 have U:1<vs.size:=(Array.getElem?_eq_some_iff.mp h1).1
 have ag:e∉(env::outer).filterMap (·.frame):=by
  intro hm
  obtain⟨_,o,ho,j⟩:=hl.mem hm
  rw[he]at ho
  cases ho
  exact j vs D
 refine wpAny_bind (wpAny_frameOf_fun ah hl hf fun g1 Y=>?_)
 refine wpAny_bind (wpAny_entryPlaceOf fun pl af=>?_)
 unfold EntryCells.newEntry newFields
 refine wpAny_bind (wpAny_newObj_type ?_ (af.sizeOk5 _ _ _ _ _))
 have e1:g1.get? e=some oe:=(Y.2.1 e ag).trans he
 have S:base.StaysIn g1:=fun q o G=>(Y.2.1 q fun hm=>by rw[(hl.mem hm).1]at G;cases G).trans (ac q o G)
 generalize ht:({ cls:=.type "traceback",dict:=none,data:=.fields ([hd,.ref L,.none,rawInt L,.none]++(if pl.isEmpty then List.replicate 6 Value.none else pl)).toArray }:Obj)=tbo
 have e2:=Heap.get?_push_of_some (h:=g1) tbo e1
 refine wpAny_setField e2 D U (h _ ?_)
 have Z:g1.objs.size≠e:=Nat.ne_of_gt (Heap.lt_size e1)
 have d3:=Obj.data_mapFields D (·.setIfInBounds 1 (Value.ref g1.objs.size))
 have e3:=Heap.get?_update_self (Obj.mapFields (·.setIfInBounds 1 (Value.ref g1.objs.size))) e2 (Obj.isFreed_of_fields d3)
 have t3:=(Heap.get?_update_other (g1.push tbo) (Obj.mapFields (·.setIfInBounds 1 (Value.ref g1.objs.size))) (Ne.symm Z)).trans (Heap.get?_push_size g1 (by rw[←ht];rfl))
 have keep:∀q o,q≠e→g1.get? q=some o→((g1.push tbo).update e (Obj.mapFields (·.setIfInBounds 1 (Value.ref g1.objs.size)))).get? q=some o:=fun q o G F=>by
  rw[Heap.get?_update_other _ _ (Ne.symm G)]
  exact Heap.get?_push_of_some _ F
 have J:∀q o,s.heap.get? q=some o→(∀ws,o.data≠.fields ws)→q≠e:=fun q o F j z=>by
  rw[z,he]at F
  cases F
  exact j vs D
 refine⟨fun q o G=>keep q o (fun z=>by rw[z,ai]at G;cases G) (S q o G),hl.of_keeps fun q o F j=>?_,?_,fun q o F j=>?_⟩
 ·obtain⟨sl,O⟩:=Y.2.2 q o F
  exact⟨_,keep q _ (J q o F j) O,rfl⟩
 ·refine⟨g1.objs.size,⟨_,_,e3,(Obj.cls_mapFields _ _).trans hc,(Mi _ _).trans ae,d3,by simp[U]⟩,Z,S.fresh,⟨_,_,t3,by rw[←ht],?_⟩,?_⟩
  ·simp
  ·exact Nat.le_of_eq Y.1.symm
 ·obtain⟨sl,O⟩:=Y.2.2 q o F
  exact⟨sl,keep q _ (J q o F j) O⟩
end
end XL
end
section
set_option maxHeartbeats 2000000
namespace XL
open PySem PySem.Spec PyProof.Rows L2
noncomputable def Loose(base h:Heap)(e:Addr)(c:Value)(dd:Option Addr):Prop :=
 ∃tb,Va h e c dd tb∧(tb=.none∨∃T,tb=.ref T∧T≠e∧base.get? T=none∧Xp h T .none)
section
variable {M:Model} {A:Around} {E:Value→Shared→Prop} {s:Shared}
theorem Je{base:Heap}{env:Env}{outer:List Env}{L e:Addr}{c:Value}{dd:Option Addr}{Q:Unit→Shared→Prop}
  (Y:A.frames=some (env::outer)) (hl:s.heap.FunFrames base (env::outer)) (hf:env.frame=some L) (hx:Loose base s.heap e c dd) (U:base.StaysIn s.heap) (Z:base.get? e=none)
  (h:∀h',U_ base (env::outer) e c dd (rawInt L) s.heap h'→Q () { s with heap:=h' }):wpAny M A (noteFrame (.ref e) env) Q E s:=by
 obtain⟨tb,hx,ht⟩:=hx
 have ac:=hx
 obtain⟨oe,vs,he,hc,ag,J,h1⟩:=hx
 unfold noteFrame
 simp only[hf]
 refine wpAny_bind (wpAny_field he J h1 ?_)
 rcases ht with rfl | ⟨T,rfl,ae,af,oT,ts,hT,O,h3⟩
 ·rw[ml (by decide)]
  exact Dk Y hl hf ac U Z h
 ·rw[mr (show(Value.ref T != Value.none)=true from by simp)]
  refine wpAny_bind (wpAny_field hT O h3 ?_)
  rw[ml (show ¬((Value.none==rawInt L)=true)from by simp[rawInt])]
  refine wpAny_bind (wpAny_setField hT O (Array.getElem?_eq_some_iff.mp h3).1 ?_)
  generalize hg:s.heap.update T (Obj.mapFields (·.setIfInBounds 3 Value.none))=g
  have F:∀b,b≠T→g.get? b=s.heap.get? b:=fun b j=>by rw[←hg];exact Heap.get?_update_other _ _ (Ne.symm j)
  have G:∀b o,s.heap.get? b=some o→(∀ws,o.data≠.fields ws)→b≠T:=fun b o j D z=>by
   rw[z,hT]at j
   cases j
   exact D ts O
  refine Dk (s:={ s with heap:=g }) Y (hl.of_keeps fun b o j D=>⟨o,(F b (G b o j D)).trans j,rfl⟩) hf ⟨oe,vs,(F e (Ne.symm ae)).trans he,hc,ag,J,h1⟩
   (fun b o j=>(F b fun z=>by rw[z,af]at j;cases j).trans (U b o j)) Z fun h' S=>h h' ⟨S.st,S.fr,?_,fun b o j D=>S.sl b o ((F b (G b o j D)).trans j) D⟩
  obtain⟨T',x1,x2,x3,x4,x5⟩:=S.ex
  refine⟨T',x1,x2,x3,x4,?_⟩
  have sz:g.objs.size=s.heap.objs.size:=by rw[←hg];exact Heap.size_after_update _ _ _
  exact lS (Nat.le_of_eq sz.symm) x5
theorem rZ{base h0:Heap}{l:List Env}{e:Addr}{c fl:Value}{dd:Option Addr}{Q:Unit→Shared→Prop}(S:U_ base l e c dd fl h0 s.heap)
  (h:∀h',U_ base l e c dd .none h0 h'→Q () { s with heap:=h' }):wpAny M A (setFlight (.ref e) none) Q E s:=by
 obtain⟨T,⟨oe,vs,he,hc,ac,L,h1⟩,O,Y,⟨oT,ts,hT,F,h3⟩,hn⟩:=S.ex
 have Z:3<ts.size:=(Array.getElem?_eq_some_iff.mp h3).1
 unfold setFlight
 refine wpAny_bind (wpAny_field he L h1 ?_)
 rw[mr (show(Value.ref T != Value.none)=true from by simp)]
 refine wpAny_setField hT F Z (h _ ?_)
 generalize hg:s.heap.update T (Obj.mapFields (·.setIfInBounds 3 ((none:Option Addr).elim Value.none fun f=>rawInt f)))=g
 have G:∀b,b≠T→g.get? b=s.heap.get? b:=fun b j=>by rw[←hg];exact Heap.get?_update_other _ _ (Ne.symm j)
 have J:∀b o,s.heap.get? b=some o→(∀ws,o.data≠.fields ws)→b≠T:=fun b o j D z=>by
  rw[z,hT]at j
  cases j
  exact D ts F
 have gT:=Heap.get?_update_self (Obj.mapFields (·.setIfInBounds 3 ((none:Option Addr).elim Value.none fun f=>rawInt f))) hT (Obj.isFreed_of_fields (Obj.data_mapFields F _))
 rw[hg]at gT
 refine⟨fun b o j=>(G b fun z=>by rw[z,Y]at j;cases j).trans (S.st b o j),S.fr.of_keeps fun b o j D=>⟨o,(G b (J b o j D)).trans j,rfl⟩,
  ⟨T,⟨oe,vs,(G e (Ne.symm O)).trans he,hc,ac,L,h1⟩,O,Y,⟨_,_,gT,Obj.data_mapFields F _,by simp[Z]⟩,hn⟩,fun b o j D=>?_⟩
 obtain⟨sl,U⟩:=S.sl b o j D
 exact⟨sl,(G b (J b _ U D)).trans U⟩
theorem G9{base:Heap}{env:Env}{outer:List Env}{L e:Addr}{c:Value}{dd:Option Addr}{Q:Unit→Shared→Prop}
  (D:A.frames=some (env::outer)) (G:s.heap.FunFrames base (env::outer)) (J:env.frame=some L) (hx:Loose base s.heap e c dd) (z:base.StaysIn s.heap) (F:base.get? e=none)
  (h:∀h',U_ base (env::outer) e c dd .none s.heap h'→Q () { s with heap:=h' }):wpAny M A (leaving env (.ref e)) Q E s:=by
 unfold leaving
 refine wpAny_bind (Je D G J hx z F fun h' S=>?_)
 exact rZ (s:={ s with heap:=h' }) S fun j O=>h j O
end
end XL
end
section
set_option maxHeartbeats 2000000
namespace XL
open PySem PySem.Spec PyProof.Rows L2
noncomputable def RD(e C d:Addr):HO:=.ext fun h=>∃j vs,h.get? e=some j∧j.cls=.ref C∧j.dict=some d∧j.data=.fields vs
structure M6 (n:Nat) (H:Hp) (h:Heap) (e C d:Addr):Prop where
 ex:H e=some (RD e C d)
 new:n≤e
 tb:∃tb,Va h e (.ref C) (some d) tb∧(tb=.none∨∃T,tb=.ref T∧T≠e∧n≤T∧H T=none∧Xp h T .none)
noncomputable def bc(P:Program)(w:World):JS:=fun outer H s E v s'=>∃e C d H',v=.ref e∧s'.os=s.os∧AllBare s'.gens∧Un (frs outer) [] H H' s.heap s'.heap∧ou P w H' s'.heap∧M6 s.heap.objs.size H' s'.heap e C d∧E (.ref C) (some d) H'
section
variable {P:Program} {w:World} {H:Hp} {h h':Heap} {n:Nat} {e C d:Addr}
theorem M6.grow(F:M6 n H h e C d){m:Nat}(j:m≤n):M6 m H h e C d:=by
 obtain⟨x,y,tb,G,S⟩:=F
 refine⟨x,lS j y,tb,G,?_⟩
 rcases S with z | ⟨T,O,L,D,J⟩
 ·exact .inl z
 ·exact .inr ⟨T,O,L,lS j D,J⟩
theorem M6.ground(F:M6 n H h e C d)(fs:List Addr)(D:∀b∈fs,H b=none) :
  ∃as:List Addr,(∀b∈fs,b∈as)∧e∈as∧(∀b∈as,b=e∨H b=none)∧(∀b∈as,b∈fs∨n≤b)∧Loose (PySem.W.hideAll h as) h e (.ref C) (some d)∧(∀b∈as,b=e∨b∈fs∨∃o vs,h.get? b=some o∧o.data=.fields vs):=by
 obtain⟨x,y,tb,G,O⟩:=F
 rcases O with z | ⟨T,U,S,Y,L,J⟩
 ·refine⟨e::fs,fun b j=>.tail _ j,.head _,fun b j=>?_,fun b j=>?_,⟨tb,G,.inl z⟩,fun b j=>?_⟩
  ·exact(j'.mp j).elim .inl fun q=>.inr (D b q)
  ·exact(j'.mp j).elim (fun q=>.inr (q▸y)) .inl
  ·exact(j'.mp j).elim .inl fun q=>.inr (.inl q)
 ·refine⟨e::T::fs,fun b j=>.tail _ (.tail _ j),.head _,fun b j=>?_,fun b j=>?_,⟨tb,G,.inr ⟨T,U,S,PySem.W.hideAll_none _ (.tail _ (.head _)),J⟩⟩,fun b j=>?_⟩
  ·rcases j'.mp j with q | q
   ·exact .inl q
   ·exact .inr ((j'.mp q).elim (fun z=>z▸L) (D b))
  ·rcases j'.mp j with q | q
   ·exact .inr (q▸y)
   ·exact(j'.mp q).elim (fun z=>.inr (z▸Y)) .inl
  ·rcases j'.mp j with q | q
   ·exact .inl q
   ·refine .inr ((j'.mp q).elim (fun z=>.inr ?_) .inl)
    obtain⟨o,ts,t1,t2,_⟩:=J
    exact⟨o,ts,z▸t1,t2⟩
theorem tY{as:List Addr}{l:List Env}{fl:Value}(ok:ou P w H h)(hx:H e=some (RD e C d))(has:∀b∈as,b=e∨H b=none)
  (S:U_ (PySem.W.hideAll h as) l e (.ref C) (some d) fl h h'):ou P w H h':=by
 intro a u G
 by_cases F:a=e
 ·subst F
  rw[hx]at G
  cases G
  obtain⟨T,⟨J,vs,x1,x2,x3,x4,_⟩,_⟩:=S.ex
  exact⟨⟨J,vs,x1,x2,x3,x4⟩,⟨J,x1⟩,fun h1 h2 ⟨o,ws,O,L⟩ k=>⟨o,ws,k _ O,L⟩⟩
 ·refine(ok a u G).stay (fun b v j q=>S.st b v (PySem.W.hideAll_get _ q fun z=>?_)) (fun _ q=>q) fun _ _ q=>q
  rcases has b z with D | D
  ·rcases j with j | j
   ·exact F (j.symm.trans D)
   ·rw[D,hx]at j
    cases j
  ·rcases j with j | j
   ·rw[j,G]at D
    cases D
   ·rw[j]at D
    cases D
theorem M6.HS{as:List Addr}{l:List Env}(F:M6 n H h e C d)(ok:ou P w H h)(z:n≤h.objs.size)(S:U_ (PySem.W.hideAll h as) l e (.ref C) (some d) .none h h'):M6 n H h' e C d:=by
 refine⟨F.ex,F.new,?_⟩
 obtain⟨T,x1,x2,x3,x4,j⟩:=S.ex
 exact⟨.ref T,x1,.inr ⟨T,rfl,x2,lS z j,ok.fresh j,x4⟩⟩
end
section
variable {X:Cx} {pins:List (Addr×Obj)} {σ:L2.St} {H:Hp} {s:Shared} {e C d:Addr}
theorem Ef{h':Heap}{as:List Addr}{l:List Env}{fl:Value}{fs:List Addr}{J:Hp}{h0 h:Heap}(u:Un fs [] J H h0 h)(S:U_ (PySem.W.hideAll h as) l e (.ref C) (some d) fl h h')
  (G:∀b∈fs,∀o vs,h.get? b=some o→o.data≠.fields vs) (has:∀b o,h0.get? b=some o→b∈as→b∈fs) (hex:∀b∈fs,∃o',h'.get? b=some o'):Un fs [] J H h0 h' where
 keep:=fun b o q n j hx=>S.st b o (PySem.W.hideAll_get _ (u.keep b o q n j hx) fun z=>j (has b o q z))
 slot:=fun b o q n j hx=>by
  obtain⟨sl,D⟩:=u.slot b o q n j hx
  obtain⟨F,L⟩:=S.sl b _ D fun vs z=>G b j _ vs D z
  exact⟨F,L⟩
 free:=u.free
 there:=fun b o q hx=>by
  obtain⟨o',D⟩:=u.there b o q hx
  by_cases j:b∈as
  ·exact hex b (has b o q j)
  ·exact⟨o',S.st b o' (PySem.W.hideAll_get _ D j)⟩
 tups:=u.tups
 frzs:=u.frzs
 tbls:=u.tbls
theorem leaves{P:Program}{w:World}{K:PySem.W.Frag}{mg:Str→Option Value}{base:Heap}{N:List Str}{qual:Str}{scope:Scope}{f:Addr}{cd:Value}{A:Around}{outer:List Env}{G:Shared}{Z:Hp}{E:XK}
  (I:Inv (jY (bc P w) P w K mg base N qual scope f cd A outer G Z E) pins σ H s) (F:M6 G.heap.objs.size H s.heap e C d) (hE:E (.ref C) (some d) H) :
  (jY (bc P w) P w K mg base N qual scope f cd A outer G Z E).xe (.ref e) s:=by
 have U:=I.ok.frames
 have J:=I.stack
 have sub:=I.pK
 obtain⟨as,g1,g2,g3,g4,g5,g6⟩:=F.ground (frs (envOfC qual scope G.heap.objs.size f cd::outer)) sub
 have hn:G.heap.objs.size≤s.heap.objs.size:=I.sz
 refine G9 (L:=G.heap.objs.size) U (PySem.W.funFrames_hide J fun env he b j=>g1 b (List.mem_filterMap.mpr ⟨env,he,j⟩)) rfl g5 (fun b o q=>PySem.W.of_hideAll _ q) (PySem.W.hideAll_none _ g2) fun h' S=>?_
 have Y:∀b∈frs outer,b∈frs (envOfC qual scope G.heap.objs.size f cd::outer):=fun b j=>by
  unfold frs at j ⊢
  rw[List.filterMap_cons]
  exact am _ j
 refine⟨e,C,d,H,rfl,I.os,I.bare,?_,tY I.hok F.ex g3 S,F.HS I.hok hn S,hE⟩
 refine Ef (l:=envOfC qual scope G.heap.objs.size f cd::outer) I.base S (fun b j o vs ho hd=>?_) (fun b o q j=>?_) fun b j=>?_
 ·obtain⟨_,o',D,O⟩:=J.mem (Y b j)
  rw[ho]at D
  cases D
  exact O vs hd
 ·rcases g4 b j with z | z
  ·unfold frs at z
   rw[List.filterMap_cons]at z
   rcases j'.mp z with z | z
   ·exact absurd (Heap.lt_size q) (by rw[z];exact Nat.lt_irrefl _)
   ·exact z
  ·exact absurd (Heap.lt_size q) (Nat.not_lt.mpr z)
 ·obtain⟨_,o',D,_⟩:=S.fr.mem (Y b j)
  exact⟨o',D⟩
theorem passes{P:Program}{w:World}{K:PySem.W.Frag}{mg:Str→Option Value}{base:Heap}{N:List Str}{qual:Str}{scope:Scope}{f:Addr}{cd:Value}{A:Around}{outer:List Env}{J:Shared}{G:Hp}{E:XK} :
  jm (bc P w) (jY (bc P w) P w K mg base N qual scope f cd A outer J G E) E:=by
 intro pins σ H s v s' I h
 obtain⟨e,C,d,H',rfl,os,bare,un,hok,F,j⟩:=h
 have D:=I.call' (ch:=[]) os un hok bare (fun b z=>absurd z (by simp))
 exact leaves D (F.grow I.sz) j
end
end XL
end
section
namespace XL
open PySem
section
variable {prog:Program} {w:World} {A:Around} {h:Heap} {g:Array GenState} {d:Drawn} {t:Nat} {os:OsState}
variable {nm q:Str} {C N:Addr} {bs bm:List Value} {hdct:Bool} {sn:List Str} {sub:List Value} {ab:Bool} {col:Option Bool} {dd:Option Addr} {k0 k1 k2 k3 k5:Option Value} {B newId initId:String} {bmN:List Value}
theorem T9{R:Result→Shared→Prop}(F:ExcBaseFacts B newId initId bmN)(S:bm.contains (.type B)=true)(U:bm.contains (.type "AttributeError")=false)(O:bm.contains (.type "NameError")=false)
  (j:h.get? C=some (excClassObj nm q C N bs bm hdct sn sub ab col dd k0 k1 k2 k3 k5 newId))
  (J:R (.ok (.ret (.ref (h.objs.size+1)))) ⟨(h.push { cls:=.type "tuple",data:=.seq #[] }).push { cls:=.ref C,data:=.fields #[.ref h.objs.size,.none,.none,.none,.bool false,.none] },g,d,t,os⟩) :
  codeAny (model prog w) A (.builtin newId ⟨[.ref C],[]⟩) R ⟨h,g,d,t,os⟩:=by
 have z:=F.ends
 have L:(Value.ref C::bm).contains (.type B)=true:=by rw[List.contains_cons,S,Bool.or_true]
 have D:(Value.ref C::bm).contains (.type "AttributeError")=false:=by rw[List.contains_cons,U];rfl
 have G:(Value.ref C::bm).contains (.type "NameError")=false:=by rw[List.contains_cons,O];rfl
 refine codeAny_builtinAt F.entry ?_
 unfold Builtin.«BaseException.__new__»
 refine wpAt_bind ?_
 show wpAt _ _ _ (stack>>=_) _ _ _
 refine wpAt_bind (wpAt_stack fun p below=>wpAt_of_wpAny ?_)
 wp_walk
 refine wpAt_of_wpAny ?_
 rw[F.owner]
 repeat(first
  | with_reducible refine wpAny_madeHere_exc F.canon j ?_
  | with_reducible refine wpAny_loadPart_at j ?_
  | (with_reducible refine wpAny_isSubtype_exc j ?_;first | rw[L] | rw[D] | rw[G])
  | wp_step)
 show R _ _
 rw[Heap.size_push]
 exact J
theorem xu{E:Value→Shared→Prop}(F:ExcBaseFacts B newId initId bmN)(S:bm.contains (.type B)=true)(hA:bm.contains (.type "AttributeError")=false)(Y:bm.contains (.type "NameError")=false)
  {fI:Addr} {U:Obj} {Q:Fin→Shared→Prop}
  (z:h.get? C=some (excClassObj nm q C N bs bm hdct sn sub ab col dd k0 k1 k2 k3 k5 newId)) (hi:PySem.W.Looks (model prog w) h (typeLookup (.ref C) "__init__") (some (.ref fI))) (D:h.get? fI=some U) (G:U.cls=.type "function")
  (O:wpAny (model prog w) A (call (.ref fI) [.ref (h.objs.size+1)]) (fun r s'=>r=.none∧Q (.done (.ret (.ref (h.objs.size+1)))) s') E
   ⟨(h.push { cls:=.type "tuple",data:=.seq #[] }).push { cls:=.ref C,data:=.fields #[.ref h.objs.size,.none,.none,.none,.bool false,.none] },g,d,t,os⟩) :
  wpAny (model prog w) A (Builtin.«type.__call__» ⟨[.ref C],[]⟩) Q E ⟨h,g,d,t,os⟩:=by
 repeat(first | with_reducible refine wpAny_loadPart_at z ?_ | with_reducible refine wpAny_madeBy_exc z ?_ | wp_step)
 refine codeAny_call_builtin_code (Code.quiet_builtin _ F.quiet) (wpAny_check_new_subU (bmB:=bm) F S .base z ?_)
 refine T9 F S hA Y z ?_
 show wpAny _ _ _ _ _ _
 generalize L:((h.push { cls:=.type "tuple",data:=.seq #[] }).push { cls:=.ref C,data:=.fields #[.ref h.objs.size,.none,.none,.none,.bool false,.none] })=g2
 have up:∀b o,h.get? b=some o→g2.get? b=some o:=fun b o e=>by rw[←L];exact Heap.get?_push_of_some _ (Heap.get?_push_of_some _ e)
 have j:g2.get? (h.objs.size+1)=some { cls:=.ref C,data:=.fields #[.ref h.objs.size,.none,.none,.none,.bool false,.none] }:=by rw[←L];heap_get
 have cC:(Value.ref C::bm).contains (.ref C)=true:=by simp
 have J:=up _ _ z
 rw[L]at O
 unfold isInstance
 repeat(first | with_reducible refine wpAny_loadPart_at j ?_ | (with_reducible refine wpAny_isSubtype_exc J ?_;rw[cC]) | wp_step)
 show wpAny _ _ (typeLookup (.ref C) _) _ _ _
 refine(hi.keeps up).at (wpAny_holding (wpAny_bind ?_))
 unfold bindSpecial
 refine wpAny_bind (wpAny_typeOf (T:="function") ⟨_,up _ _ D,G⟩ ?_)
 rw[mr (by decide)]
 refine wpAny_pure (wpAny_bind (wpAny_mono O (fun r s' hr=>?_) fun _ _ x=>x))
 obtain⟨rfl,Z⟩:=hr
 wp_walk
 exact Z
theorem Rm{E:Value→Shared→Prop}(F:ExcBaseFacts B newId initId bmN)(O:bm.contains (.type B)=true)(S:bm.contains (.type "AttributeError")=false)(L:bm.contains (.type "NameError")=false)
  {fI:Addr} {G:Obj} {Q:Value→Shared→Prop}
  (j:h.get? C=some (excClassObj nm q C N bs bm hdct sn sub ab col dd k0 k1 k2 k3 k5 newId)) (hi:PySem.W.Looks (model prog w) h (typeLookup (.ref C) "__init__") (some (.ref fI))) (z:h.get? fI=some G) (D:G.cls=.type "function")
  (J:wpAny (model prog w) (A.under (.builtin "type.__call__" ⟨[.ref C],[]⟩)) (call (.ref fI) [.ref (h.objs.size+1)]) (fun r s'=>r=.none∧Q (.ref (h.objs.size+1)) s') E
   ⟨(h.push { cls:=.type "tuple",data:=.seq #[] }).push { cls:=.ref C,data:=.fields #[.ref h.objs.size,.none,.none,.none,.bool false,.none] },g,d,t,os⟩) :
  wpAny (model prog w) A (call (.ref C) []) Q E ⟨h,g,d,t,os⟩:=by
 have f1:=tc_lookup
 have f2:=tc_bind (.ref C)
 have U:(⟨h,g,d,t,os⟩:Shared).TypeIs (.ref C) "type":=⟨_,j,rfl⟩
 refine wpAny_call (codeAny_of_tree ?_)
 show wpAny _ _ (callAny (.ref C) _) _ _ _
 repeat(any_goals (first | assumption | with_reducible refine wpAny_loadPart_at j ?_ | wp_step))
 refine⟨rfl,?_⟩
 exact codeAny_call_builtin_at (Code.quiet_builtin _ (by decide +kernel)) entry_typeCall (wpAny_check_type_call_sub j (xu F O S L j hi z D J))
end
section
variable {M:Model} {A:Around} {E:Value→Shared→Prop} {env:Env}
variable {nm q:Str} {C N:Addr} {bs bm:List Value} {hdct:Bool} {sn:List Str} {sub:List Value} {ab:Bool} {col:Option Bool} {dd:Option Addr} {k0 k1 k2 k3 k5:Option Value} {newId:String}
theorem Ku{s:Shared}{x:Sem Value}{Q:Flow→Shared→Prop}(j:bm.contains (.type "BaseException")=true)(F:A.handled=none)
  (h:wpAny M A x (fun v s1=>∃e t od osl,v=.ref e∧s1.heap.get? C=some (excClassObj nm q C N bs bm hdct sn sub ab col dd k0 k1 k2 k3 k5 newId) ∧
   s1.heap.get? e=some ⟨.ref C,od,.fields #[.ref t,.none,.none,.none,.bool false,.none],osl⟩∧E (.ref e) s1) E s):wpAny M A (raiseStmt env (some x) none) Q E s:=by
 have L:(Value.ref C::bm).contains (.type "BaseException")=true:=by rw[List.contains_cons,j,Bool.or_true]
 unfold raiseStmt
 refine wpAny_bind (wpAny_mono h (fun v s1 h1=>?_) fun _ _ z=>z)
 obtain⟨e,t,od,osl,rfl,D,J,G⟩:=h1
 obtain⟨O,g,d,tk,os⟩:=s1
 repeat(first
  | with_reducible refine wpAny_loadPart_at J ?_
  | with_reducible refine wpAny_loadPart_at D ?_
  | (with_reducible refine wpAny_isSubtype_exc D ?_;rw[L])
  | wp_step)
 exact wpAny_raiseNew_none F G
end
end XL
end
section
namespace XL
open PySem PySem.W PyProof.Rows Builtin Builtin.ObjectAttr
noncomputable def nu:List Value→Bool
 | .ref _::r=>nu r
 | [.type a,.type b,.type c]=>a == "Exception" && (b == "BaseException" && c == "object")
 | _=>false
theorem mC(self:Value):∀{l:List Value},nu l=true→refuseLoop self "__setattr__" l=pure ()
 | .ref _::r,h=>by
  rw[refuseLoop_ref]
  exact mC self (l:=r) h
 | [.type a,.type b,.type c],h=>by
  have q:(a == "Exception")=true∧(b == "BaseException")=true∧(c == "object")=true:=by
   rw[←lj,←lj]
   exact h
  rw[beq_iff_eq.mp q.1,beq_iff_eq.mp q.2.1,beq_iff_eq.mp q.2.2]
  exact PySem.F.store_Exception.passes self
theorem t8:∀{l:List Value},nu l=true→l.contains (.type "object")=true
 | .ref _::r,h=>by rw[List.contains_cons,t8 (l:=r) h,Bool.or_true]
 | [.type a,.type b,.type c],h=>by
  have q:(a == "Exception")=true∧(b == "BaseException")=true∧(c == "object")=true:=by
   rw[←lj,←lj]
   exact h
  rw[beq_iff_eq.mp q.1,beq_iff_eq.mp q.2.1,beq_iff_eq.mp q.2.2]
  simp
noncomputable def jd(K:Frag)(C:Addr):Bool:=(clsIn K C).any fun cd=>nu cd.mro
section
variable {prog:Program} {w:World} {A:Around} {s:Shared} {K:Frag} {x C:Addr}
theorem S5{R:Result→Shared→Prop}{L:Obj}{od:Option Obj}{name:Str}{tk:Tok}{v:Value}(X:K.In s.heap)(I:PySem.W.InstAt s.heap x L C od)(S:jd K C=true)(U:takerIn K C name=some none)
  (h:∀b,wpAny (model prog w) A.in1 (storeInOwnDict (.ref x) (.ref C) (.str name tk) name v b)
   (fun fin s'=>match fin with | .done f=>R (.ok f) s' | .again G=>G.quiet=true∧codeAny (model prog w) A G R s') (fun e s'=>R (.error e) s') s) :
  codeAny (model prog w) A (.call (.builtin "object.__setattr__") ⟨[.ref x,.str name tk,v],[]⟩) R s:=by
 have SF:=PySem.F.store_object
 obtain⟨cd,D,j⟩:=any_some S
 have ne:cd.mro.isEmpty=false:=by
  cases q:cd.mro with
  | nil=>rw[q]at j;cases j
  | cons _ _=>rfl
 have sub:Looks (model prog w) s.heap (isInstance (.ref x) (.type "object")) true :=
  I.type.andThen (looks_mroIn X (by unfold mroIn;rw[D,Option.bind_some,ml (by rw[ne];decide),t8 j]))
 refine codeAny_call_builtin SF.slot.plain SF.entry (@check_slot (model prog w) _ _ s "object.__setattr__" "object" "__setattr__" (.ref x) [.str name tk,v] [] _ SF.kind SF.split sub (SF.args (.ref x) (.str name tk) v) ?_)
 obtain⟨attr,Y,Z⟩:=lI.mp U
 have J:Looks (model prog w) s.heap (mroOf (.ref C)) cd.mro:=(looks_clsIn X D).andThen .now
 have L3:Looks (model prog w) s.heap (storeTaker? attr) none:=by
  cases attr with
  | none=>exact .now
  | some a =>
   obtain⟨b,O,z⟩:=cr.mp Z
   refine(looks_takesIn X O).andThen ?_
   cases b with
   | true=>cases z
   | false=>exact .now
 rw[osa_eq,refuse_eq]
 refine wpAny_bind (wpAny_bind (I.type.here (wpAny_bind (J.here ?_))))
 rw[mC _ j]
 refine wpAny_pure (wpAny_bind (I.type.here (wpAny_bind ((looks_findIn X Y).here (wpAny_bind (L3.here ?_))))))
 exact h _
theorem Ke{E:Value→Shared→Prop}{j:Obj}{name:Str}{v:Value}{Q:Unit→Shared→Prop}(X:K.In s.heap)(hx:s.heap.get? x=some j)(L:j.cls=.ref C)(z:j.dict=none)(J:∀c,j.data≠.cls c)
  (hs:findIn K (.ref C) "__setattr__"=some (some (.builtin "object.__setattr__"))) (hp:jd K C=true) (ht:takerIn K C name=some none) (hh:hasDictIn K C=true)
  (h:∀h' tk,(∀b o,b≠x→s.heap.get? b=some o→h'.get? b=some o)→h'.get? x=some { j with dict:=some s.heap.objs.size }→h'.Ns1 s.heap.objs.size (fun y=>if y=name then some v else none)→Q () { s with heap:=h',toks:=tk }) :
  wpAny (model prog w) A (setAttr (.ref x) name v) Q E s:=by
 have I:PySem.W.InstAt s.heap x j C none:=⟨hx,L,by
  unfold notCls
  obtain⟨_,_,dt,_⟩:=j
  cases dt<;>first | rfl | exact absurd rfl (J _),by rw[z];trivial⟩
 refine set_plain X I hs (S5 (s:={ s with toks:=s.toks+1 }) X I hp ht fun b=>?_)
 obtain⟨cd,hc,ac⟩:=any_some hh
 unfold storeInOwnDict
 refine wpAny_bind (wpAny_pure (wpAny_bind ?_))
 unfold ownDictForStores instanceDict
 refine wpAny_bind (wpAny_loadPart hx ?_)
 rw[L]
 refine wpAny_bind (PySem.W.Looks.here (s:={ s with toks:=s.toks+1 }) (PySem.W.looks_clsIn X hc) ?_)
 rw[ac,z]
 simp only[Bool.not_true,Bool.false_eq_true,if_false,typeHasDict,Bool.or_self]
 have O:x≠s.heap.objs.size:=md (Heap.lt_size hx)
 have G:(s.heap.push { cls:=.type "dict",data:=.dict #[] }).get? x=some j:=Heap.get?_push_of_some _ hx
 have fin:wpAny (model prog w) A.in1 (do
   let d ←alloc { cls:=.type "dict",data:=.dict #[] }
   update x fun o=>{ o with dict:=some d }
   dictMade (.ref C) x d) (fun r s'=>wpAny (model prog w) A.in1 (match r with | some d=>storeInDict d (.str name s.toks) name v | none=>noDictFor (.ref x) (.ref C) name b)
    (fun fin s'=>match fin with | .done f=>(match(Except.ok f:Result)with | .ok (.ret _)=>Q () s' | .ok _=>False | .error e=>E e s') | .again c'=>c'.quiet=true∧codeAny (model prog w) A c' (fun r s'=>match r with | .ok (.ret _)=>Q () s' | .ok _=>False | .error e=>E e s') s') (fun e s'=>E e s') s') (fun e s'=>E e s') { s with toks:=s.toks+1 }:=by
  refine wpAny_bind (wpAny_alloc' ?_)
  refine wpAny_bind (wpAny_update' G ?_)
  unfold dictMade
  refine wpAny_pure ?_
  generalize hg:((s.heap.push { cls:=.type "dict",data:=.dict #[] }).update x fun o=>{ o with dict:=some s.heap.objs.size })=g
  have gd:g.get? s.heap.objs.size=some { cls:=.type "dict",data:=.dict #[] }:=by
   rw[←hg]
   exact(Heap.get?_update_ne _ _ _ _ O.symm).trans (Heap.get?_push_at rfl rfl)
  have gx:g.get? x=some { j with dict:=some s.heap.objs.size }:=by
   rw[←hg]
   refine Heap.get?_update_self _ G ?_
   have ag:=(Heap.get?_some_iff.mp hx).2
   obtain⟨oc,od,U,osl⟩:=j
   cases U<;>first | rfl | exact ag
  have go:∀b o,b≠x→s.heap.get? b=some o→g.get? b=some o:=fun b o hb e=>by
   rw[←hg]
   exact(Heap.get?_update_ne _ _ _ _ hb).trans (Heap.get?_push_of_some _ e)
  have ae:g.Ns s.heap.objs.size (fun _=>none):=⟨_,#[],_,gd,rfl,fun e he=>absurd he (by simp),fun _=>rfl⟩
  show wpAny _ _ (storeInDict s.heap.objs.size (.str name s.toks) name v) _ _ _
  unfold storeInDict newKeyGuard
  refine wpAny_bind (wpAny_pure (wpAny_bind (wpAny_nsSet1 (Heap.Ns1.of_empty ae) fun h' D F=>?_)))
  obtain⟨oD,ah,ai,af,Y,Z⟩:=D.count (Within.cons name v Within.nil)
  refine wpAny_bind (wpAny_lookBehind af (by rw[Y];exact pastItsLine_dict (lS Z (by rw[io,lT,sizeLine_eq];decide))) ?_)
  refine wpAny_pure ?_
  refine h h' _ (fun b o hb e=>?_) ?_ D
  ·exact(F.2 b (md (Heap.lt_size e))).trans (go b o hb e)
  ·exact(F.2 x O).trans gx
 cases S:j.data with
 | cls c=>exact absurd S (J c)
 | _=>exact fin
end
end XL
end
section
namespace XL
open PySem PySem.W PyProof.Rows Builtin Builtin.ObjectAttr
theorem DG:builtinKind "BaseException.__getattribute__"=some .slot:=by decide +kernel
theorem Mt:splitId "BaseException.__getattribute__"=some ("BaseException","__getattribute__"):=by kernel_rfl
theorem Mu:plainId "BaseException.__getattribute__"=true:=by decide +kernel
theorem qC:∀{l:List Value},nu l=true→l.contains (.type "BaseException")=true
 | .ref _::r,h=>by rw[List.contains_cons,qC (l:=r) h,Bool.or_true]
 | [.type a,.type b,.type c],h=>by
  have q:(a == "Exception")=true∧(b == "BaseException")=true∧(c == "object")=true:=by
   rw[←lj,←lj]
   exact h
  rw[beq_iff_eq.mp q.1,beq_iff_eq.mp q.2.1,beq_iff_eq.mp q.2.2]
  simp
theorem Up(o:Value):bindSpecial (.builtin "BaseException.__getattribute__") o=pure (.builtin "BaseException.__getattribute__",[o]):=by
 have z:withoutEnding? "BaseException.__getattribute__" "#opaque"=none:=by decide +kernel
 have j:withoutEnding? "BaseException.__getattribute__" "#data"=none:=by decide +kernel
 simp only[bindSpecial,typeOf,builtinType,z,j,DG]
 rfl
section
variable {prog:Program} {w:World} {A:Around} {s:Shared} {K:Frag} {x C:Addr}
theorem Uo{E:Value→Shared→Prop}{S:Obj}{od:Option Obj}{name:Str}{v:Value}{expr:Bool}{Q:Value→Shared→Prop}(X:K.In s.heap)(I:PySem.W.InstAt s.heap x S C od)(Y:jd K C=true)
  (U:findIn K (.ref C) "__getattribute__"=some (some (.builtin "BaseException.__getattribute__"))) (O:findIn K (.ref C) "__getattr__"=some none)
  (hv:findObj K C od name=some (.value v)) (L:handedIn v=true) (h:Q v { s with toks:=s.toks+1 }):wpAny (model prog w) A (getAttr (.ref x) name expr) Q E s:=by
 obtain⟨cd,J,G⟩:=any_some Y
 have ne:cd.mro.isEmpty=false:=by
  cases q:cd.mro with
  | nil=>rw[q]at G;cases G
  | cons _ _=>rfl
 have sub:Looks (model prog w) s.heap (isInstance (.ref x) (.type "BaseException")) true :=
  I.type.andThen (looks_mroIn X (by unfold mroIn;rw[J,Option.bind_some,ml (by rw[ne];decide),qC G]))
 have j:(onTheHeap (.ref C)&&(Value.builtin "BaseException.__getattribute__"==Value.builtin "object.__getattribute__"))=false:=by
  have z:(Value.builtin "BaseException.__getattribute__"==Value.builtin "object.__getattribute__")=false:=by decide +kernel
  rw[z,Bool.and_false]
 unfold getAttr
 refine wpAny_bind (wpAny_mkText ?_)
 unfold getAttrBy
 refine wpAny_holding (wpAny_bind (PySem.W.Looks.here (s:={ s with toks:=s.toks+1 }) I.type (wpAny_bind (PySem.W.Looks.here (s:={ s with toks:=s.toks+1 }) (looks_findIn X U) ?_))))
 dsimp only
 rw[j,ml (by decide)]
 unfold getAttrByItsOwn hookBefore
 rw[mr (by rfl)]
 refine wpAny_bind (PySem.W.Looks.here (s:={ s with toks:=s.toks+1 }) (looks_findIn X O) ?_)
 have D:(expr&&onTheHeap (Value.builtin "BaseException.__getattribute__"))=false:=by cases expr<;>rfl
 have run:wpAny (model prog w) A (callGetattribute (.ref x) (.str name s.toks) (.builtin "BaseException.__getattribute__") expr) (fun u s'=>u=v∧s'={ s with toks:=s.toks+1 }) (fun _ _=>False) { s with toks:=s.toks+1 }:=by
  unfold callGetattribute
  rw[D,ml (by decide)]
  unfold boundAndCalled
  rw[Up]
  refine wpAny_bind (wpAny_pure (wpAny_call ?_))
  refine codeAny_call_builtin Mu PySem.F.entry_bexc_ga (@check_slot (model prog w) _ _ _ "BaseException.__getattribute__" "BaseException" "__getattribute__" (.ref x) [.str name s.toks] [] _ DG Mt sub (PySem.F.args_bexc_ga _ _) ?_)
  unfold Builtin.«object.__getattribute__»
  refine wpAny_bind (wpAny_pure (wpAny_bind (wpAny_pure ?_)))
  refine wpAny_bind (PySem.W.Looks.here (s:={ s with toks:=s.toks+1 }) I.type (wpAny_bind (PySem.W.Looks.here (s:={ s with toks:=s.toks+1 }) (looks_find X I hv) ?_)))
  exact wpAny_pure ⟨rfl,rfl⟩
 refine wpAny_bind (wpAny_attempt (wpAny_holding (wpAny_mono run (fun u s' Z=>?_) fun _ _ z=>False.elim z)))
 obtain⟨rfl,rfl⟩:=Z
 show wpAny _ _ (handedOut u) _ _ _
 rw[handedOut_of L]
 exact wpAny_pure h
end
end XL
end
section
namespace XL
open PySem PySem.Spec PyProof.Rows L2
noncomputable def Ar(x C:Addr)(dd:Option Addr):HO:=.ext fun h=>∃(j:Obj)(t:Addr),h.get? x=some j∧j.cls=.ref C∧j.dict=dd∧j.data=.fields #[.ref t,.none,.none,.none,.bool false,.none]
theorem M9:plainId "Exception.__init__"=true:=by decide +kernel
theorem M_{M:Model}{A:Around}{E:Value→Shared→Prop}{h:Heap}{g:Array GenState}{d:Drawn}{tk:Nat}{os:OsState}{x C:Addr}{od D:Option Addr}{z:Data}{osl j:Array (Option Value)}{J:Value}{cd:ClassData}{Q:Unit→Shared→Prop}
  (sub:PySem.W.Looks M h (isInstance (.ref x) (.type "Exception")) true) (hx:h.get? x=some ⟨.ref C,od,z,osl⟩) (L:h.get? C=some ⟨J,D,.cls cd,j⟩) (G:Q () ⟨h,g,d,tk,os⟩) :
  wpAny M A (checkBuiltinCall "Exception.__init__" ⟨[.ref x],[]⟩) Q E ⟨h,g,d,tk,os⟩:=by
 have F:=PySem.F.excCall_Exception
 have ns:=F.noStar
 simp only[checkBuiltinCall,F.initKind,F.initSplit,F.initRow]
 refine wpAny_bind (PySem.W.Looks.here (s:=⟨h,g,d,tk,os⟩) sub ?_)
 simp only[Bool.not_true,Bool.false_eq_true,if_false]
 repeat(first | with_reducible refine wpAny_loadPart_at hx ?_ | with_reducible refine wpAny_loadPart_at L ?_ | wp_step)
 exact G
theorem t_:∀{l:List Value},nu l=true→l.contains (.type "Exception")=true
 | .ref _::r,h=>by rw[List.contains_cons,t_ (l:=r) h,Bool.or_true]
 | [.type a,.type b,.type c],h=>by
  have q:(a == "Exception")=true∧(b == "BaseException")=true∧(c == "object")=true:=by
   rw[←lj,←lj]
   exact h
  rw[beq_iff_eq.mp q.1,beq_iff_eq.mp q.2.1,beq_iff_eq.mp q.2.2]
  simp
section
variable {X:Cx}
theorem Uy:kO X (.builtin "Exception.__init__") (fun xs H Q=>∃x C dd,xs=[.ref x]∧H x=some (Ar x C dd)∧jd X.K C=true∧Q .non H):=by
 intro pins s σ H xs us Q I r h
 obtain⟨x,C,dd,rfl,hx,hp,q⟩:=h
 obtain rfl:=Vals.Wj r
 obtain⟨⟨oe,t,h1,h2,h3,Y⟩,_,_⟩:=(show dq X.prog X.w H s.heap x (Ar x C dd)from I.hok x _ hx)
 obtain⟨cd,G,U⟩:=PySem.W.any_some hp
 have ne:cd.mro.isEmpty=false:=by
  cases q:cd.mro with
  | nil=>rw[q]at U;cases U
  | cons _ _=>rfl
 have ty:PySem.W.Looks (model X.prog X.w) s.heap (typeOf (.ref x)) (.ref C):=h2▸(PySem.W.Looks.ld h1).andThen .now
 have sub:PySem.W.Looks (model X.prog X.w) s.heap (isInstance (.ref x) (.type "Exception")) true :=
  ty.andThen (PySem.W.looks_mroIn I.o5 (by unfold PySem.W.mroIn;rw[G,Option.bind_some,ml (by rw[ne];decide),t_ U]))
 obtain⟨Z,J,j,S⟩:∃Z J j,s.heap.get? C=some ⟨Z,J,.cls cd,j⟩:=by
  unfold PySem.W.clsIn at G
  split at G
  ·rename_i q
   cases G
   exact⟨_,_,_,I.o5 _ _ q⟩
  ·cases G
 obtain⟨oc,od,ac,osl⟩:=oe
 dsimp only at h2 h3 Y
 subst h2 h3 Y
 refine wpAny_call (codeAny_call_builtin M9 PySem.F.excCall_Exception.initEntry (M_ (g:=s.gens) (d:=s.drawn) (tk:=s.toks) (os:=s.os) sub h1 S ?_))
 have sz:0<(#[Value.ref t,Value.none,.none,.none,.bool false,.none]:Array Value).size:=by simp
 have O:(s.heap.push { cls:=.type "tuple",data:=.seq #[] }).get? x=some _:=Heap.get?_push_of_some _ h1
 have L:=Heap.get?_update_self (Obj.mapFields (·.setIfInBounds 0 (Value.ref s.heap.objs.size))) O (Obj.isFreed_of_fields (Obj.data_mapFields rfl _))
 have fin:∀h':Heap,h'=(s.heap.push { cls:=.type "tuple",data:=.seq #[] }).update x (Obj.mapFields (·.setIfInBounds 0 (Value.ref s.heap.objs.size)))→EP X pins σ Q .none { s with heap:=h' }:=fun h' e=>by
  refine⟨.non,H,?_,rfl,q⟩
  have kp:∀b u,b≠x→s.heap.get? b=some u→h'.get? b=some u:=fun b u hb z=>by
   rw[e,Heap.get?_update_other _ _ (Ne.symm hb)]
   exact Heap.get?_push_of_some _ z
  have D:h'.get? x=some ⟨.ref C,od,.fields #[.ref s.heap.objs.size,.none,.none,.none,.bool false,.none],osl⟩:=by rw[e];exact L
  have w1:=I.write (x:=x) (e:=x) (o:=Ar x C od) (t':=s.toks) (h':=h') (by rw[hx];exact True.intro) (.inl rfl) kp ⟨_,D⟩
   ⟨⟨_,s.heap.objs.size,D,rfl,rfl,rfl⟩,⟨_,D⟩,fun g1 g2 ⟨o,t,y1,y2⟩ k=>⟨o,t,k _ y1,y2⟩⟩
  have same:upd H x (Ar x C od)=H:=by
   funext b
   unfold upd
   by_cases z:b=x
   ·rw[mr z,z,hx]
   ·rw[ml z]
  rw[same]at w1
  exact w1
 unfold Builtin.«BaseException.__init__»
 wp_walk
 exact fin _ rfl
noncomputable def Yk(K:PySem.W.Frag)(ta tv:TE)(f:Str):TS:=fun D σ H=>tv σ H fun y H1=>ta σ H1 fun v H2=>∃x C,v=.ref x∧H2 x=some (Ar x C none)∧jd K C=true ∧
 PySem.W.findIn K (.ref C) "__setattr__"=some (some (.builtin "object.__setattr__"))∧PySem.W.takerIn K C f=some none∧PySem.W.hasDictIn K C=true ∧
 ∀d,H2 d=none→d≠x→D.nx σ (upd (upd H2 d (.xd [(f,y)])) x (Ar x C (some d)))
theorem Sx{o value:Expr}{f:Str}{pos pos':Pos}{ta tv:TE}(ha:PE X o ta)(hv:PE X value tv)(hs:swapsWith value (some (.Attribute o f pos')) pos.line X.env=pure false) :
  PS X (.Assign [.Attribute o f pos'] value pos) (Yk X.K ta tv f):=by
 intro pins s σ H D I h
 refine plainObj_wpAny_Assign_Attribute (cW (hv pins s σ H _ I h) fun u s1 ⟨y,H1,I1,ry,q⟩=>cW (ha pins s1 σ H1 _ I1 q) fun ov s2 hz=>?_) hs
 obtain⟨v,H2,J,rx,x,C,ex,hx,hp,L,ht,hh,q2⟩:=hz
 subst ex
 obtain rfl:ov=Value.ref x:=rx
 obtain⟨⟨oe,t,h1,h2,h3,Z⟩,_,_⟩:=(show dq X.prog X.w H2 s2.heap x (Ar x C none)from J.hok x _ hx)
 refine Ke J.o5 h1 h2 h3 (fun c z=>by rw[Z]at z;cases z) L hp ht hh fun h' tk kp j O=>?_
 have hsz:H2 s2.heap.objs.size=none:=J.hok.fresh (i' _)
 have U:s2.heap.objs.size≠x:=Nat.ne_of_gt (Heap.lt_size h1)
 refine⟨σ,_,?_,q2 s2.heap.objs.size hsz U⟩
 have F:∀b,H2 b=none→b≠x:=fun b e z=>by rw[z,hx]at e;cases e
 refine J.un (h':=h') (t':=tk) ⟨fun b o e n _ _=>kp b o (F b n) e,fun b o e n _ _=>⟨o.slots,kp b o (F b n) e⟩,fun b o e n _=>?_,fun b o e _=>?_,fun b xs e=>?_,fun b o u e=>?_,fun b ps e=>⟨#[],?_⟩⟩ ?_
 ·rw[aA (F b n),aA (md (Heap.lt_size e))]
  exact n
 ·by_cases z:b=x
  ·exact⟨_,z▸j⟩
  ·exact⟨o,kp b o z e⟩
 ·rw[aA (qt e hx (by intro z;cases z)),aA (aP e hsz)]
  exact e
 ·rw[aA (qt e hx (by intro z;cases z)),aA (aP e hsz)]
  exact e
 ·rw[aA (qt e hx (by intro z;cases z)),aA (aP e hsz),e]
  simp
 ·intro b u e
  by_cases Y:b=x
  ·subst Y
   rw[au]at e
   cases e
   exact⟨⟨_,t,j,h2,rfl,Z⟩,⟨_,j⟩,fun g1 g2 ⟨o,t,y1,y2⟩ k=>⟨o,t,k _ y1,y2⟩⟩
  ·rw[aA Y]at e
   by_cases zd:b=s2.heap.objs.size
   ·subst zd
    rw[au]at e
    cases e
    refine⟨_,O,fun g=>?_⟩
    by_cases S:g=f
    ·subst S
     rw[mr rfl,List.lookup_cons_self]
     exact ry
    ·rw[ml S]
     have nb:(g==f)=false:=by
      cases q:(g==f)with
      | false=>rfl
      | true=>exact absurd (eq_of_beq q) S
     rw[List.lookup_cons,nb]
     exact True.intro
   ·rw[aA zd]at e
    refine(J.hok b u e).stay (fun c v G z=>kp c v (fun zz=>?_) z) (fun c z=>?_) fun c xs z=>?_
    ·rcases G with G | G
     ·exact Y (G.symm.trans zz)
     ·rw[zz,hx]at G
      cases G
    ·rw[aA (qt z hx (by intro y;cases y)),aA (aP z hsz)]
     exact z
    ·rw[aA (qt z hx (by intro y;cases y)),aA (aP z hsz)]
     exact z
end
end XL
end
section
namespace XL
open PySem PySem.Spec PyProof.Rows L2
structure j_ (K:PySem.W.Frag) (C:Addr) (m:Str) (f:Addr):Prop where
 ga:PySem.W.specialIn K (.ref C) "__getattribute__"=some (some (.builtin "type.__getattribute__"))
 rd:PySem.W.readsIn K C (.type "type")=true
 at_:PySem.W.findCls K (.ref C) (.type "type") m=some (.val (.ref f))
 kp:PySem.W.keepIn K (.ref f)=true
theorem VB(K:PySem.W.Frag):PySem.W.findCls K (.type "Exception") (.type "type") "__init__"=some (.val (.builtin "Exception.__init__")):=by kernel_rfl
section
variable {X:Cx} {CX:JS} {k:Nat} {f C:Addr} {fd:FuncData} {ps:List Str} {sp:Sp} {dvs:List V} {ds:List Value} {E:XK} {m:Str} {pos apos:Pos} {e o:Expr} {es:List Expr} {ta:TE} {t:TA}
theorem ql{pl:Sem Bool}(he:PE X o (tC (.ref C)))(j:j_ X.K C m f)(F:aL X.prog X.w X.K X.mg X.base CX k f fd ps sp)(hr:bB k X.A)(Y:Binds X.K fd ps ds)(hd:Vals dvs ds)(hx:jm CX X E)(ha:PA X (e::es) t)
  (D:starEach (e::es) X.env=(false,eval e X.env)::starEach es X.env:=by rfl) (G:(backTo pos (starEach es X.env)).any (·.1)=false:=by rfl)
  (ht:eval (.Call (.Attribute o m apos) (e::es) [] pos) X.env=(do
   let L ←eval o X.env
   standAt apos.atName
   let(f,first) ←holding [L] (getMethod L m pl)
   callWith pos f first (backTo pos (starEach (e::es) X.env)) (backToKw pos (keywordEach [] X.env))):=by rfl) :
  PE X (.Call (.Attribute o m apos) (e::es) [] pos) (lA sp dvs E t):=by
 intro pins s σ H Q I h
 refine PySem.W.methodCall_KW (pl:=pl) (cW (he pins s σ H (fun v H1=>v=.ref C∧H1=H) I ⟨rfl,rfl⟩) fun u s1 ⟨v,H1,z,U,S,Z⟩=>?_) ht
 subst S Z
 obtain rfl:u=Value.ref C:=U
 refine PySem.W.method_cls z.o5 j.ga (PySem.W.cls_value z.o5 j.rd j.at_ rfl ?_)
 have O:=z.tok (s1.toks+1)
 refine PySem.W.callWith_K (first:=[]) (h₀:=X.base) I.ok.mod.kin j.kp (cW (ha pos pins _ σ H1 _ O h) fun us s2 ⟨vs,H2,J,r,q2⟩=>⟨J.o5,?_⟩) D G
 exact zF F hr Y hd hx J r q2
theorem Py{pl:Sem Bool}{p:Pos}(O:Gl X "Exception")(G:X.mg "Exception"=none)(S:PA X [e] t)
  (j:starEach [e] X.env=[(false,eval e X.env)]:=by rfl)
  (U:eval (.Call (.Attribute (.Name "Exception" p) "__init__" apos) [e] [] pos) X.env=(do
   let D ←eval (.Name "Exception" p) X.env
   standAt apos.atName
   let(f,first) ←holding [D] (getMethod D "__init__" pl)
   callWith pos f first (backTo pos (starEach [e] X.env)) (backToKw pos (keywordEach [] X.env))):=by rfl) :
  PE X (.Call (.Attribute (.Name "Exception" p) "__init__" apos) [e] [] pos) (Nt (fun xs H Q=>∃x C dd,xs=[.ref x]∧H x=some (Ar x C dd)∧jd X.K C=true∧Q .non H) t):=by
 intro pins s σ H Q I h
 refine PySem.W.methodCall_KW (pl:=pl) (o4 I O G (u:=.type "Exception") (by decide +kernel) ?_ (by decide) (by decide)) U
 obtain⟨Z,z⟩:=I.fr
 refine PySem.W.method_type z I.ok.mod.kin (by kernel_rfl) (by decide +kernel) (VB X.K) (by decide +kernel) ?_
 have F:=I.tok (s.toks+1)
 exact PyProof.Rows.callWith_builtin1 (cW (S pos pins _ σ H _ F h) fun us s1 ⟨vs,H1,L,Y,J⟩=>Uy pins s1 σ H1 vs us Q L Y J) j rfl
end
structure ux (K:PySem.W.Frag) (C:Addr):Prop where
 over:jd K C=true
 sa:PySem.W.findIn K (.ref C) "__setattr__"=some (some (.builtin "object.__setattr__"))
 tk:PySem.W.takerIn K C "number"=some none
 hd:PySem.W.hasDictIn K C=true
 ga:PySem.W.findIn K (.ref C) "__getattribute__"=some (some (.builtin "BaseException.__getattribute__"))
 gh:PySem.W.findIn K (.ref C) "__getattr__"=some none
 nn:PySem.W.findIn K (.ref C) "number"=some none
noncomputable def spR(K:PySem.W.Frag):Sp:=fun vs H Q _=>∃x C n,vs=[.ref x,.int n]∧H x=some (Ar x C none)∧ux K C∧∀d,H d=none→d≠x→Q .non (upd (upd H d (.xd [("number",.int n)])) x (Ar x C (some d)))
noncomputable def Vj(K:PySem.W.Frag)(n:Int):Sp:=fun vs H Q _=>∃x C,vs=[.ref x]∧H x=some (Ar x C none)∧ux K C∧∀d,H d=none→d≠x→Q .non (upd (upd H d (.xd [("number",.int n)])) x (Ar x C (some d)))
end XL
end
section
set_option linter.unusedVariables false
namespace XL
open PySem PySem.Spec PyProof.Rows L2
structure XMk (K:PySem.W.Frag) (C fI:Addr):Prop where
 cls:∃nm q N bs bm hdct sn sub ab col dd k0 k1 k2 k3 k5,K.lookup C=some (excClassObj nm q C N bs bm hdct sn sub ab col dd k0 k1 k2 k3 k5 "Exception.__new__")∧bm.contains (.type "Exception")=true ∧
  bm.contains (.type "AttributeError")=false∧bm.contains (.type "NameError")=false∧bm.contains (.type "BaseException")=true
 init:PySem.W.findIn K (.ref C) "__init__"=some (some (.ref fI))
 fn:PySem.W.isFn K (.ref fI)=true
 kp:PySem.W.keepIn K (.ref C)=true
noncomputable def Throws(X:Cx)(E:XK):Prop:=∀(pins:List (Addr×Obj))(σ:L2.St)(H:Hp)(s:Shared)(m:Nat)(e C d:Addr),Inv X pins σ H s→X.s_0.heap.objs.size≤m→(∀p∈X.pn++pins,p.1<m)→M6 m H s.heap e C d→E (.ref C) (some d) H→X.xe (.ref e) s
theorem Throws.passes{X:Cx}{E:XK}(t:Throws X E):jm (bc X.prog X.w) X E:=by
 intro pins σ H s v s' I h
 obtain⟨e,C,d,H',rfl,os,bare,un,hok,F,j⟩:=h
 have D:=I.call' (ch:=[]) os un hok bare (fun b z=>absurd z (by simp))
 exact t pins σ H' s' s.heap.objs.size e C d D I.sz (fun p G=>Heap.lt_size (I.pin p G).1) F j
theorem b_{P:Program}{w:World}{K:PySem.W.Frag}{mg:Str→Option Value}{base:Heap}{N:List Str}{qual:Str}{scope:Scope}{f:Addr}{cd:Value}{A:Around}{outer:List Env}{G:Shared}{D:Hp}{E:XK} :
  Throws (jY (bc P w) P w K mg base N qual scope f cd A outer G D E) E:=fun pins σ H s m e C d I j _ F z=>leaves I (F.grow j) z
noncomputable def Nq(C:Addr)(n:Int)(E:XK):TS:=fun _ _ H=>∀e d H',(∀b o,H b=some o→H' b=some o)→H' e=some (RD e C d)→H' d=some (.xd [("number",.int n)])→E (.ref C) (some d) H'
theorem W7{K:PySem.W.Frag}{f:Addr}(h:PySem.W.isFn K (.ref f)=true){g:Heap}(X:K.In g):∃o,g.get? f=some o∧o.cls=.type "function":=by
 have e:=beq_iff_eq.mp h
 unfold PySem.W.typeIn at e
 simp only at e
 cases q:K.lookup f with
 | none=>rw[q]at e;cases e
 | some o =>
  rw[q]at e
  exact⟨o,X _ _ q,Option.some.inj e⟩
theorem cT{X:Cx}{C fI:Addr}{x:Str}{np cpos pos:Pos}{n:Int}{E:XK}{k:Nat}{fd:FuncData}(M:XMk X.K C fI)(hc:ux X.K C)(F:aL X.prog X.w X.K X.mg X.base (bc X.prog X.w) k fI fd ["self"] (Vj X.K n))(hr:bB (k+1) X.A)
  (hg:Gl X x) (hm:X.mg x=some (.ref C)) (hb:Binds X.K fd ["self"] []) (calm:X.calm=true) (th:Throws X E) (Z:(x==("__debug__" : Str))=false:=by decide) :
  PS X (.Raise (some (.Call (.Name x np) [] [] cpos)) none pos) (Nq C n E):=by
 intro pins s σ H D I h
 obtain⟨nm,q,N,bs,bm,hdct,sn,sub,ab,col,dd,k0,k1,k2,k3,k5,hC,b1,b2,b3,b4⟩:=M.cls
 rw[arm_exec_Raise]
 refine wpAny_bind (wpAny_standAt (Ku (C:=C) (nm:=nm) (q:=q) (N:=N) (bs:=bs) (bm:=bm) (hdct:=hdct) (sn:=sn) (sub:=sub) (ab:=ab) (col:=col) (dd:=dd) (k0:=k0) (k1:=k1) (k2:=k2) (k3:=k3) (k5:=k5) (newId:="Exception.__new__") b4 (I.ok.hd calm) ?_))
 refine wpAny_bind (wpAny_mono (Q:=fun v s1=>∃e t od osl,v=.ref e∧s1.heap.get? C=some (excClassObj nm q C N bs bm hdct sn sub ab col dd k0 k1 k2 k3 k5 "Exception.__new__") ∧
   s1.heap.get? e=some ⟨.ref C,od,.fields #[.ref t,.none,.none,.none,.bool false,.none],osl⟩∧X.xe (.ref e) s1) (E:=X.xe) ?_ (fun v s3 h3=>wpAny_bind (wpAny_standAt (wpAny_pure h3))) fun _ _ z=>z)
 refine wpAny_Call_Name_kw (jQ I hg hm ?_ Z)
 refine PySem.W.callWith_K0 (first:=[]) I.o5 M.kp ?_
 obtain⟨oI,af,ac⟩:=W7 M.fn I.o5
 obtain⟨j,g,dr,tk,os⟩:=s
 refine Rm (w:=X.w) PySem.F.excBase_Exception b1 b2 b3 (I.o5 _ _ hC) (PySem.W.looks_findIn I.o5 M.init) af ac ?_
 generalize L:((j.push { cls:=.type "tuple",data:=.seq #[] }).push { cls:=.ref C,data:=.fields #[.ref j.objs.size,.none,.none,.none,.bool false,.none] })=h2
 have up:∀b u,j.get? b=some u→h2.get? b=some u:=fun b u e=>by rw[←L];exact Heap.get?_push_of_some _ (Heap.get?_push_of_some _ e)
 have hx:h2.get? (j.objs.size+1)=some ⟨.ref C,none,.fields #[.ref j.objs.size,.none,.none,.none,.bool false,.none],#[]⟩:=by rw[←L];heap_get
 have I1:Inv X pins σ (upd H (j.objs.size+1) (Ar (j.objs.size+1) C none)) ⟨h2,g,dr,tk,os⟩ :=
  I.laid (a:=j.objs.size+1) (t':=tk) up (Nat.le_succ _) ⟨⟨_,j.objs.size,hx,rfl,rfl,rfl⟩,⟨_,hx⟩,fun g1 g2 ⟨o,t,J,S⟩ k=>⟨o,t,k _ J,S⟩⟩
 have U:H (j.objs.size+1)=none:=I.hok.fresh (Nat.le_succ _)
 have ae:Vj X.K n [.ref (j.objs.size+1)] (upd H (j.objs.size+1) (Ar (j.objs.size+1) C none)) (fun v H2=>v=.non∧∃d,H d=none∧d≠j.objs.size+1∧H2=upd (upd (upd H (j.objs.size+1) (Ar (j.objs.size+1) C none)) d (.xd [("number",.int n)])) (j.objs.size+1) (Ar (j.objs.size+1) C (some d))) (fun _ _ _=>False) :=
  ⟨_,C,rfl,au,hc,fun d hd G=>⟨rfl,d,by rw[aA G]at hd;exact hd,G,rfl⟩⟩
 refine wpAny_call (codeAny_mono (F.run _ X.stack ⟨h2,g,dr,tk,os⟩ _ ⟨[.ref (j.objs.size+1)],[]⟩ [.ref (j.objs.size+1)] [.ref (j.objs.size+1)] _ _ (hr.make C [] []) (I1.env0.make C [] []) (hb _ [.ref (j.objs.size+1)] I1.o5 rfl) (.cons rfl .nil) ae) fun r s' O=>?_)
 cases r with
 | error v =>
  obtain⟨_,_,_,_,_,_,_,_,_,_,z⟩:=O
  exact False.elim z
 | ok fl =>
  cases fl with
  | next=>exact False.elim O
  | brk=>exact False.elim O
  | cont=>exact False.elim O
  | ret u =>
   obtain⟨v,H2,I3,rv,ev,d,hd,G,eH⟩:=I1.after O
   subst ev
   refine⟨rv,?_⟩
   have ex:H2 (j.objs.size+1)=some (Ar (j.objs.size+1) C (some d)):=by rw[eH];exact au
   obtain⟨⟨oe,t,J,S,y3,y4⟩,_,_⟩:=(show dq X.prog X.w H2 s'.heap (j.objs.size+1) (Ar (j.objs.size+1) C (some d))from I3.hok _ _ ex)
   obtain⟨oc,od,ag,osl⟩:=oe
   dsimp only at S y3 y4
   subst S y3 y4
   have I4:Inv X pins σ (upd H2 (j.objs.size+1) (RD (j.objs.size+1) C d)) s':=by
    have w1:=I3.write (x:=j.objs.size+1) (e:=j.objs.size+1) (o:=RD (j.objs.size+1) C d) (t':=s'.toks) (h':=s'.heap) (by rw[ex];exact True.intro) (.inl rfl) (fun b z _ e=>e) ⟨_,J⟩
     ⟨⟨_,_,J,rfl,rfl,rfl⟩,⟨_,J⟩,fun g1 g2 ⟨o,t,z1,z2⟩ k=>⟨o,t,k _ z1,z2⟩⟩
    exact w1
   refine⟨j.objs.size+1,t,some d,osl,rfl,I3.o5 _ _ hC,J,?_⟩
   refine th pins σ _ s' j.objs.size (j.objs.size+1) C d I4 I.sz (fun p j=>Heap.lt_size (I.pin p j).1) ⟨au,Nat.le_succ _,.none,⟨_,_,J,rfl,rfl,rfl,rfl⟩,.inl rfl⟩ ?_
   refine h (j.objs.size+1) d _ (fun b o e=>?_) au ?_
   ·have Y:b≠j.objs.size+1:=aP e U
    rw[aA Y,eH,aA Y,aA (aP e hd),aA Y]
    exact e
   ·rw[aA G,eH,aA G]
    exact au
end XL
end
section
namespace XL
open PySem PySem.Spec PyProof.Rows L2
section
variable {X:Cx} {pins:List (Addr×Obj)} {σ:L2.St} {H:Hp} {s:Shared} {e C d:Addr}
theorem tX{as:List Addr}{fl:Value}{h':Heap}{m:Nat}(I:Inv X pins σ H s)(F:M6 m H s.heap e C d)(hm:X.s_0.heap.objs.size≤m)(hp:∀p∈X.pn++pins,p.1<m)
  (g3:∀b∈as,b=e∨H b=none) (g4:∀b∈as,b∈frs X.stack∨m≤b) (g6:∀b∈as,b=e∨b∈frs X.stack∨∃o vs,s.heap.get? b=some o∧o.data=.fields vs)
  (S:U_ (PySem.W.hideAll s.heap as) X.stack e (.ref C) (some d) fl s.heap h'):Inv X pins σ H { s with heap:=h' }:=by
 have ac:=I.stack
 have fd:∀b∈frs X.stack,∀o vs,s.heap.get? b=some o→o.data≠.fields vs:=fun b G o vs Y hd=>by
  obtain⟨_,o',j,D⟩:=ac.mem G
  rw[Y]at j
  cases j
  exact D vs hd
 have J:∀b,b∈(as.filter fun b=>decide (b≠e)&&decide (b∉frs X.stack))↔b∈as∧b≠e∧b∉frs X.stack:=fun b=>by
  rw[List.mem_filter,lj,mo,mo]
 refine I.call' (s':={ s with heap:=h' }) (ch:=as.filter fun b=>decide (b≠e)&&decide (b∉frs X.stack)) rfl ⟨fun b o q n G hx=>?_,fun b o q n G hx=>?_,fun b o q n hx=>n,fun b o q hx=>?_,fun _ _ q=>q,fun _ _ _ q=>q,fun b ps q=>⟨#[],by rw[q];simp⟩⟩ (tY I.hok F.ex g3 S) I.bare fun b G=>?_
 ·refine S.st b o (PySem.W.hideAll_get _ q fun z=>hx ((J b).mpr ⟨z,fun y=>?_,G⟩))
  rw[y,F.ex]at n
  cases n
 ·exact S.sl b o q fun vs z=>fd b G o vs q z
 ·by_cases z:b∈as
  ·by_cases U:b=e
   ·subst U
    obtain⟨_,⟨oe,_,x1,_⟩,_⟩:=S.ex
    exact⟨oe,x1⟩
   ·by_cases L:b∈frs X.stack
    ·obtain⟨_,o',j,_⟩:=S.fr.mem L
     exact⟨o',j⟩
    ·exact absurd ((J b).mpr ⟨z,U,L⟩) hx
  ·exact⟨o,S.st b o (PySem.W.hideAll_get _ q z)⟩
 ·obtain⟨z,U,L⟩:=(J b).mp G
  have O:m≤b:=(g4 b z).elim (fun y=>absurd y L) id
  obtain⟨o,vs,Y,hd⟩:=(g6 b z).elim (fun y=>absurd y U) fun y=>y.elim (fun y=>absurd y L) id
  refine⟨.inr (lS hm O),fun y=>?_,fun x c hc y=>?_,fun p Z y=>?_⟩
  ·obtain⟨mm,⟨o',es,ep,j,D,_⟩,_⟩:=I.loc
   rw[←y,Y]at j
   cases j
   rw[hd]at D
   cases D
  ·obtain⟨v,o',j,D⟩:=I.cell x c hc
   rw[y,Y]at j
   cases j
   rw[hd]at D
   cases D
  ·have:=hp p Z
   rw[y]at this
   exact absurd this (Nat.not_lt.mpr O)
theorem Ha{h':Heap}{U:Str→Option Value}{tk:Nat}(I:Inv X pins σ H s)(Y:h'.Ns X.env.locals U)(G:Heap.SameBut X.env.locals s.heap h'):Inv X pins (List.replicate σ.length none) H { s with heap:=h',toks:=tk }:=by
 have D:∀b o,X.s_0.heap.get? b=some o→b≠X.env.locals:=fun b o e=>md (lm (Heap.lt_size e) I.ok.above)
 refine⟨I.ok,I.os,I.bare,⟨fun b o e n L hx=>(G.2 b (D b o e)).trans (I.base.keep b o e n L hx),fun b o e n L hx=>?_,I.base.free,fun b o e hx=>?_,I.base.tups,I.base.frzs,I.base.tbls⟩,⟨U,Y,fun j y v' J O e3=>?_⟩,fun y c e=>?_,I.free,I.freeC,fun p Z=>?_,fun b ob e=>?_,by rw[List.length_replicate];exact I.len⟩
 ·obtain⟨sl,J⟩:=I.base.slot b o e n L hx
  exact⟨sl,(G.2 b (D b o e)).trans J⟩
 ·obtain⟨o',J⟩:=I.base.there b o e hx
  exact⟨o',(G.2 b (D b o e)).trans J⟩
 ·rw[List.getElem?_replicate]at O
  split at O<;>cases O
 ·obtain⟨S,z⟩:=I.cell y c e
  exact⟨S,z.sameBut G (I.Vw y c e)⟩
 ·obtain⟨e,n,ne,nf,dd⟩:=I.pin p Z
  exact⟨(G.2 p.1 ne).trans e,n,ne,nf,dd⟩
 ·refine(I.hok b ob e).stay (fun c S F q=>(G.2 c ?_).trans q) (fun _ q=>q) fun _ _ q=>q
  intro z
  rcases F with F | F
  ·rw[←F,z,I.free]at e
   cases e
  ·rw[z,I.free]at F
   cases F
noncomputable abbrev Vh(X:Cx)(e:Addr)(E:Value→Shared→Prop):Cx:={ X with A:=X.A.mark (some (.ref e)),calm:=false,xe:=E }
noncomputable abbrev Jp(X:Cx)(pn:List (Addr×Obj))(E:Value→Shared→Prop):Cx:={ X with xe:=E,pn:=pn }
theorem Jm(I:Inv X pins σ H s)(e:Addr)(E:Value→Shared→Prop):Inv (Vh X e E) pins σ H s :=
 ⟨⟨I.ok.mod,I.ok.kind,I.ok.glob,I.ok.blt,I.ok.above,I.ok.inj,I.ok.has,I.ok.cab,fun z=>Bool.noConfusion z,I.ok.frames,I.ok.stk,I.ok.exf,I.ok.bs,I.ok.bsz,I.ok.noex,I.ok.exfs,I.ok.qz,I.ok.frf⟩,I.os,I.bare,I.base,I.loc,I.cell,I.free,I.freeC,I.pin,I.hok,I.len⟩
theorem WX{E:Value→Shared→Prop}{hd:X.calm=true→X.A.handled=none}(I:Inv (Vh X e E) pins σ H s):Inv X pins σ H s :=
 ⟨⟨I.ok.mod,I.ok.kind,I.ok.glob,I.ok.blt,I.ok.above,I.ok.inj,I.ok.has,I.ok.cab,hd,I.ok.frames,I.ok.stk,I.ok.exf,I.ok.bs,I.ok.bsz,I.ok.noex,I.ok.exfs,I.ok.qz,I.ok.frf⟩,I.os,I.bare,I.base,I.loc,I.cell,I.free,I.freeC,I.pin,I.hok,I.len⟩
theorem Uk(I:Inv X pins σ H s)(E:Value→Shared→Prop):Inv (Jp X (X.pn++pins) E) [] σ H s :=
 ⟨⟨I.ok.mod,I.ok.kind,I.ok.glob,I.ok.blt,I.ok.above,I.ok.inj,I.ok.has,I.ok.cab,I.ok.hd,I.ok.frames,I.ok.stk,I.ok.exf,I.ok.bs,I.ok.bsz,I.ok.noex,I.ok.exfs,I.ok.qz,I.ok.frf⟩,I.os,I.bare,I.base,I.loc,I.cell,I.free,I.freeC,fun p j=>I.pin p (by rw[mh]at j;exact j),I.hok,I.len⟩
theorem zN{E:Value→Shared→Prop}{j:List (Addr×Obj)}(I:Inv (Jp X (X.pn++pins) E) j σ H s):Inv X pins σ H s :=
 ⟨⟨I.ok.mod,I.ok.kind,I.ok.glob,I.ok.blt,I.ok.above,I.ok.inj,I.ok.has,I.ok.cab,I.ok.hd,I.ok.frames,I.ok.stk,I.ok.exf,I.ok.bs,I.ok.bsz,I.ok.noex,I.ok.exfs,I.ok.qz,I.ok.frf⟩,I.os,I.bare,I.base,I.loc,I.cell,I.free,I.freeC,fun p z=>I.pin p (List.mem_append_left _ z),I.hok,I.len⟩
end
end XL
end
section
set_option linter.unusedVariables false
namespace XL
open PySem PySem.Spec PyProof.Rows L2
noncomputable def X3(K:PySem.W.Frag)(ta:TE):TE:=fun σ H Q=>ta σ H fun v H1=>∃x C d n,v=.ref x∧H1 x=some (RD x C d)∧H1 d=some (.xd [("number",.int n)])∧ux K C∧Q (.int n) H1
theorem SM{X:Cx}{e:Expr}{pos:Pos}{ta:TE}(he:PE X e ta)(hb:attributeBase e "number" X.env (eval e X.env)=eval e X.env):PE X (.Attribute e "number" pos) (X3 X.K ta):=by
 intro pins s σ H Q I h
 refine JL hb (cW (he pins s σ H _ I h) fun u s1 hz=>?_)
 obtain⟨v,H1,D,Y,x,C,d,n,ex,hx,hd,j,q⟩:=hz
 subst ex
 obtain rfl:u=Value.ref x:=Y
 obtain⟨⟨L,vs,h1,h2,h3,Z⟩,_,_⟩:=(show dq X.prog X.w H1 s1.heap x (RD x C d)from D.hok x _ hx)
 obtain⟨mA,F,z⟩:=(show dq X.prog X.w H1 s1.heap d (.xd [("number",.int n)])from D.hok d _ hd)
 have O:=z "number"
 rw[List.lookup_cons_self]at O
 obtain⟨u,hu,S⟩:=pF.some_of O
 obtain⟨t,rfl⟩:=(show ∃t,u=Value.int n t from S)
 obtain⟨od,G,U⟩:=yD F
 have nc:PySem.W.notCls L=true:=by
  unfold PySem.W.notCls
  obtain⟨_,_,dt,_⟩:=L
  cases dt<;>first | rfl | cases Z
 have J:PySem.W.InstAt s1.heap x L C (some od):=⟨h1,h2,nc,by rw[h3];exact G⟩
 refine Uo D.o5 J j.over j.ga j.gh (PySem.W.findObj_own j.hd j.nn rfl (by rw[U,hu])) rfl ?_
 exact⟨.int n,H1,D.tok _,⟨t,rfl⟩,q⟩
noncomputable def yR(K:PySem.W.Frag)(Rc:Addr)(D:Ends):XK:=fun c dd H=>∃C d n,c=.ref C∧dd=some d∧ux K C∧PySem.W.exmOne K (.ref C) (.ref Rc)=some true∧H d=some (.xd [("number",.int n)])∧∀l,H l=none→D.rt (.ref l) (upd H l (.lst [.int n]))
noncomputable def Zq(K:PySem.W.Frag)(Rc:Addr)(tb:XK→TS):TS:=fun D σ H=>tb (yR K Rc D) { D with nx:=fun _ _=>False } σ H
theorem Kv{X:Cx}{Rc:Addr}{body:List Stmt}{cn x:Str}{i:Nat}{p1 p2 p3 p4 p5 hp pos:Pos}{tb:XK→TS}(calm:X.calm=true)(hN:X.N.Nodup)(hi:X.N[i]?=some x)(j:X.env.scope.names.lookup x=some .local)(hg:Gl X cn)(hm:X.mg cn=some (.ref Rc))
  (S:X.stack=X.env::X.outer) (ax:X.env.frame=some X.env.locals)
  (Z:∀(pn:List (Addr×Obj))(xe:Value→Shared→Prop)(E:XK),Throws (Jp X pn xe) E→M4 (Jp X pn xe) body (tb E))
  (ai:∀e E,attributeBase (.Name x p4) "number" (Vh X e E).env (eval (.Name x p4) (Vh X e E).env)=eval (.Name x p4) (Vh X e E).env:=by intro _ _;rfl) (al:(cn==("__debug__" : Str))=false:=by decide) (ah:(x==("__debug__" : Str))=false:=by decide) (ae:(x==("__classdict__" : Str))=false:=by decide) :
  PS X (.Try body [.ExceptHandler (some (.Name cn p1)) (some x) [.Return (some (.List [.Attribute (.Name x p4) "number" p3] p2)) p5] hp] [] [] pos) (Zq X.K Rc tb):=by
 intro pins s σ H D I h
 refine wpAny_Try_except ?_
 refine wpAny_mono (Z (X.pn++pins) (fun v s1=>wpAny (model X.prog X.w) X.A (noteFrame v X.env) (fun _ s2=>wpAny (model X.prog X.w) X.A (setFlight v none) (fun _ s3 =>
   wpAny (model X.prog X.w) X.A (handleBy v X.env [.ExceptHandler (some (.Name cn p1)) (some x) [.Return (some (.List [.Attribute (.Name x p4) "number" p3] p2)) p5] hp]) (SP X pins D) X.xe s3) X.xe s2) X.xe s1)
  (yR X.K Rc D) ?_ [] s σ H _ (Uk I _) h) (fun f s1 q=>?_) fun _ _ z=>z
 ·-- an exception comes
  intro qs σ1 H1 s1 m e C d J ac ag F hE
  have O:=zN J
  have aC:Inv X pins σ1 H1 s1:=O
  obtain⟨as,g1,g2,g3,g4,g5,g6⟩:=F.ground (frs X.stack) O.pK
  have G:∀p∈X.pn++pins,p.1<m:=fun p hp=>ag p (List.mem_append_left _ hp)
  have L:=PySem.W.funFrames_hide O.stack fun env he b Z=>g1 b (List.mem_filterMap.mpr ⟨env,he,Z⟩)
  have frames:X.A.frames=some (X.env::X.outer):=by rw[←S];exact O.ok.frames
  rw[S]at L
  show wpAny _ _ (noteFrame (.ref e) X.env) _ _ _
  refine Je (base:=PySem.W.hideAll s1.heap as) frames L ax g5 (fun b o q=>PySem.W.of_hideAll _ q) (PySem.W.hideAll_none _ g2) fun h2 S2=>?_
  refine rZ (s:={ s1 with heap:=h2 }) S2 fun U S3=>?_
  rw[←S]at S3
  have I3:Inv X pins σ1 H1 { s1 with heap:=U }:=tX O F ac G g3 g4 g6 S3
  have F3:M6 m H1 U e C d:=F.HS O.hok (Nat.le_of_not_lt fun z=>by
   have:=F.new
   obtain⟨⟨oe,_,x1,_⟩,_,_⟩:=(show dq X.prog X.w H1 s1.heap e (RD e C d)from O.hok e _ F.ex)
   exact absurd (lm (lm z this) (Nat.le_of_lt (Heap.lt_size x1))) (Nat.lt_irrefl _)) S3
  obtain⟨C',d',n,e1,e2,hc,hx,hd,k⟩:=hE
  cases e1
  cases e2
  have J3:=Jm I3 e (fun _ _=>False)
  refine wpAny_handleBy_cons (codeAny_handlers_test (jQ (X:=Vh X e fun _ _=>False) J3 hg hm ?_ al)) (by intro q;cases q)
  obtain⟨oe,vs,x1,x2,x3,x4⟩:=(show dq X.prog X.w H1 U e (RD e C d)from I3.hok e _ F3.ex).1
  have LT:PySem.W.Looks (model X.prog X.w) U (typeOf (.ref e)) (.ref C):=x2▸(PySem.W.Looks.ld x1).andThen .now
  refine PySem.W.Looks.here (s:={ s1 with heap:=U }) (PySem.W.exm_one I3.o5 LT hx) ?_
  refine codeAny_handlers_suite_as ?_
  obtain⟨bs,k1,k2,k3,k4,k5,k6⟩:=F3.ground (frs X.stack) I3.pK
  have av:=PySem.W.funFrames_hide I3.stack fun env he b Z=>k1 b (List.mem_filterMap.mpr ⟨env,he,Z⟩)
  obtain⟨T,y1,y2,y3,y4,y5⟩:=S3.ex
  have again:∀(A':Around)(Q':Unit→Shared→Prop)(E':Value→Shared→Prop),(∀h4,Inv X pins σ1 H1 { s1 with heap:=h4 }→Q' () { s1 with heap:=h4 })→wpAny (model X.prog X.w) A' (setFlight (.ref e) none) Q' E' { s1 with heap:=U }:=fun A' Q' E' hq=>by
   refine rZ (s:={ s1 with heap:=U }) (base:=PySem.W.hideAll s1.heap as) (h0:=s1.heap) S3 fun h4 S4=>hq h4 ?_
   exact tX O F ac G g3 g4 g6 S4
  refine again _ _ _ fun h4 I4=>?_
  have J4:=Jm I4 e (fun _ _=>False)
  refine pJ (X:=Vh X e fun _ _=>False) (i:=i) (v:=.ref e) J4 hN hi (.inl j) rfl (fun s5 J5=>?_) (.inr j)
  have body:M4 (Vh X e fun _ _=>False) [.Return (some (.List [.Attribute (.Name x p4) "number" p3] p2)) p5] _:=ak (aB (b8 (aa (SM (Pz (i:=i) hi (.inl j) ah ae) (ai e _)) aq)))
  have hiσ:i<σ1.length:=by rw[I4.len];exact(lf.mp hi).1
  refine wpAny_mono (body pins s5 (σ1.set i (some (.ref e))) H1 { nx:=fun _ _=>False,rt:=D.rt } J5 ⟨_,List.getElem?_set_self hiσ,e,C,d,n,rfl,F.ex,hd,hc,by show 1≤sizeLine;decide,fun l hl=>k l hl⟩) (fun f s6 Y=>?_) fun _ _ z=>False.elim z
  cases f with
  | next=>obtain⟨_,_,_,z⟩:=Y;exact False.elim z
  | brk=>obtain⟨_,_,_,z⟩:=Y;exact False.elim z
  | cont=>obtain⟨_,_,_,z⟩:=Y;exact False.elim z
  | ret u =>
   obtain⟨v,σ6,H6,J6,rv,Y⟩:=Y
   have I6:Inv X pins σ6 H6 s6:=WX (hd:=I.ok.hd) J6
   obtain⟨m6,ay,_⟩:=id I6.loc
   refine wpAny_nameGoes j ay (by rw[I6.ok.kind];rfl) fun h7 m7 aw af=>?_
   exact⟨v,_,H6,Ha I6 aw af,rv,Y⟩
 ·-- no exception
  cases f with
  | next=>obtain⟨_,_,_,z⟩:=q;exact False.elim z
  | brk=>obtain⟨σ',H',J,z⟩:=q;exact⟨σ',H',zN J,z⟩
  | cont=>obtain⟨σ',H',J,z⟩:=q;exact⟨σ',H',zN J,z⟩
  | ret u=>obtain⟨v,σ',H',J,r,z⟩:=q;exact⟨v,σ',H',zN J,r,z⟩
end XL
end
section
namespace MX
open Vbdeaa (Exp Exps Ins Code)
open Vbdeam (plain orParts andParts ifParts jumpOf isOne isZeroIns isTruthIns parse)
inductive Run (n:Nat):Code→List Exp→Exp→Prop
 | done (e:Exp):Run n [] [e] e
 | plain {i:Ins} {r:Code} {st t:List Exp} {e:Exp}:plain n i st=some t→Run n r t e→Run n (i::r) st e
 | or_ {a:Exp} {st:List Exp} {k:Nat} {r b rest:Code} {y e:Exp}:orParts k r=some (b,rest)→Run n b [] y→Run n rest (.or a y::st) e→Run n (.zero k::r) (a::st) e
 | and_ {a:Exp} {st:List Exp} {k:Nat} {r b rest:Code} {y e:Exp}:andParts k r=some (b,rest)→Run n b [] y→Run n rest (.and a y::st) e→Run n (.zero k::r) (a::st) e
 | if_ {a:Exp} {st:List Exp} {k:Nat} {r x y rest:Code} {u v e:Exp}:ifParts k r=some (x,y,rest)→Run n x [] u→Run n y [] v→Run n rest (.cond a u v::st) e→Run n (.zero k::r) (a::st) e
theorem iD(n k:Nat)(st:List Exp):plain n (.zero k) st=none:=by
 unfold Vbdeam.plain
 split<;>simp_all
theorem jO(n k:Nat)(st:List Exp):plain n (.jump k) st=none:=by
 unfold Vbdeam.plain
 split<;>simp_all
theorem iY(n:Nat)(st:List Exp):plain n .truth st=none:=by
 unfold Vbdeam.plain
 split<;>simp_all
theorem tQ{n k:Nat}{i:Ins}{r:Code}{st:List Exp}(h:∀m,i≠.zero m):parse n (k+1) (i::r) st=(plain n i st).bind fun t=>parse n k r t:=by
 cases i with
 | zero m=>exact absurd rfl (h m)
 | push q=>show(match plain n (.push q) st with | some t=>parse n k r t | none=>none)=_;cases plain n (.push q) st<;>rfl
 | arg q=>show(match plain n (.arg q) st with | some t=>parse n k r t | none=>none)=_;cases plain n (.arg q) st<;>rfl
 | var q=>show(match plain n (.var q) st with | some t=>parse n k r t | none=>none)=_;cases plain n (.var q) st<;>rfl
 | un q=>show(match plain n (.un q) st with | some t=>parse n k r t | none=>none)=_;cases plain n (.un q) st<;>rfl
 | bin q=>show(match plain n (.bin q) st with | some t=>parse n k r t | none=>none)=_;cases plain n (.bin q) st<;>rfl
 | jump q=>show(match plain n (.jump q) st with | some t=>parse n k r t | none=>none)=_;cases plain n (.jump q) st<;>rfl
 | table q=>show(match plain n (.table q) st with | some t=>parse n k r t | none=>none)=_;cases plain n (.table q) st<;>rfl
 | call q j=>show(match plain n (.call q j) st with | some t=>parse n k r t | none=>none)=_;cases plain n (.call q j) st<;>rfl
 | truth=>show(match plain n .truth st with | some t=>parse n k r t | none=>none)=_;cases plain n .truth st<;>rfl
 | best q=>show(match plain n (.best q) st with | some t=>parse n k r t | none=>none)=_;cases plain n (.best q) st<;>rfl
theorem gK{n:Nat}:∀{k:Nat}{c:Code}{st:List Exp}{e:Exp},parse n k c st=some e→Run n c st e:=by
 intro k
 induction k with
 | zero=>intro c st e h;rw[parse]at h;cases h
 | succ k j =>
  intro c st e h
  cases c with
  | nil =>
   match st,h with
   | [x],h=>rw[parse]at h;cases h;exact .done e
   | [],h=>cases h
   | x::y::s,h=>cases h
  | cons i r =>
   by_cases hz:∃m,i=.zero m
   ·obtain⟨m,rfl⟩:=hz
    match st,h with
    | [],h=>rw[parse]at h;cases h
    | a::st,h =>
     rw[parse]at h
     split at h
     ·rename_i J h1
      cases h
      split at h1
      ·rename_i b rest F
       obtain⟨y,G,D⟩:=lI.mp h1
       exact .or_ F (j G) (j D)
      ·cases h1
     ·split at h
      ·rename_i J h1
       cases h
       split at h1
       ·rename_i b rest F
        obtain⟨y,G,D⟩:=lI.mp h1
        exact .and_ F (j G) (j D)
       ·cases h1
      ·split at h
       ·rename_i x y rest F
        obtain⟨u,L,h2⟩:=lI.mp h
        obtain⟨v,S,D⟩:=lI.mp h2
        exact .if_ F (j L) (j S) (j D)
       ·cases h
   ·rw[tQ (fun m z=>hz ⟨m,z⟩)]at h
    obtain⟨t,O,D⟩:=lI.mp h
    exact .plain O (j D)
structure Ch where
 cond:Exp
 start:Nat
 middle:Nat
 end_:Nat
 first:Option Exp
 below:List Exp
structure MS where
 pos:Nat
 cur:List Exp
 chs:List Ch
noncomputable def Ch.limit(x:Ch):Nat:=match x.first with
 | none=>x.middle-1
 | some _=>x.end_
noncomputable def limitOf(c:Code):List Ch→Nat
 | []=>c.length
 | x::_=>x.limit
noncomputable def isAnd(c:Code)(x:Ch):Bool:=decide (x.end_=x.middle+1)&&(c[x.middle]?).any isZeroIns
noncomputable def xJ(c:Code)(x:Ch):Bool:=decide (x.middle=x.start+3)&&(c[x.start+1]?).any isOne
noncomputable def settle(p:Nat):List Exp→List Ch→Option MS
 | cur,[]=>some ⟨p,cur,[]⟩
 | cur,x::r=>if p=x.end_ then(match cur,x.first with
  | [e],some f=>settle p (.cond x.cond f e::x.below) r
  | _,_=>none)else some ⟨p,cur,x::r⟩
noncomputable def nine(c:Code)(s:MS):Option MS:=match s.cur,s.chs with
 | [e],x::r=>match x.first with
  | none=>if isAnd c x=true∧s.pos+2=x.middle then some ⟨x.end_,.and x.cond e::x.below,r⟩else none
  | some _=>if xJ c x=true∧s.pos+1=x.end_ then some ⟨x.end_,.or x.cond e::x.below,r⟩else none
 | _,_=>none
noncomputable def jump(s:MS):Option MS:=match s.cur,s.chs with
 | [e],x::r=>if s.pos+1=x.middle then some ⟨s.pos+1,[],{ x with first:=some e }::r⟩else none
 | _,_=>none
noncomputable def begin_(c:Code)(k:Nat)(s:MS):Option MS:=match s.cur with
 | []=>none
 | a::st=>match(if limitOf c s.chs<s.pos+1+k then none else(c[s.pos+k]?).bind jumpOf)with
  | none=>none
  | some m=>if limitOf c s.chs<s.pos+1+k+m then none else some ⟨s.pos+1,[],⟨a,s.pos,s.pos+1+k,s.pos+1+k+m,none,st⟩::s.chs⟩
noncomputable def core(n:Nat)(c:Code)(i:Ins)(s:MS):Option MS:=match i with
 | .zero k=>begin_ c k s
 | .jump _=>jump s
 | .truth=>nine c s
 | i=>(plain n i s.cur).map fun t=>⟨s.pos+1,t,s.chs⟩
noncomputable def step(n:Nat)(c:Code)(s:MS):Option MS:=match c[s.pos]? with
 | none=>none
 | some i=>(core n c i s).bind fun t=>settle t.pos t.cur t.chs
inductive Reach (n:Nat) (c:Code):MS→MS→Prop
 | refl (s:MS):Reach n c s s
 | step {s t u:MS}:step n c s=some t→Reach n c t u→Reach n c s u
theorem Reach.trans{n:Nat}{c:Code}{s t u:MS}(h:Reach n c s t)(g:Reach n c t u):Reach n c s u:=by
 induction h with
 | refl=>exact g
 | step a _ j=>exact .step a (j g)
noncomputable def At(c:Code)(p:Nat)(b:Code):Prop:=∀j,j<b.length→c[p+j]?=b[j]?
theorem At.tail{c:Code}{p:Nat}{i:Ins}{b:Code}(h:At c p (i::b)):At c (p+1) b:=fun j z=>by
 have:=h (j+1) (by simp;assumption)
 rw[mE]at this
 rw[←this]
 congr 1
 lia
theorem At.head{c:Code}{p:Nat}{i:Ins}{b:Code}(h:At c p (i::b)):c[p]?=some i:=by
 have:=h 0 (by simp)
 simpa using this
theorem At.take{c:Code}{p:Nat}{b:Code}(h:At c p b)(k:Nat):At c p (b.take k):=fun j z=>by
 rw[lp]at z
 rw[h j (by lia),List.getElem?_take,mr (by lia)]
theorem At.drop{c:Code}{p:Nat}{b:Code}(h:At c p b)(k:Nat):At c (p+k) (b.drop k):=fun j z=>by
 rw[mM]at z
 rw[List.getElem?_drop,Nat.add_assoc]
 exact h (k+j) (by lia)
end MX
end
section
namespace MX
open Vbdeaa (Exp Exps Ins Code)
open Vbdeam (plain orParts andParts ifParts jumpOf isOne isZeroIns isTruthIns parse)
theorem Dd{i:Ins}(h:isOne i=true):i=.push (1,1):=by
 cases i with
 | push q=>rw[show q=(1,1)from by simpa[isOne]using h]
 | _=>cases h
theorem isZero_eq{i:Ins}(h:isZeroIns i=true):i=.push (0,1):=by
 cases i with
 | push q=>rw[show q=(0,1)from by simpa[isZeroIns]using h]
 | _=>cases h
theorem wz{i:Ins}(h:isTruthIns i=true):i=.truth:=by
 cases i with
 | truth=>rfl
 | _=>cases h
theorem yG{i:Ins}{m:Nat}(h:jumpOf i=some m):i=.jump m:=by
 cases i with
 | jump q=>cases h;rfl
 | _=>cases h
theorem any_eq{o:Option Ins}{f:Ins→Bool}(h:o.any f=true):∃i,o=some i∧f i=true:=by
 cases o with
 | none=>cases h
 | some i=>exact⟨i,rfl,h⟩
theorem nO{o:Option Ins}{m:Nat}(h:o.bind jumpOf=some m):o=some (.jump m):=by
 cases o with
 | none=>cases h
 | some i=>rw[yG (show jumpOf i=some m from h)]
theorem Gm{k:Nat}{r b rest:Code}(h:orParts k r=some (b,rest)):∃m r2,r=.push (1,1) :: .jump m::r2∧k=2∧1≤m∧m≤r2.length∧r2[m-1]?=some .truth∧b=r2.take (m-1)∧rest=r2.drop m:=by
 unfold Vbdeam.orParts at h
 split at h
 ·rename_i one j r2
  split at h
  ·rename_i m z
   split at h
   ·rename_i D
    obtain⟨h1,h2,J,F,G⟩:=D
    obtain⟨i,hi,L⟩:=any_eq G
    cases h
    rw[Dd h2,yG z]
    exact⟨m,r2,rfl,h1,J,F,by rw[hi,wz L],rfl,rfl⟩
   ·cases h
  ·cases h
 ·cases h
theorem Yt{m:Nat}{r2:Code}(h1:1≤m)(h2:m≤r2.length)(j:r2[m-1]?=some .truth):orParts 2 (.push (1,1) :: .jump m::r2)=some (r2.take (m-1),r2.drop m):=by
 unfold Vbdeam.orParts
 simp only[jumpOf]
 rw[mr ⟨trivial,by decide,h1,h2,by rw[j];rfl⟩]
theorem Am{k:Nat}{r b rest:Code}(h:andParts k r=some (b,rest)):2≤k∧k+1≤r.length∧r[k-2]?=some .truth∧r[k-1]?=some (.jump 1)∧r[k]?=some (.push (0,1))∧b=r.take (k-2)∧rest=r.drop (k+1):=by
 unfold Vbdeam.andParts at h
 split at h
 ·rename_i G
  obtain⟨h1,h2,L,F,J⟩:=G
  obtain⟨i,hi,z⟩:=any_eq L
  obtain⟨j,D,hz⟩:=any_eq J
  cases h
  exact⟨h1,h2,by rw[hi,wz z],nO F,by rw[D,isZero_eq hz],rfl,rfl⟩
 ·cases h
theorem Xi{k:Nat}{r:Code}(h1:2≤k)(h2:k+1≤r.length)(D:r[k-2]?=some .truth)(j:r[k-1]?=some (.jump 1))(z:r[k]?=some (.push (0,1))):andParts k r=some (r.take (k-2),r.drop (k+1)):=by
 unfold Vbdeam.andParts
 rw[mr ⟨h1,h2,by rw[D];rfl,by rw[j];rfl,by rw[z];rfl⟩]
theorem Hd{k:Nat}{r x y rest:Code}(h:ifParts k r=some (x,y,rest)):∃m,k≠0∧r[k-1]?=some (.jump m)∧k+m≤r.length∧x=r.take (k-1)∧y=(r.drop k).take m∧rest=r.drop (k+m):=by
 unfold Vbdeam.ifParts at h
 split at h
 ·cases h
 ·rename_i D
  split at h
  ·rename_i m z
   split at h
   ·rename_i j
    cases h
    exact⟨m,D,nO z,j,rfl,rfl,rfl⟩
   ·cases h
  ·cases h
theorem YG{k m:Nat}{r:Code}(h1:k≠0)(h2:r[k-1]?=some (.jump m))(j:k+m≤r.length):ifParts k r=some (r.take (k-1),(r.drop k).take m,r.drop (k+m)):=by
 unfold Vbdeam.ifParts
 rw[ml h1,h2]
 simp only[Option.bind_some,jumpOf]
 rw[mr j]
theorem cu{p:Nat}{st:List Exp}{chs:List Ch}(h:∀x r,chs=x::r→p≠x.end_):settle p st chs=some ⟨p,st,chs⟩:=by
 cases chs with
 | nil=>rfl
 | cons x r =>
  unfold settle
  rw[ml (h x r rfl)]
theorem wQ{n:Nat}{c:Code}{i:Ins}{s:MS}{t:List Exp}(h:plain n i s.cur=some t):core n c i s=some ⟨s.pos+1,t,s.chs⟩:=by
 cases i with
 | zero k=>rw[iD]at h;cases h
 | jump k=>rw[jO]at h;cases h
 | truth=>rw[iY]at h;cases h
 | _=>unfold core;simp only;rw[h];rfl
theorem ik{n:Nat}{c:Code}{s t u:MS}{i:Ins}(hi:c[s.pos]?=some i)(z:core n c i s=some t)(j:settle t.pos t.cur t.chs=some u):step n c s=some u:=by
 unfold step
 rw[hi]
 simp only
 rw[z]
 exact j
theorem sim{n:Nat}{b:Code}{st:List Exp}{e:Exp}(h:Run n b st e):∀(c:Code)(p:Nat)(chs:List Ch),At c p b→p+b.length≤limitOf c chs→(∀x r,chs=x::r→x.limit≤x.end_)→∀t,settle (p+b.length) [e] chs=some t→∃s,settle p st chs=some s∧Reach n c s t:=by
 induction h with
 | done e=>intro c p chs _ _ _ t F;exact⟨t,F,.refl t⟩
 | @plain i r st t' e S hr ih =>
  intro c p chs G O hx t F
  rw[io]at O F
  have D:settle p st chs=some ⟨p,st,chs⟩:=cu fun x q eq=>by
   have:=hx x q eq
   subst eq
   have:limitOf c (x::q)=x.limit:=rfl
   lia
  obtain⟨s2,h2,r2⟩:=ih c (p+1) chs G.tail (by lia) hx t (by rw[show p+1+r.length=p+(r.length+1) by lia];exact F)
  exact⟨_,D,.step (ik (s:=⟨p,st,chs⟩) (t:=⟨p+1,t',chs⟩) G.head (wQ (s:=⟨p,st,chs⟩) S) h2) r2⟩
 | @or_ a st k r b rest y e S hb hr L j =>
  intro c p chs G O hx t F
  obtain⟨m,r2,rfl,rfl,ay,ax,ae,rfl,rfl⟩:=Gm S
  simp only[io,mM]at O F j
  have D:settle p (a::st) chs=some ⟨p,a::st,chs⟩:=cu fun x q eq=>by
   have:=hx x q eq
   subst eq
   have:limitOf c (x::q)=x.limit:=rfl
   lia
  have h1:=G.tail
  have h2:=h1.tail
  have h3:=h2.tail
  have g1:=h1.head
  have g2:=h2.head
  have av:∀(f:Option Exp)(x:Ch)(q:List Ch),((⟨a,p,p+3,p+3+m,f,st⟩:Ch)::chs)=x::q→x.limit≤x.end_:=fun f x q eq=>by
   cases eq
   cases f<;>simp only[Ch.limit]<;>lia
  have s1:step n c ⟨p,a::st,chs⟩=some ⟨p+1,[],⟨a,p,p+3,p+3+m,none,st⟩::chs⟩:=by
   refine ik (i:=.zero 2) G.head (t:=⟨p+1,[],⟨a,p,p+3,p+3+m,none,st⟩::chs⟩) ?_ (cu fun x q eq=>by cases eq;simp only;lia)
   unfold core begin_
   simp only
   rw[ml (by lia),show p+2=p+1+1 by rfl,g2]
   simp only[Option.bind_some,jumpOf]
   rw[ml (by lia)]
  have s2:step n c ⟨p+1,[],⟨a,p,p+3,p+3+m,none,st⟩::chs⟩=some ⟨p+2,[.num (1,1)],⟨a,p,p+3,p+3+m,none,st⟩::chs⟩ :=
   ik (i:=.push (1,1)) g1 (t:=⟨p+2,[.num (1,1)],⟨a,p,p+3,p+3+m,none,st⟩::chs⟩) (wQ (s:=⟨p+1,[],⟨a,p,p+3,p+3+m,none,st⟩::chs⟩) (by unfold Vbdeam.plain;simp only;rw[mr (by decide +kernel)])) (cu fun x q eq=>by cases eq;simp only;lia)
  have s3:step n c ⟨p+2,[.num (1,1)],⟨a,p,p+3,p+3+m,none,st⟩::chs⟩=some ⟨p+3,[],⟨a,p,p+3,p+3+m,some (.num (1,1)),st⟩::chs⟩:=by
   refine ik (i:=.jump m) g2 (t:=⟨p+3,[],⟨a,p,p+3,p+3+m,some (.num (1,1)),st⟩::chs⟩) ?_ (cu fun x q eq=>by cases eq;simp only;lia)
   unfold core jump
   simp only
   rw[mr trivial]
  have U:(r2.take (m-1)).length=m-1:=by rw[lp];lia
  obtain⟨u,J,ru⟩:=L c (p+3) (⟨a,p,p+3,p+3+m,some (.num (1,1)),st⟩::chs) (h3.take _) (by rw[U];simp only[limitOf,Ch.limit];lia) (av _) ⟨p+2+m,[y],⟨a,p,p+3,p+3+m,some (.num (1,1)),st⟩::chs⟩ (by rw[U,show p+3+(m-1)=p+2+m by lia];exact cu fun x q eq=>by cases eq;simp only;lia)
  rw[cu (fun x q eq=>by cases eq;simp only;lia)]at J
  cases J
  obtain⟨v,Z,Y⟩:=j c (p+3+m) chs (h3.drop m) (by lia) hx t (by rw[show p+3+m+(r2.length-m)=p+(r2.length+1+1+1) by lia];exact F)
  have s4:step n c ⟨p+2+m,[y],⟨a,p,p+3,p+3+m,some (.num (1,1)),st⟩::chs⟩=some v:=by
   have gt:c[p+2+m]?=some .truth:=by
    have:=h3 (m-1) (by lia)
    rw[ae]at this
    rw[←this]
    congr 1
    lia
   refine ik (i:=.truth) gt (t:=⟨p+3+m,.or a y::st,chs⟩) ?_ Z
   unfold core nine
   simp only
   rw[mr ⟨by unfold xJ;simp only;rw[g1];simp[isOne],by lia⟩]
  exact⟨_,D,.step s1 (.step s2 (.step s3 (ru.trans (.step s4 Y))))⟩
 | @and_ a st k r b rest y e S hb hr L j =>
  intro c p chs G O hx t F
  obtain⟨aC,ah,ai,al,ac,rfl,rfl⟩:=Am S
  simp only[io,mM]at O F j
  have D:settle p (a::st) chs=some ⟨p,a::st,chs⟩:=cu fun x q eq=>by
   have:=hx x q eq
   subst eq
   have:limitOf c (x::q)=x.limit:=rfl
   lia
  have h1:=G.tail
  have gj:c[p+k]?=some (.jump 1):=by
   have:=h1 (k-1) (by lia)
   rw[al]at this
   rw[←this]
   congr 1
   lia
  have gz:c[p+1+k]?=some (.push (0,1)):=by
   have:=h1 k (by assumption)
   rw[ac]at this
   exact this
  have gt:c[p+1+(k-2)]?=some .truth:=by
   have:=h1 (k-2) (by lia)
   rw[ai]at this
   exact this
  have s1:step n c ⟨p,a::st,chs⟩=some ⟨p+1,[],⟨a,p,p+1+k,p+1+k+1,none,st⟩::chs⟩:=by
   refine ik (i:=.zero k) G.head (t:=⟨p+1,[],⟨a,p,p+1+k,p+1+k+1,none,st⟩::chs⟩) ?_ (cu fun x q eq=>by cases eq;simp only;lia)
   unfold core begin_
   simp only
   rw[ml (by lia),gj]
   simp only[Option.bind_some,jumpOf]
   rw[ml (by lia)]
  have U:(r.take (k-2)).length=k-2:=by rw[lp];lia
  obtain⟨u,J,ru⟩:=L c (p+1) (⟨a,p,p+1+k,p+1+k+1,none,st⟩::chs) (h1.take _) (by rw[U];simp only[limitOf,Ch.limit];lia) (fun x q eq=>by cases eq;simp only[Ch.limit];lia) ⟨p+1+(k-2),[y],⟨a,p,p+1+k,p+1+k+1,none,st⟩::chs⟩ (by rw[U];exact cu fun x q eq=>by cases eq;simp only;lia)
  rw[cu (fun x q eq=>by cases eq;simp only;lia)]at J
  cases J
  obtain⟨v,Z,Y⟩:=j c (p+1+k+1) chs (by rw[show p+1+k+1=p+1+(k+1) by lia];exact h1.drop (k+1)) (by lia) hx t (by rw[show p+1+k+1+(r.length-(k+1))=p+(r.length+1) by lia];exact F)
  have s4:step n c ⟨p+1+(k-2),[y],⟨a,p,p+1+k,p+1+k+1,none,st⟩::chs⟩=some v:=by
   refine ik (i:=.truth) gt (t:=⟨p+1+k+1,.and a y::st,chs⟩) ?_ Z
   unfold core nine
   simp only
   rw[mr ⟨by unfold isAnd;simp only;rw[gz];simp[isZeroIns],by lia⟩]
  exact⟨_,D,.step s1 (ru.trans (.step s4 Y))⟩
 | @if_ a st k r x y rest u' v' e S aw hy hr ag af j =>
  intro c p chs G O hx t F
  obtain⟨m,ac,hj,ah,rfl,rfl,rfl⟩:=Hd S
  simp only[io,mM]at O F j
  have D:settle p (a::st) chs=some ⟨p,a::st,chs⟩:=cu fun x q eq=>by
   have:=hx x q eq
   subst eq
   have:limitOf c (x::q)=x.limit:=rfl
   lia
  have h1:=G.tail
  have gj:c[p+k]?=some (.jump m):=by
   have:=h1 (k-1) (by lia)
   rw[hj]at this
   rw[←this]
   congr 1
   lia
  have s1:step n c ⟨p,a::st,chs⟩=some ⟨p+1,[],⟨a,p,p+1+k,p+1+k+m,none,st⟩::chs⟩:=by
   refine ik (i:=.zero k) G.head (t:=⟨p+1,[],⟨a,p,p+1+k,p+1+k+m,none,st⟩::chs⟩) ?_ (cu fun x q eq=>by cases eq;simp only;lia)
   unfold core begin_
   simp only
   rw[ml (by lia),gj]
   simp only[Option.bind_some,jumpOf]
   rw[ml (by lia)]
  have lx:(r.take (k-1)).length=k-1:=by rw[lp];lia
  have ly:((r.drop k).take m).length=m:=by rw[lp,mM];lia
  obtain⟨u,J,ru⟩:=ag c (p+1) (⟨a,p,p+1+k,p+1+k+m,none,st⟩::chs) (h1.take _) (by rw[lx];simp only[limitOf,Ch.limit];lia) (fun x q eq=>by cases eq;simp only[Ch.limit];lia) ⟨p+k,[u'],⟨a,p,p+1+k,p+1+k+m,none,st⟩::chs⟩ (by rw[lx,show p+1+(k-1)=p+k by lia];exact cu fun x q eq=>by cases eq;simp only;lia)
  rw[cu (fun x q eq=>by cases eq;simp only;lia)]at J
  cases J
  obtain⟨v,Z,Y⟩:=j c (p+1+k+m) chs (by rw[show p+1+k+m=p+1+(k+m) by lia];exact h1.drop (k+m)) (by lia) hx t (by rw[show p+1+k+m+(r.length-(k+m))=p+(r.length+1) by lia];exact F)
  obtain⟨z,hz,rz⟩:=af c (p+1+k) (⟨a,p,p+1+k,p+1+k+m,some u',st⟩::chs) ((h1.drop k).take m) (by rw[ly];simp only[limitOf,Ch.limit];lia) (fun x q eq=>by cases eq;simp only[Ch.limit];lia) v (by rw[ly];unfold settle;simp only[if_true];exact Z)
  have s4:step n c ⟨p+k,[u'],⟨a,p,p+1+k,p+1+k+m,none,st⟩::chs⟩=some z:=by
   refine ik (i:=.jump m) gj (t:=⟨p+1+k,[],⟨a,p,p+1+k,p+1+k+m,some u',st⟩::chs⟩) ?_ hz
   unfold core jump
   simp only
   rw[mr (by lia),show p+k+1=p+1+k by lia]
  exact⟨_,D,.step s1 (ru.trans (.step s4 (rz.trans Y)))⟩
end MX
end
section
namespace MX
open Vbdeaa (Exp Exps Ins Code)
open Vbdeam (plain orParts andParts ifParts jumpOf isOne isZeroIns isTruthIns parse)
theorem Ks{n:Nat}{c:Code}{s t u:MS}(h:Reach n c s t)(g:Reach n c s u)(j:step n c t=none)(z:step n c u=none):t=u:=by
 induction h with
 | refl s =>
  cases g with
  | refl=>rfl
  | step a _=>rw[j]at a;cases a
 | step a _ D =>
  cases g with
  | refl=>rw[z]at a;cases a
  | step b g'=>rw[a]at b;cases b;exact D g' j
theorem Bh{n:Nat}{c:Code}{e:Exp}:step n c ⟨c.length,[e],[]⟩=none:=by
 unfold step
 simp
theorem UV(b:Code):At b 0 b:=fun j _=>by rw[Nat.zero_add]
theorem m9{n:Nat}{b:Code}{st:List Exp}{e:Exp}(h:Run n b st e):Reach n b ⟨0,st,[]⟩ ⟨b.length,[e],[]⟩:=by
 obtain⟨s,j,r⟩:=sim h b 0 [] (UV b) (by simp[limitOf]) (fun x r z=>by cases z) ⟨b.length,[e],[]⟩ (by rw[Nat.zero_add];rfl)
 cases j
 exact r
theorem vO{n:Nat}{b:Code}{st:List Exp}{e j:Exp}(h:Run n b st e)(g:Run n b st j):e=j:=by
 have:=Ks (m9 h) (m9 g) Bh Bh
 injection this with _ h2 _
 injection h2
theorem Km{n:Nat}{c:Code}{st:List Exp}{e:Exp}(h:Run n c st e):∀k,c.length<k→parse n k c st=some e:=by
 induction h with
 | done e =>
  intro k O
  obtain⟨k,rfl⟩:∃j,k=j+1:=⟨k-1,by lia⟩
  rfl
 | @plain i r st t e D Y ih =>
  intro k O
  obtain⟨k,rfl⟩:∃j,k=j+1:=⟨k-1,by lia⟩
  rw[tQ (fun m z=>by rw[z,iD]at D;cases D),D]
  exact ih k (by simp at O;assumption)
 | @or_ a st m r b rest y e D hb Y U G =>
  intro k O
  obtain⟨k,rfl⟩:∃j,k=j+1:=⟨k-1,by lia⟩
  have L:b.length<k∧rest.length<k:=by
   obtain⟨m',r2,rfl,_,h1,h2,_,rfl,rfl⟩:=Gm D
   simp only[io,lp,mM]at O ⊢
   lia
  rw[parse,D]
  simp only[U k L.1,Option.bind_some,G k L.2]
 | @and_ a st m r b rest y e D hb Y U G =>
  intro k O
  obtain⟨k,rfl⟩:∃j,k=j+1:=⟨k-1,by lia⟩
  have L:b.length<k∧rest.length<k:=by
   obtain⟨h1,h2,_,_,_,rfl,rfl⟩:=Am D
   simp only[io,lp,mM]at O ⊢
   lia
  rw[parse]
  split
  ·rename_i e' h1
   split at h1
   ·rename_i b' F J
    obtain⟨y',hy,Z⟩:=lI.mp h1
    rw[vO (Run.or_ J (gK hy) (gK Z)) (Run.and_ D hb Y)]
   ·cases h1
  ·rw[D]
   simp only[U k L.1,Option.bind_some,G k L.2]
 | @if_ a st m r x y rest u v e D hx hy Y ae ac G =>
  intro k O
  obtain⟨k,rfl⟩:∃j,k=j+1:=⟨k-1,by lia⟩
  have L:x.length<k∧y.length<k∧rest.length<k:=by
   obtain⟨m',h1,h2,h3,rfl,rfl,rfl⟩:=Hd D
   simp only[io,lp,mM]at O ⊢
   lia
  rw[parse]
  split
  ·rename_i e' h1
   split at h1
   ·rename_i b' F J
    obtain⟨y',S,Z⟩:=lI.mp h1
    rw[vO (Run.or_ J (gK S) (gK Z)) (Run.if_ D hx hy Y)]
   ·cases h1
  ·split
   ·rename_i e' h1
    split at h1
    ·rename_i b' F J
     obtain⟨y',S,Z⟩:=lI.mp h1
     rw[vO (Run.and_ J (gK S) (gK Z)) (Run.if_ D hx hy Y)]
    ·cases h1
   ·rw[D]
    simp only[ae k L.1,Option.bind_some,ac k L.2.1,G k L.2.2]
theorem lu{n:Nat}{c:Code}{e:Exp}:Vbdeam.tree n c=some e↔Run n c [] e:=⟨fun h=>gK h,fun h=>Km h _ (Nat.lt_succ_self _)⟩
noncomputable def Chain(c:Code):Nat→List Ch→Prop
 | p,[]=>p≤c.length
 | p,x::r=>x.start<p∧(match x.first with
  | none=>p<x.middle
  | some _=>x.middle≤p∧p≤x.end_)∧x.start<x.middle∧x.middle≤x.end_∧c[x.middle-1]?=some (.jump (x.end_-x.middle))∧Chain c x.end_ r
structure WF (c:Code) (s:MS):Prop where
 chain:Chain c s.pos s.chs
 settled:∀x r,s.chs=x::r→s.pos≠x.end_
theorem Chain.le{c:Code}:∀{chs:List Ch}{p:Nat},Chain c p chs→p≤c.length
 | [],p,h=>h
 | x::r,p,h=>by
  obtain⟨h1,h2,G,D,F,z⟩:=h
  have:=Chain.le z
  cases j:x.first with
  | none=>rw[j]at h2;simp only at h2;lia
  | some f=>rw[j]at h2;simp only at h2;lia
theorem Chain.limit{c:Code}{chs:List Ch}{p:Nat}(h:Chain c p chs):p≤limitOf c chs∧limitOf c chs≤c.length:=by
 cases chs with
 | nil=>exact⟨h,i' _⟩
 | cons x r =>
  obtain⟨h1,h2,G,D,F,z⟩:=h
  have:=Chain.le z
  cases j:x.first with
  | none=>rw[j]at h2;simp only[limitOf,Ch.limit,j]at h2 ⊢;lia
  | some f=>rw[j]at h2;simp only[limitOf,Ch.limit,j]at h2 ⊢;lia
theorem uA(c:Code):WF c ⟨0,[],[]⟩:=⟨Nat.zero_le _,fun x r z=>by cases z⟩
theorem rn{c:Code}:∀{chs:List Ch}{p:Nat}{cur:List Exp}{t:MS},Chain c p chs→settle p cur chs=some t→WF c t∧t.pos=p
 | [],p,cur,t,h,e=>by cases e;exact⟨⟨h,fun x r z=>by cases z⟩,rfl⟩
 | x::r,p,cur,t,h,e=>by
  unfold settle at e
  split at e
  ·rename_i j
   split at e
   ·rename_i G f F
    have D:=h.2.2.2.2.2
    rw[←j]at D
    exact rn D e
   ·cases e
  ·rename_i j
   cases e
   exact⟨⟨h,fun y q z=>by cases z;exact j⟩,rfl⟩
theorem jZ{n:Nat}{c:Code}{s t:MS}{i:Ins}(w:WF c s)(hi:c[s.pos]?=some i)(h:core n c i s=some t):Chain c t.pos t.chs:=by
 have ac:s.pos<c.length:=(lf.mp hi).1
 have j:∀st,(∀m,i≠.jump m)→t=⟨s.pos+1,st,s.chs⟩→Chain c t.pos t.chs:=by
  rintro st S rfl
  have D:=w.chain
  show Chain c (s.pos+1) s.chs
  cases F:s.chs with
  | nil=>exact ac
  | cons x r =>
   rw[F]at D
   obtain⟨h1,h2,Z,Y,O,J⟩:=D
   have ne:=w.settled x r F
   refine⟨by lia,?_,Z,Y,O,J⟩
   cases U:x.first with
   | none =>
    rw[U]at h2
    simp only at h2 ⊢
    by_cases q:s.pos+1=x.middle
    ·rw[show x.middle-1=s.pos by lia,hi]at O
     exact absurd (Option.some.inj O) (S _)
    ·lia
   | some f=>rw[U]at h2;simp only at h2 ⊢;lia
 cases i with
 | zero k =>
  unfold core begin_ at h
  simp only at h
  split at h
  ·cases h
  ·rename_i a st L
   split at h
   ·cases h
   ·rename_i m hm
    split at h
    ·cases h
    ·rename_i G
     cases h
     split at hm
     ·cases hm
     ·have S:=nO hm
      have hk:k≠0:=fun z=>by
       subst z
       rw[Nat.add_zero,hi]at S
       cases S
      refine⟨Nat.lt_succ_self _,by simp only;lia,by simp only;lia,by simp only;lia,?_,?_⟩
      ·simp only
       rw[show s.pos+1+k-1=s.pos+k by lia,S,show s.pos+1+k+m-(s.pos+1+k)=m by lia]
      ·have D:=w.chain
       simp only
       cases F:s.chs with
       | nil=>rw[F]at G;simp only[limitOf]at G;show _≤c.length;lia
       | cons x r =>
        rw[F]at D G
        obtain⟨h1,h2,Z,Y,O,J⟩:=D
        refine⟨by lia,?_,Z,Y,O,J⟩
        simp only[limitOf,Ch.limit]at G
        cases U:x.first with
        | none=>rw[U]at h2 G;simp only at h2 G ⊢;lia
        | some f=>rw[U]at h2 G;simp only at h2 G ⊢;lia
 | jump k =>
  unfold core jump at h
  simp only at h
  split at h
  ·rename_i e x r L F
   split at h
   ·rename_i hp
    cases h
    have D:=w.chain
    rw[F]at D
    obtain⟨h1,h2,Z,Y,O,J⟩:=D
    exact⟨by simp only;lia,by simp only;lia,Z,Y,O,J⟩
   ·cases h
  ·cases h
 | truth =>
  unfold core nine at h
  simp only at h
  split at h
  ·rename_i e x r L F
   have D:=w.chain
   rw[F]at D
   have J:=D.2.2.2.2.2
   split at h
   ·split at h
    ·cases h;exact J
    ·cases h
   ·split at h
    ·cases h;exact J
    ·cases h
  ·cases h
 | push q=>unfold core at h;simp only at h;obtain⟨st,_,e⟩:=cr.mp h;exact j st (fun m z=>by cases z) e.symm
 | arg q=>unfold core at h;simp only at h;obtain⟨st,_,e⟩:=cr.mp h;exact j st (fun m z=>by cases z) e.symm
 | var q=>unfold core at h;simp only at h;obtain⟨st,_,e⟩:=cr.mp h;exact j st (fun m z=>by cases z) e.symm
 | un q=>unfold core at h;simp only at h;obtain⟨st,_,e⟩:=cr.mp h;exact j st (fun m z=>by cases z) e.symm
 | bin q=>unfold core at h;simp only at h;obtain⟨st,_,e⟩:=cr.mp h;exact j st (fun m z=>by cases z) e.symm
 | table q=>unfold core at h;simp only at h;obtain⟨st,_,e⟩:=cr.mp h;exact j st (fun m z=>by cases z) e.symm
 | call q q'=>unfold core at h;simp only at h;obtain⟨st,_,e⟩:=cr.mp h;exact j st (fun m z=>by cases z) e.symm
 | best q=>unfold core at h;simp only at h;obtain⟨st,_,e⟩:=cr.mp h;exact j st (fun m z=>by cases z) e.symm
theorem RV{n:Nat}{c:Code}{s t:MS}(w:WF c s)(h:step n c s=some t):WF c t:=by
 unfold step at h
 split at h
 ·cases h
 ·rename_i i hi
  obtain⟨u,j,z⟩:=lI.mp h
  exact(rn (jZ w hi j) z).1
theorem VF{c:Code}{s:MS}(w:WF c s)(h:¬s.pos<c.length):s.pos=c.length∧s.chs=[]:=by
 have j:=w.chain
 have F:=j.le
 refine⟨by lia,?_⟩
 cases D:s.chs with
 | nil=>rfl
 | cons x r =>
  rw[D]at j
  obtain⟨h1,h2,O,J,L,G⟩:=j
  have:=G.le
  have ne:=w.settled x r D
  cases z:x.first with
  | none=>rw[z]at h2;simp only at h2;lia
  | some f=>rw[z]at h2;simp only at h2;lia
end MX
end
section
namespace MX
open Vbdeaa (Exp Exps Ins Code)
open Vbdeam (plain orParts andParts ifParts jumpOf isOne isZeroIns isTruthIns parse)
noncomputable def seg(c:Code)(p q:Nat):Code:=(c.drop p).take (q-p)
theorem pP(c:Code)(p:Nat):seg c p p=[]:=by unfold seg;simp
theorem uH{c:Code}{p q j:Nat}:(seg c p q)[j]?=if j<q-p then c[p+j]? else none:=by
 unfold seg
 rw[List.getElem?_take,List.getElem?_drop]
theorem zr{c:Code}{p q:Nat}(h:q≤c.length):(seg c p q).length=q-p:=by
 unfold seg
 rw[lp,mM]
 lia
theorem jq{c:Code}{p q:Nat}{i:Ins}(hi:c[p]?=some i)(h:p<q):seg c p q=i::seg c (p+1) q:=by
 unfold seg
 have j:=(lf.mp hi)
 obtain⟨h1,h2⟩:=j
 rw[List.drop_eq_getElem_cons h1,h2,show q-p=q-(p+1)+1 by lia,List.take_succ_cons]
theorem pO{c:Code}{p q k:Nat}(h:p+k≤q):(seg c p q).take k=seg c p (p+k):=by
 unfold seg
 rw[List.take_take]
 congr 1
 lia
theorem pQ{c:Code}{p q k:Nat}:(seg c p q).drop k=seg c (p+k) q:=by
 unfold seg
 rw[List.drop_take,List.drop_drop]
 congr 1
 lia
noncomputable def Snd(n:Nat)(c:Code)(x:Ch)(G:List Exp→Prop)(f:Exp)(pos:Nat)(cur:List Exp):Prop :=
 (xJ c x=true∧pos+1≤x.end_∧c[x.end_-1]?=some .truth∧∃y,Run n (seg c pos (x.end_-1)) cur y∧G (.or x.cond y::x.below)) ∨
 (pos≤x.end_∧∃y,Run n (seg c pos x.end_) cur y∧G (.cond x.cond f y::x.below))
noncomputable def Good(n:Nat)(c:Code)(e:Exp):List Ch→Nat→List Exp→Prop
 | [],pos,cur=>pos≤c.length∧Run n (seg c pos c.length) cur e
 | x::r,pos,cur=>match x.first with
  | some f=>Snd n c x (fun st=>Good n c e r x.end_ st) f pos cur
  | none=>(isAnd c x=true∧pos+2≤x.middle∧c[x.middle-2]?=some .truth∧∃y,Run n (seg c pos (x.middle-2)) cur y∧Good n c e r x.end_ (.and x.cond y::x.below)) ∨
   (pos+1≤x.middle∧∃u,Run n (seg c pos (x.middle-1)) cur u∧Snd n c x (fun st=>Good n c e r x.end_ st) u x.middle [])
theorem nj{n:Nat}{c:Code}{e:Exp}{chs:List Ch}{p p2:Nat}{st D:List Exp}(hp:p≤p2)(U:Chain c p2 chs)(J:∀q z,p2≤q→q≤c.length→Run n (seg c p2 q) D z→Run n (seg c p q) st z)(g:Good n c e chs p2 D):Good n c e chs p st:=by
 cases chs with
 | nil=>exact⟨lS hp g.1,J _ _ g.1 (i' _) g.2⟩
 | cons x r =>
  obtain⟨h1,h2,h3,h4,h5,Z⟩:=U
  have Y:=Z.le
  unfold Good at g ⊢
  cases S:x.first with
  | none =>
   rw[S]at g
   simp only at g ⊢
   rcases g with⟨G,F,j,y,L,O⟩ | ⟨G,u,F,j⟩
   ·exact .inl ⟨G,by lia,j,y,J _ _ (by lia) (by lia) L,O⟩
   ·exact .inr ⟨by lia,u,J _ _ (by lia) (by lia) F,j⟩
  | some f =>
   rw[S]at g
   simp only at g ⊢
   rcases g with⟨G,F,j,y,L,O⟩ | ⟨G,y,F,j⟩
   ·exact .inl ⟨G,by lia,j,y,J _ _ (by lia) (by lia) L,O⟩
   ·exact .inr ⟨by lia,y,J _ _ (by assumption) (by assumption) F,j⟩
theorem tL{n:Nat}{c:Code}{e:Exp}:∀{chs:List Ch}{p:Nat}{cur:List Exp}{t:MS},settle p cur chs=some t→Good n c e t.chs t.pos t.cur→Good n c e chs p cur
 | [],p,cur,t,h,g=>by cases h;exact g
 | x::r,p,cur,t,h,g=>by
  unfold settle at h
  split at h
  ·rename_i j
   split at h
   ·rename_i z f D
    have:=tL h g
    unfold Good
    rw[D]
    simp only
    refine .inr ⟨Nat.le_of_eq j,z,by rw[j,pP];exact .done z,?_⟩
    rw[←j]
    exact this
   ·cases h
  ·cases h
   exact g
theorem Ml{n:Nat}{c:Code}{e:Exp}{s t:MS}{i:Ins}(w:WF c s)(hi:c[s.pos]?=some i)(h:core n c i s=some t)(g:Good n c e t.chs t.pos t.cur):Good n c e s.chs s.pos s.cur:=by
 have ae:=jZ w hi h
 have D:∀st,plain n i s.cur=some st→t=⟨s.pos+1,st,s.chs⟩→Good n c e s.chs s.pos s.cur:=by
  rintro st ai rfl
  refine nj (Nat.le_succ _) ae (fun q z hq _ U=>?_) g
  rw[jq hi (Nat.lt_of_succ_le hq)]
  exact .plain ai U
 cases i with
 | zero k =>
  unfold core begin_ at h
  simp only at h
  split at h
  ·cases h
  ·rename_i a st G
   split at h
   ·cases h
   ·rename_i m hm
    split at h
    ·cases h
    ·rename_i hl
     cases h
     split at hm
     ·cases hm
     ·have hj:=nO hm
      have hk:k≠0:=fun z=>by
       subst z
       rw[Nat.add_zero,hi]at hj
       cases hj
      have S:Chain c (s.pos+1+k+m) s.chs:=ae.2.2.2.2.2
      rw[G]
      unfold Good at g
      simp only at g
      have gj:∀q,s.pos+1+k≤q→(seg c (s.pos+1) q)[k-1]?=some (.jump m):=fun q hq=>by
       rw[uH,mr (by lia),show s.pos+1+(k-1)=s.pos+k by lia,hj]
      rcases g with⟨Z,a2,a3,y,a4,a5⟩ | ⟨Z,u,a2,a3⟩
      ·unfold isAnd at Z
       simp only[lj,mo]at Z
       obtain⟨b1,Y⟩:=Z
       obtain⟨j,af,hz⟩:=any_eq Y
       rw[isZero_eq hz]at af
       have al:m=1:=by lia
       subst al
       refine nj (by lia) S (fun q z hq L U=>?_) a5
       rw[jq hi (by lia)]
       have ha:=Xi (k:=k) (r:=seg c (s.pos+1) q) (by lia) (by rw[zr L];lia) (by rw[uH,mr (by lia),←a3];congr 1;lia) (gj q (by lia)) (by rw[uH,mr (by lia),af])
       rw[pO (by lia),pQ]at ha
       refine .and_ (y:=y) ha ?_ ?_
       ·rw[show s.pos+1+(k-2)=s.pos+1+k-2 by lia]
        exact a4
       ·exact U
      ·rcases a3 with⟨b1,Y,b3,y,b4,b5⟩ | ⟨b1,y,Y,b3⟩
       ·unfold xJ at b1
        simp only[lj,mo]at b1
        obtain⟨c1,c2⟩:=b1
        obtain⟨j,ac,ho⟩:=any_eq c2
        rw[Dd ho]at ac
        have av:k=2:=by lia
        subst av
        simp only at Y b3 b4 b5
        refine nj (by lia) S (fun q z hq L U=>?_) b5
        rw[jq hi (by lia),jq ac (by lia),jq (i:=.jump m) (by rw[←hj]) (by lia)]
        have ah:=Yt (m:=m) (r2:=seg c (s.pos+1+1+1) q) (by lia) (by rw[zr L];lia) (by rw[uH,mr (by lia),←b3];congr 1;lia)
        rw[pO (by lia),pQ]at ah
        refine .or_ (y:=y) ah ?_ ?_
        ·rw[show s.pos+1+1+1+(m-1)=s.pos+1+2+m-1 by lia]
         exact b4
        ·rw[show s.pos+1+1+1+m=s.pos+1+2+m by rfl]
         exact U
       ·simp only at b1 Y b3
        refine nj (by lia) S (fun q z hq L U=>?_) b3
        rw[jq hi (by lia)]
        have ag:=YG (k:=k) (m:=m) (r:=seg c (s.pos+1) q) hk (gj q (by lia)) (by rw[zr L];lia)
        rw[pO (by lia),pQ,pO (by assumption),pQ]at ag
        refine .if_ (u:=u) (v:=y) ag ?_ Y ?_
        ·rw[show s.pos+1+(k-1)=s.pos+1+k-1 by lia]
         exact a2
        ·rw[show s.pos+1+(k+m)=s.pos+1+k+m by lia]
         exact U
 | jump k =>
  unfold core jump at h
  simp only at h
  split at h
  ·rename_i F x r G hs
   split at h
   ·rename_i hp
    cases h
    have O:=w.chain
    rw[hs]at O
    obtain⟨h1,h2,h3,h4,h5,h6⟩:=O
    rw[hs,G]
    unfold Good at g ⊢
    simp only at g
    cases hf:x.first with
    | some f=>rw[hf]at h2;simp only at h2;lia
    | none =>
     simp only
     refine .inr ⟨Nat.le_of_eq hp,F,by rw[show x.middle-1=s.pos by lia,pP];exact .done F,?_⟩
     rw[←hp]
     rcases g with⟨Z,a2⟩ | g
     ·exact .inl ⟨Z,a2⟩
     ·exact .inr g
   ·cases h
  ·cases h
 | truth =>
  unfold core nine at h
  simp only at h
  split at h
  ·rename_i F x r G hs
   rw[hs,G]
   unfold Good
   split at h
   ·rename_i hf
    split at h
    ·rename_i O
     cases h
     rw[hf]
     simp only
     refine .inl ⟨O.1,Nat.le_of_eq O.2,by rw[←O.2];exact hi,F,by rw[show x.middle-2=s.pos by lia,pP];exact .done F,g⟩
    ·cases h
   ·rename_i f hf
    split at h
    ·rename_i O
     cases h
     rw[hf]
     simp only
     refine .inl ⟨O.1,Nat.le_of_eq O.2,by rw[←O.2];exact hi,F,by rw[show x.end_-1=s.pos by lia,pP];exact .done F,g⟩
    ·cases h
  ·cases h
 | push q=>unfold core at h;simp only at h;obtain⟨st,F,J⟩:=cr.mp h;exact D st F J.symm
 | arg q=>unfold core at h;simp only at h;obtain⟨st,F,J⟩:=cr.mp h;exact D st F J.symm
 | var q=>unfold core at h;simp only at h;obtain⟨st,F,J⟩:=cr.mp h;exact D st F J.symm
 | un q=>unfold core at h;simp only at h;obtain⟨st,F,J⟩:=cr.mp h;exact D st F J.symm
 | bin q=>unfold core at h;simp only at h;obtain⟨st,F,J⟩:=cr.mp h;exact D st F J.symm
 | table q=>unfold core at h;simp only at h;obtain⟨st,F,J⟩:=cr.mp h;exact D st F J.symm
 | call q q'=>unfold core at h;simp only at h;obtain⟨st,F,J⟩:=cr.mp h;exact D st F J.symm
 | best q=>unfold core at h;simp only at h;obtain⟨st,F,J⟩:=cr.mp h;exact D st F J.symm
theorem Rk{n:Nat}{c:Code}{s t:MS}{i:Ins}(w:WF c s)(hi:c[s.pos]?=some i)(h:core n c i s=some t):s.pos<t.pos:=by
 cases i with
 | zero k =>
  unfold core begin_ at h
  simp only at h
  split at h
  ·cases h
  ·split at h
   ·cases h
   ·split at h
    ·cases h
    ·cases h;exact Nat.lt_succ_self _
 | jump k =>
  unfold core jump at h
  simp only at h
  split at h
  ·split at h
   ·cases h;exact Nat.lt_succ_self _
   ·cases h
  ·cases h
 | truth =>
  unfold core nine at h
  simp only at h
  split at h
  ·rename_i z x r F G
   have D:=w.chain
   rw[G]at D
   obtain⟨h1,h2,U,L,S,O⟩:=D
   split at h
   ·split at h
    ·rename_i D;cases h;show s.pos<x.end_;lia
    ·cases h
   ·split at h
    ·rename_i D;cases h;show s.pos<x.end_;lia
    ·cases h
  ·cases h
 | push q=>unfold core at h;simp only at h;obtain⟨st,z,j⟩:=cr.mp h;cases j;exact Nat.lt_succ_self _
 | arg q=>unfold core at h;simp only at h;obtain⟨st,z,j⟩:=cr.mp h;cases j;exact Nat.lt_succ_self _
 | var q=>unfold core at h;simp only at h;obtain⟨st,z,j⟩:=cr.mp h;cases j;exact Nat.lt_succ_self _
 | un q=>unfold core at h;simp only at h;obtain⟨st,z,j⟩:=cr.mp h;cases j;exact Nat.lt_succ_self _
 | bin q=>unfold core at h;simp only at h;obtain⟨st,z,j⟩:=cr.mp h;cases j;exact Nat.lt_succ_self _
 | table q=>unfold core at h;simp only at h;obtain⟨st,z,j⟩:=cr.mp h;cases j;exact Nat.lt_succ_self _
 | call q J=>unfold core at h;simp only at h;obtain⟨st,z,j⟩:=cr.mp h;cases j;exact Nat.lt_succ_self _
 | best q=>unfold core at h;simp only at h;obtain⟨st,z,j⟩:=cr.mp h;cases j;exact Nat.lt_succ_self _
theorem jC{n:Nat}{c:Code}{s t:MS}(w:WF c s)(h:step n c s=some t):s.pos<t.pos∧WF c t∧∀e,Good n c e t.chs t.pos t.cur→Good n c e s.chs s.pos s.cur:=by
 unfold step at h
 split at h
 ·cases h
 ·rename_i i hi
  obtain⟨u,j,z⟩:=lI.mp h
  obtain⟨hw,D⟩:=rn (jZ w hi j) z
  exact⟨by rw[D];exact Rk w hi j,hw,fun e g=>Ml w hi j (tL z g)⟩
noncomputable def only:List Exp→Option Exp
 | [e]=>some e
 | _=>none
noncomputable def nY(n:Nat)(c:Code):Nat→MS→Option Exp
 | 0,_=>none
 | k+1,s=>if s.pos<c.length then(step n c s).bind (nY n c k)else only s.cur
theorem tR{n:Nat}{c:Code}:∀(k j:Nat)(s:MS),WF c s→c.length-s.pos<k→c.length-s.pos<j→nY n c k s=nY n c j s
 | 0,_,s,w,h,_=>by contradiction
 | _+1,0,s,w,_,h=>by contradiction
 | k+1,j+1,s,w,h,h'=>by
  unfold nY
  by_cases z:s.pos<c.length
  ·rw[mr z,mr z]
   cases D:step n c s with
   | none=>rfl
   | some t =>
    obtain⟨h1,h2,_⟩:=jC w D
    exact tR k j t h2 (by lia) (by lia)
  ·rw[ml z,ml z]
theorem yC{n:Nat}{c:Code}:∀(k:Nat)(s:MS)(e:Exp),WF c s→nY n c k s=some e→Good n c e s.chs s.pos s.cur
 | 0,s,e,w,h=>by cases h
 | k+1,s,e,w,h=>by
  unfold nY at h
  by_cases z:s.pos<c.length
  ·rw[mr z]at h
   obtain⟨t,D,F⟩:=lI.mp h
   obtain⟨_,h2,G⟩:=jC w D
   exact G e (yC k t e h2 F)
  ·rw[ml z]at h
   obtain⟨h1,h2⟩:=VF w z
   rw[h2,h1]
   unfold only at h
   split at h
   ·rename_i J j
    cases h
    rw[j]
    exact⟨i' _,by rw[pP];exact .done e⟩
   ·cases h
theorem Fy{n:Nat}{c:Code}{s t:MS}(h:Reach n c s t):∀{e:Exp}{k:Nat},WF c s→t=⟨c.length,[e],[]⟩→c.length-s.pos<k→nY n c k s=some e:=by
 induction h with
 | refl s =>
  intro e k w z D
  subst z
  obtain⟨k,rfl⟩:∃j,k=j+1:=⟨k-1,by lia⟩
  unfold nY
  rw[ml (Nat.lt_irrefl _)]
  rfl
 | @step s u t a r F =>
  intro e k w z D
  obtain⟨k,rfl⟩:∃j,k=j+1:=⟨k-1,by lia⟩
  obtain⟨h1,h2,_⟩:=jC w a
  have G:s.pos<c.length:=by
   unfold MX.step at a
   split at a
   ·cases a
   ·rename_i i hi
    exact(lf.mp hi).1
  unfold nY
  rw[mr G,a]
  exact F h2 z (by lia)
theorem Lf{n:Nat}{c:Code}:nY n c (c.length+1) ⟨0,[],[]⟩=Vbdeam.tree n c:=by
 cases h:Vbdeam.tree n c with
 | some e=>exact Fy (m9 (lu.mp h)) (uA c) rfl (by simp)
 | none =>
  cases g:nY n c (c.length+1) ⟨0,[],[]⟩with
  | none=>rfl
  | some e =>
   have:=yC _ _ _ (uA c) g
   have r:Run n (seg c 0 c.length) [] e:=this.2
   have j:seg c 0 c.length=c:=by unfold seg;simp
   rw[j]at r
   rw[lu.mpr r]at h
   cases h
end MX
end
section
namespace MX
open Vbdeaa (Exp Exps Ins Code)
open Vbdeam (plain orParts andParts ifParts jumpOf isOne isZeroIns isTruthIns parse)
noncomputable def iJ(n:Nat):Ins→Bool
 | .push q=>Vbdeaa.proper q&&decide (0≤q.1)
 | .arg k=>decide (k<n)
 | .var k=>(Vbdeam.readName k).isSome
 | .table t=>decide (t<64)
 | .call f m=>decide (f<64)&&decide (m≤8)
 | _=>true
theorem Pr{n:Nat}{i:Ins}{st t:List Exp}(h:plain n i st=some t):iJ n i=true:=by
 cases i with
 | push q =>
  unfold Vbdeam.plain at h
  simp only at h
  split at h
  ·rename_i j
   show(Vbdeaa.proper q&&decide (0≤q.1))=true
   rw[j.1,mi j.2]
   rfl
  ·cases h
 | arg k =>
  unfold Vbdeam.plain at h
  simp only at h
  split at h
  ·rename_i j;exact mi j
  ·cases h
 | var k =>
  unfold Vbdeam.plain at h
  simp only at h
  obtain⟨x,hx,_⟩:=cr.mp h
  show(Vbdeam.readName k).isSome=true
  rw[hx]
  rfl
 | table k =>
  cases st with
  | nil=>unfold Vbdeam.plain at h;cases h
  | cons x st =>
   unfold Vbdeam.plain at h
   simp only at h
   split at h
   ·rename_i j;exact mi j
   ·cases h
 | call f m =>
  unfold Vbdeam.plain at h
  simp only at h
  split at h
  ·cases h
  ·rename_i j
   show(decide (f<64)&&decide (m≤8))=true
   rw[mi (show f<64 by lia),mi (show m≤8 by lia)]
   rfl
 | _=>rfl
theorem lz{r:Code}{m:Nat}{i j:Ins}(D:r[m]?=some j)(hi:i∈r):i∈r.take m∨i=j∨i∈r.drop (m+1):=by
 have z:=(lf.mp D)
 obtain⟨h1,h2⟩:=z
 rw[←List.take_append_drop m r,List.drop_eq_getElem_cons h1,h2]at hi
 simp only[List.mem_append,j']at hi
 exact hi
theorem O9{n:Nat}{c:Code}{st:List Exp}{e:Exp}(h:Run n c st e):∀i∈c,iJ n i=true:=by
 induction h with
 | done e=>intro i hi;cases hi
 | plain D _ O =>
  intro i hi
  rcases j'.mp hi with rfl | hi
  ·exact Pr D
  ·exact O i hi
 | or_ D _ _ z j =>
  obtain⟨m,r2,rfl,rfl,h1,h2,F,rfl,rfl⟩:=Gm D
  intro i hi
  simp only[j']at hi
  rcases hi with rfl | rfl | rfl | hi
  ·rfl
  ·show(Vbdeaa.proper (1,1)&&decide ((0:Int)≤1))=true;decide +kernel
  ·rfl
  ·rcases lz F hi with hi | rfl | hi
   ·exact z i hi
   ·rfl
   ·rw[show m-1+1=m by lia]at hi
    exact j i hi
 | @and_ a st k r b rest y e D _ _ z j =>
  obtain⟨h1,h2,F,S,U,rfl,rfl⟩:=Am D
  intro i hi
  rcases j'.mp hi with rfl | hi
  ·rfl
  ·rcases lz U hi with hi | rfl | hi
   ·have L:(r.take k)[k-1]?=some (.jump 1):=by rw[List.getElem?_take,mr (by lia),S]
    rcases lz L hi with hi | rfl | hi
    ·rw[List.take_take]at hi
     have g3:(r.take (min (k-1) k))[k-2]?=some .truth:=by rw[List.getElem?_take,mr (by lia),F]
     rcases lz g3 hi with hi | rfl | hi
     ·rw[List.take_take,show min (k-2) (min (k-1) k)=k-2 by lia]at hi
      exact z i hi
     ·rfl
     ·rw[List.drop_eq_nil_of_le (by rw[lp];lia)]at hi
      cases hi
    ·rfl
    ·rw[List.drop_eq_nil_of_le (by rw[lp];lia)]at hi
     cases hi
   ·show(Vbdeaa.proper (0,1)&&decide ((0:Int)≤0))=true;decide +kernel
   ·exact j i hi
 | @if_ a st k r x y rest u v e D _ _ _ J G j =>
  obtain⟨m,h1,h2,F,rfl,rfl,rfl⟩:=Hd D
  intro i hi
  rcases j'.mp hi with rfl | hi
  ·rfl
  ·rcases lz h2 hi with hi | rfl | hi
   ·exact J i hi
   ·rfl
   ·rw[show k-1+1=k by lia,←List.take_append_drop m (r.drop k)]at hi
    rcases List.mem_append.mp hi with hi | hi
    ·exact G i hi
    ·rw[List.drop_drop]at hi
     exact j i hi
noncomputable def hd:List Int→Option (Ins×List Int)
 | []=>none
 | 9::r=>some (.truth,r)
 | 0::n::d::r=>if d<0 then none else some (.push (n,d.toNat),r)
 | 8::i::n::r=>if i<0∨n<0 then none else some (.call i.toNat n.toNat,r)
 | k::n::r=>match Vbdeaa.one k n with
  | none=>none
  | some i=>some (i,r)
 | _::[]=>none
theorem yL{l:List Int}(h:l≠[]):Vbdeaa.codeOf l=(hd l).bind fun p=>(Vbdeaa.codeOf p.2).map fun c=>p.1::c:=by
 unfold hd
 split
 ·exact absurd rfl h
 ·rw[Vbdeaa.codeOf];rfl
 ·rw[Vbdeaa.codeOf]
  split<;>rfl
 ·rw[Vbdeaa.codeOf]
  split<;>rfl
 ·rename_i k n r h1 h2 j
  rw[Vbdeaa.codeOf]
  ·cases Vbdeaa.one k n<;>rfl
  ·exact h1
  ·exact h2
  ·exact j
 ·rename_i a h1
  rw[Vbdeaa.codeOf]
  ·rfl
  ·exact h1
theorem Ck{k n:Int}{i:Ins}(h:Vbdeaa.one k n=some i):[k,n]=i.told:=by
 unfold Vbdeaa.one at h
 split at h
 ·cases h
 rename_i L
 split at h
 ·rename_i e;cases h;rw[e];show [1,n]=[1,((n.toNat:Nat):Int)];rw[l7 (by lia)]
 split at h
 ·rename_i e;cases h;rw[e];show [2,n]=[2,((n.toNat:Nat):Int)];rw[l7 (by lia)]
 split at h
 ·rename_i e
  obtain⟨o,J,rfl⟩:=cr.mp h
  have:∀(j:Nat)(o:Vbdeaa.Un),Vbdeaa.UNS[j]?=some o→(Vbdeaa.UNS.findIdx fun x=>x==o)=j:=by
   intro j o D
   have z:=(lf.mp D).1
   have:j<8:=z
   have F:j=0∨j=1∨j=2∨j=3∨j=4∨j=5∨j=6∨j=7:=by lia
   rcases F with rfl | rfl | rfl | rfl | rfl | rfl | rfl | rfl<;>(cases D;decide +kernel)
  show [k,n]=[3,((Vbdeaa.UNS.findIdx fun x=>x==o:Nat):Int)]
  rw[this _ _ J,e,l7 (by lia)]
 split at h
 ·rename_i e
  obtain⟨o,J,rfl⟩:=cr.mp h
  have:∀(j:Nat)(o:Vbdeaa.Bin),Vbdeaa.BINS[j]?=some o→(Vbdeaa.BINS.findIdx fun x=>x==o)=j:=by
   intro j o D
   have z:=(lf.mp D).1
   have:j<13:=z
   have F:j=0∨j=1∨j=2∨j=3∨j=4∨j=5∨j=6∨j=7∨j=8∨j=9∨j=10∨j=11∨j=12:=by lia
   rcases F with rfl | rfl | rfl | rfl | rfl | rfl | rfl | rfl | rfl | rfl | rfl | rfl | rfl<;>(cases D;decide +kernel)
  show [k,n]=[4,((Vbdeaa.BINS.findIdx fun x=>x==o:Nat):Int)]
  rw[this _ _ J,e,l7 (by lia)]
 split at h
 ·rename_i e;cases h;rw[e];show [5,n]=[5,((n.toNat:Nat):Int)];rw[l7 (by lia)]
 split at h
 ·rename_i e;cases h;rw[e];show [6,n]=[6,((n.toNat:Nat):Int)];rw[l7 (by lia)]
 split at h
 ·rename_i e;cases h;rw[e];show [7,n]=[7,((n.toNat:Nat):Int)];rw[l7 (by lia)]
 split at h
 ·rename_i e
  split at h
  ·rename_i G;cases h;rw[e,G];rfl
  ·split at h
   ·rename_i G;cases h;rw[e,G];rfl
   ·cases h
 ·cases h
theorem Jq{l r:List Int}{i:Ins}(h:hd l=some (i,r)):l=i.told++r:=by
 unfold hd at h
 split at h
 ·cases h
 ·cases h;rfl
 ·split at h
  ·cases h
  ·rename_i n d D j
   cases h
   show 0::n::d::r=[0,n,((d.toNat:Nat):Int)]++r
   rw[l7 (by lia)]
   rfl
 ·split at h
  ·cases h
  ·rename_i a n D j
   cases h
   show 8::a::n::r=[8,((a.toNat:Nat):Int),((n.toNat:Nat):Int)]++r
   rw[l7 (by lia),l7 (by lia)]
   rfl
 ·split at h
  ·cases h
  ·rename_i F z
   cases h
   rw[←Ck z]
   rfl
 ·cases h
theorem Az(i:Ins):1≤i.told.length:=by cases i<;>simp[Vbdeaa.Ins.told]
noncomputable def Cut(n:Nat)(l:List Int)(c:Code):Prop:=Vbdeaa.codeOf l=some c∧∀i∈c,iJ n i=true
theorem Uv{n:Nat}:Cut n [] []:=⟨rfl,fun i h=>by cases h⟩
theorem Ri{n:Nat}{l r:List Int}{i:Ins}{c:Code}(h:hd l=some (i,r))(hi:iJ n i=true)(F:Cut n r c):Cut n l (i::c):=by
 refine⟨?_,?_⟩
 ·rw[yL (fun z=>by rw[z]at h;cases h),h]
  simp only[Option.bind_some,F.1,Option.map_some]
 ·intro j D
  rcases j'.mp D with rfl | D
  ·exact hi
  ·exact F.2 j D
theorem JG{n:Nat}{l:List Int}{c:Code}(G:l≠[])(h:Cut n l c):∃i r z,hd l=some (i,r)∧iJ n i=true∧Cut n r z∧c=i::z:=by
 obtain⟨h1,h2⟩:=h
 rw[yL G]at h1
 obtain⟨⟨i,r⟩,L,F⟩:=lI.mp h1
 obtain⟨z,J,O⟩:=cr.mp F
 subst O
 exact⟨i,r,z,L,h2 _ ci,⟨J,fun j D=>h2 j (am _ D)⟩,rfl⟩
theorem Mh{n:Nat}{l:List Int}{c:Code}(h:Cut n l c):Vbdeam.expOf n l=Vbdeam.tree n c:=by
 unfold Vbdeam.expOf
 rw[h.1]
 rfl
theorem Hk{n:Nat}{l:List Int}(h:∀c,¬Cut n l c):Vbdeam.expOf n l=none:=by
 unfold Vbdeam.expOf
 cases z:Vbdeaa.codeOf l with
 | none=>rfl
 | some c =>
  show Vbdeam.tree n c=none
  cases j:Vbdeam.tree n c with
  | none=>rfl
  | some e=>exact absurd ⟨z,O9 (lu.mp j)⟩ (h c)
end MX
end
section
namespace MX
open Vbdeaa (Exp Exps Ins Code)
open Vbdeam (plain orParts andParts ifParts jumpOf isOne isZeroIns isTruthIns parse size sizeAll joinBest)
noncomputable def bK:List Ch→List Exp
 | []=>[]
 | x::r=>x.below++bK r
noncomputable def cX:List Exp→Nat
 | []=>0
 | e::l=>size e+cX l
theorem lB(a b:List Exp):cX (a++b)=cX a+cX b:=by
 induction a with
 | nil=>simp[cX]
 | cons x r j=>simp only[ma,cX,j];lia
theorem pN(e:Exp):1≤size e:=by cases e<;>simp only[Vbdeam.size]<;>lia
theorem i_(l:List Exp):l.length≤cX l:=by
 induction l with
 | nil=>exact i' _
 | cons x r j=>have:=pN x;simp only[io,cX];lia
noncomputable def Xb(x:Ch):Nat:=size x.cond+(match x.first with | none=>0 | some f=>size f)+cX x.below
noncomputable def mK:List Ch→Nat
 | []=>0
 | x::r=>Xb x+mK r
noncomputable def RG(s:MS):Prop:=cX s.cur+mK s.chs+s.chs.length≤s.pos
theorem Ma(l:List Exp):sizeAll (Vbdeam.exps l)=cX l:=by
 induction l with
 | nil=>rfl
 | cons x r j=>show size x+sizeAll (Vbdeam.exps r)=size x+cX r;rw[j]
theorem Ls(g:Bool)(x y:Exp):size (joinBest g x y)≤size x+size y+1:=by
 unfold Vbdeam.joinBest
 split
 ·split<;>simp only[Vbdeam.size,Vbdeam.sizeAll]<;>lia
 ·simp only[Vbdeam.size,Vbdeam.sizeAll]
  lia
theorem yV(l:List Exp):cX l.reverse=cX l:=by
 induction l with
 | nil=>rfl
 | cons x r j=>rw[List.reverse_cons,lB,j];simp only[cX];lia
theorem vV{n:Nat}{i:Ins}{st t:List Exp}(h:plain n i st=some t):cX t≤cX st+1:=by
 cases i with
 | push q =>
  unfold Vbdeam.plain at h;simp only at h
  split at h
  ·cases h;simp only[cX,Vbdeam.size];lia
  ·cases h
 | arg k =>
  unfold Vbdeam.plain at h;simp only at h
  split at h
  ·cases h;simp only[cX,Vbdeam.size];lia
  ·cases h
 | var k =>
  unfold Vbdeam.plain at h;simp only at h
  obtain⟨x,hx,e⟩:=cr.mp h
  subst e
  simp only[cX,Vbdeam.size];lia
 | un o =>
  cases st with
  | nil=>cases h
  | cons x st=>cases h;simp only[cX,Vbdeam.size];lia
 | bin o =>
  match st,h with
  | y::x::st,h=>cases h;simp only[cX,Vbdeam.size];lia
 | table k =>
  cases st with
  | nil=>cases h
  | cons x st =>
   unfold Vbdeam.plain at h;simp only at h
   split at h
   ·cases h;simp only[cX,Vbdeam.size,Vbdeam.sizeAll];lia
   ·cases h
 | call f m =>
  unfold Vbdeam.plain at h;simp only at h
  split at h
  ·cases h
  ·split at h
   ·cases h;simp only[cX,Vbdeam.size];lia
   ·cases h
    simp only[cX,Vbdeam.size,Ma,yV]
    have:=lB (st.take m) (st.drop m)
    rw[List.take_append_drop]at this
    lia
 | best g =>
  match st,h with
  | y::x::st,h=>cases h;have:=Ls g x y;simp only[cX];lia
 | zero k=>rw[iD]at h;cases h
 | jump k=>rw[jO]at h;cases h
 | truth=>rw[iY]at h;cases h
theorem vo:∀{chs:List Ch}{p:Nat}{cur:List Exp}{t:MS},cX cur+mK chs+chs.length≤p→settle p cur chs=some t→RG t
 | [],p,cur,t,h,e=>by cases e;exact h
 | x::r,p,cur,t,h,e=>by
  unfold settle at e
  split at e
  ·split at e
   ·rename_i z f j
    refine vo ?_ e
    simp only[mK,Xb,j,cX,io,Vbdeam.size]at h ⊢
    lia
   ·cases e
  ·cases e
   exact h
theorem Dq{n:Nat}{c:Code}{s t:MS}{i:Ins}(w:WF c s)(z:RG s)(h:core n c i s=some t):cX t.cur+mK t.chs+t.chs.length≤t.pos:=by
 have J:cX s.cur+mK s.chs+s.chs.length≤s.pos:=z
 have G:∀st,plain n i s.cur=some st→t=⟨s.pos+1,st,s.chs⟩→cX t.cur+mK t.chs+t.chs.length≤t.pos:=by
  rintro st S rfl
  have:=vV S
  simp only
  lia
 cases i with
 | zero k =>
  unfold core begin_ at h
  simp only at h
  split at h
  ·cases h
  ·rename_i a st D
   split at h
   ·cases h
   ·split at h
    ·cases h
    ·cases h
     rw[D]at J
     simp only[cX,mK,Xb,io]at J ⊢
     lia
 | jump k =>
  unfold core jump at h
  simp only at h
  split at h
  ·rename_i j x r D O
   split at h
   ·cases h
    rw[D,O]at J
    simp only[cX,mK,Xb,io]at J ⊢
    lia
   ·cases h
  ·cases h
 | truth =>
  unfold core nine at h
  simp only at h
  split at h
  ·rename_i j x r D O
   rw[D,O]at J
   simp only[cX,mK,Xb,io]at J
   have L:=w.chain
   rw[O]at L
   obtain⟨h1,h2,h3,Z,h5,h6⟩:=L
   split at h
   ·split at h
    ·rename_i L;cases h;simp only[cX,Vbdeam.size];lia
    ·cases h
   ·rename_i f U
    rw[U]at J
    split at h
    ·rename_i L;cases h;simp only[cX,Vbdeam.size];lia
    ·cases h
  ·cases h
 | push q=>unfold core at h;simp only at h;obtain⟨st,j,F⟩:=cr.mp h;exact G st j F.symm
 | arg q=>unfold core at h;simp only at h;obtain⟨st,j,F⟩:=cr.mp h;exact G st j F.symm
 | var q=>unfold core at h;simp only at h;obtain⟨st,j,F⟩:=cr.mp h;exact G st j F.symm
 | un q=>unfold core at h;simp only at h;obtain⟨st,j,F⟩:=cr.mp h;exact G st j F.symm
 | bin q=>unfold core at h;simp only at h;obtain⟨st,j,F⟩:=cr.mp h;exact G st j F.symm
 | table q=>unfold core at h;simp only at h;obtain⟨st,j,F⟩:=cr.mp h;exact G st j F.symm
 | call q Y=>unfold core at h;simp only at h;obtain⟨st,j,F⟩:=cr.mp h;exact G st j F.symm
 | best q=>unfold core at h;simp only at h;obtain⟨st,j,F⟩:=cr.mp h;exact G st j F.symm
theorem Bk:RG ⟨0,[],[]⟩:=i' _
theorem Bg{n:Nat}{c:Code}{s t:MS}(w:WF c s)(z:RG s)(h:step n c s=some t):RG t:=by
 unfold step at h
 split at h
 ·cases h
 ·rename_i i hi
  obtain⟨u,j,D⟩:=lI.mp h
  exact vo (Dq w z j) D
theorem O8{n:Nat}{c:Code}{e:Exp}(h:Run n c [] e):size e≤c.length:=by
 have key:∀{s t:MS},Reach n c s t→WF c s→RG s→WF c t∧RG t:=by
  intro s t r
  induction r with
  | refl s=>exact fun w z=>⟨w,z⟩
  | step a _ j=>exact fun w z=>j (RV w a) (Bg w z a)
 have:=(key (m9 h) (uA c) Bk).2
 have this:cX [e]+mK []+0≤c.length:=this
 simp only[cX,mK]at this
 assumption
theorem o_:∀(chs:List Ch),cX (bK chs)≤mK chs
 | []=>i' _
 | x::r=>by
  have:=o_ r
  simp only[bK,lB,mK,Xb]
  lia
end MX
end
section
set_option maxRecDepth 10000
namespace MX
open Vbdeaa (Exp Exps Un Bin Tok Text tokens token numberToken digit letter wordSign blank digitsValue text sg wd decimal shownQ proper small frac)
noncomputable def Lex(w:Text)(ts:List Tok)(s:Text):Prop:=∀k p,(w++s).length<k→∃j z,s.length<j∧(tokens k p (w++s)).map Prod.fst=ts++(tokens j z s).map Prod.fst
theorem Lex.app{w1 w2:Text}{t1 t2:List Tok}{s:Text}(h1:Lex w1 t1 (w2++s))(h2:Lex w2 t2 s):Lex (w1++w2) (t1++t2) s:=by
 intro k p j
 rw[lv]at j ⊢
 obtain⟨k1,p1,h,D⟩:=h1 k p j
 obtain⟨k2,p2,h',z⟩:=h2 k1 p1 h
 exact⟨k2,p2,h',by rw[D,z,lv]⟩
theorem Lex.blank{s:Text}:Lex [32] [] s:=by
 intro k p j
 cases k with
 | zero=>contradiction
 | succ k=>exact⟨k,p+1,by simp only[jp,io,lT]at j;lia,rfl⟩
theorem Lex.tok{c:Int}{w s:Text}{x:Tok}(z:Vbdeaa.blank c=false)(h:token (c::w++s)=(x,s))(hx:x≠.bad):Lex (c::w) [x] s:=by
 intro k p j
 cases k with
 | zero=>contradiction
 | succ k =>
  refine⟨k,p+((c::w++s).length-s.length),by simp only[jp,io]at j;lia,?_⟩
  have e:tokens (k+1) p (c::w++s)=(x,p)::tokens k (p+((c::w++s).length-s.length)) s:=by
   show(if Vbdeaa.blank c=true then tokens k (p+1) (w++s)else match token (c::w++s)with
    | (.bad,_)=>[(.bad,p)]
    | (x,s')=>(x,p)::tokens k (p+((c::w++s).length-s'.length)) s')=_
   rw[z,h]
   cases x<;>first | exact absurd rfl hx | rfl
  rw[e]
  rfl
noncomputable def After(s:Text):Prop:=∀c,s.head?=some c→c=32∨c=40∨c=41∨c=44
theorem MN:After []:=fun c h=>by cases h
theorem dm{c:Int}{s:Text}(h:c=32∨c=40∨c=41∨c=44):After (c::s):=fun d e=>by cases e;exact h
theorem o8(n:Nat):decimal n=(Nat.toDigits 10 n).map fun c=>(c.toNat:Int):=by
 unfold Vbdeaa.decimal Vbdeaa.text
 rw[Nat.toString_eq_repr,Nat.toList_repr]
theorem fX{n:Nat}{c:Int}(h:c∈decimal n):digit c=true:=by
 rw[o8]at h
 obtain⟨d,hd,rfl⟩:=List.mem_map.mp h
 have:=Nat.isDigit_of_mem_toDigits (by decide) (by decide) hd
 unfold Vbdeaa.digit
 simp only[Char.isDigit,lj,mo,UInt32.le_iff_toNat_le,ge_iff_le]at this ⊢
 have h1:'0'.val.toNat=48:=rfl
 have h2:'9'.val.toNat=57:=rfl
 have j:d.toNat=d.val.toNat:=rfl
 lia
theorem o7(n:Nat):decimal n≠[]:=by
 rw[o8]
 intro h
 exact Nat.toDigits_ne_nil (List.map_eq_nil_iff.mp h)
theorem oG(n:Nat):digitsValue (decimal n)=n:=by
 unfold Vbdeaa.digitsValue
 rw[o8,List.foldl_map]
 have:∀(l:List Char)(m:Nat),(∀c∈l,c.isDigit=true)→l.foldl (fun x y=>10*x+((y.toNat:Int)-48).toNat) m=Nat.ofDigitChars 10 l m:=by
  intro l
  induction l with
  | nil=>intro m _;rw[Nat.ofDigitChars_nil];rfl
  | cons c r D =>
   intro m j
   rw[Nat.ofDigitChars_cons,List.foldl_cons,D _ fun d hd=>j d (am _ hd)]
   have h0:'0'.toNat=48:=rfl
   rw[h0]
   have z:((c.toNat:Int)-48).toNat=c.toNat-48:=by lia
   rw[z]
 rw[this _ _ fun c j=>Nat.isDigit_of_mem_toDigits (by decide) (by decide) j]
 exact Nat.ofDigitChars_ten_toDigits
theorem uY{p:Int→Bool}:∀{a s:Text},(∀c∈a,p c=true)→(∀c,s.head?=some c→p c=false)→(a++s).takeWhile p=a∧(a++s).dropWhile p=s
 | [],[],_,_=>⟨rfl,rfl⟩
 | [],c::s,_,h=>by
  have:=h c rfl
  simp only[List.nil_append,List.takeWhile_cons,List.dropWhile_cons,this]
  exact⟨by first | rfl | trivial,by first | rfl | trivial⟩
 | x::a,s,h,g=>by
  have hx:=h x ci
  have:=uY (a:=a) (s:=s) (fun c j=>h c (am _ j)) g
  simp only[ma,List.takeWhile_cons,List.dropWhile_cons,hx,if_true,this.1,this.2]
  exact⟨by first | rfl | trivial,by first | rfl | trivial⟩
theorem Q4{n:Int}{d:Nat}(h:Nat.gcd n.natAbs d=1):frac n d=(n,d):=by
 unfold Vbdeaa.frac
 rw[h]
 simp
theorem Ub{q:Vbdeaa.Q}{s:Text}(h:proper q=true)(h0:0≤q.1)(Z:After s):Lex (shownQ q) [.num q] s:=by
 obtain⟨n,d⟩:=q
 obtain⟨m,rfl⟩:∃m:Nat,n=m:=⟨n.toNat,by simp only at h0;lia⟩
 unfold Vbdeaa.proper at h
 simp only[lj,beq_iff_eq,l4]at h
 have hf:frac (m:Int) d=((m:Int),d):=Q4 (by rw[l4];exact h.2)
 have ae:1≤d:=by
  have:=h.1
  unfold Vbdeaa.small at this
  simp only[lj,mo]at this
  exact this.2.1
 have J:∀c,s.head?=some c→digit c=false:=fun c j=>by rcases Z c j with rfl | rfl | rfl | rfl<;>rfl
 have O:(s.head?.any fun c=>letter c||(c==95||(c==46||c==58)))=false:=by
  cases j:s.head? with
  | none=>rfl
  | some c=>rcases Z c j with rfl | rfl | rfl | rfl<;>rfl
 have G:(s.head?==some 46||s.head?==some 58)=false:=by
  cases j:s.head? with
  | none=>rfl
  | some c=>rcases Z c j with rfl | rfl | rfl | rfl<;>rfl
 have key:numberToken (shownQ ((m:Int),d)++s)=(.num ((m:Int),d),s):=by
  unfold Vbdeaa.shownQ
  simp only[l4]
  by_cases h1:d=1
  ·subst h1
   have S:=uY (p:=digit) (a:=decimal m) (s:=s) (fun c j=>fX j) J
   unfold Vbdeaa.numberToken
   simp only[if_true,mh,S.1,S.2,G,Bool.false_and,Bool.false_eq_true,if_false,lT,Nat.pow_zero,O,oG,or_false,Nat.one_ne_zero,hf]
   rw[mr h.1]
  ·rw[ml h1]
   have S:=uY (p:=digit) (a:=decimal m) (s:=58::decimal d++s) (fun c j=>fX j) (fun c j=>by cases j;rfl)
   have F:=uY (p:=digit) (a:=decimal d) (s:=s) (fun c j=>fX j) J
   obtain⟨x,xs,hx⟩:∃x xs,decimal d=x::xs:=by
    cases D:decimal d with
    | nil=>exact absurd D (o7 d)
    | cons x xs=>exact⟨x,xs,rfl⟩
   have z:digit x=true:=fX (n:=d) (by rw[hx];exact ci)
   have L:((decimal d++s).head?.any digit)=true:=by rw[hx];exact z
   unfold Vbdeaa.numberToken
   rw[lv,S.1,S.2]
   have ac:((58::decimal d++s).head?==some 46||(58::decimal d++s).head?==some 58)=true:=rfl
   have U:((58::decimal d++s).head?==some 58)=true:=rfl
   have Y:(58::decimal d++s).drop 1=decimal d++s:=rfl
   simp only[U,Y,L,Bool.or_true,Bool.and_true,Bool.and_self,Bool.true_and,if_true,F.1,F.2,oG,O,Bool.false_eq_true,or_false,hf]
   rw[ml (by lia),mr h.1]
 obtain⟨x,xs,hx⟩:∃x xs,shownQ ((m:Int),d)=x::xs:=by
  cases D:decimal m with
  | nil=>exact absurd D (o7 m)
  | cons x xs=>exact⟨x,xs++(if d=1 then []else 58::decimal d),by unfold Vbdeaa.shownQ;simp only[l4,D];rfl⟩
 have z:digit x=true:=by
  have:x∈decimal m:=by
   cases D:decimal m with
   | nil=>exact absurd D (o7 m)
   | cons y ys =>
    unfold Vbdeaa.shownQ at hx
    simp only[l4,D]at hx
    cases hx
    exact ci
  exact fX this
 rw[hx]at key ⊢
 refine Lex.tok ?_ ?_ (by simp)
 ·unfold Vbdeaa.digit at z
  have:=mn z
  unfold Vbdeaa.blank
  simp only[Bool.or_eq_false_iff,beq_eq_false_iff_ne,ne_eq]
  refine⟨?_,?_,?_,?_⟩<;>lia
 ·show token (x::(xs++s))=_
  unfold Vbdeaa.token
  simp only[z,if_true]
  exact key
theorem Gw{n s:Text}(h:Vbdeaa.nameOf n=n)(Z:After s):Vbdeaa.nameOf (n++s)=n:=by
 have L:∀c,s.head?=some c→wordSign c=false:=fun c j=>by rcases Z c j with rfl | rfl | rfl | rfl<;>rfl
 have O:s.head?≠some 46:=fun e=>by rcases Z _ e with h | h | h | h<;>cases h
 unfold Vbdeaa.nameOf at h
 simp only at h
 have G:n.takeWhile wordSign++n.dropWhile wordSign=n:=List.takeWhile_append_dropWhile
 have D:∀c∈n.takeWhile wordSign,wordSign c=true:=fun c j=>by
  have:=List.all_takeWhile (p:=wordSign) (l:=n)
  exact mv.mp this c j
 by_cases j:(n.dropWhile wordSign).head?=some 46∧((n.dropWhile wordSign).drop 1).head?.any letter=true
 ·rw[mr j]at h
  generalize hw:n.takeWhile wordSign=w at *
  generalize hr:n.dropWhile wordSign=r at *
  obtain⟨Y,U⟩:=j
  cases r with
  | nil=>cases Y
  | cons y r =>
   cases Y
   rw[List.drop_one,List.tail_cons]at h U
   have S:r.takeWhile wordSign=r:=by
    have:=G.trans h.symm
    have:=List.append_cancel_left this
    injection this with _ h3
    exact h3.symm
   have F:∀c∈r,wordSign c=true:=fun c j=>by
    have:=List.all_takeWhile (p:=wordSign) (l:=r)
    rw[S]at this
    exact mv.mp this c j
   have e1:n++s=w++(46::(r++s)):=by rw[←G];simp
   have t1:=uY (p:=wordSign) (a:=w) (s:=46::(r++s)) D (fun c j=>by cases j;rfl)
   have t2:=uY (p:=wordSign) (a:=r) (s:=s) F L
   unfold Vbdeaa.nameOf
   simp only
   rw[e1,t1.1,t1.2]
   have c3:((46::(r++s)).drop 1).head?.any letter=true:=by
    rw[List.drop_one,List.tail_cons]
    cases r with
    | nil=>cases U
    | cons z r=>exact U
   rw[mr ⟨rfl,c3⟩,List.drop_one,List.tail_cons,t2.1]
   exact G
 ·rw[ml j]at h
  have J:∀c∈n,wordSign c=true:=fun c j=>D c (by rw[h];exact j)
  have t1:=uY (p:=wordSign) (a:=n) (s:=s) J L
  unfold Vbdeaa.nameOf
  simp only
  rw[t1.1,t1.2,ml (fun z=>O z.1)]
theorem CV{n s:Text}(h:Vbdeaa.isName n=true)(F:After s):Lex n [.name n] s:=by
 unfold Vbdeaa.isName at h
 simp only[lj,beq_iff_eq,mo,Bool.not_eq_true']at h
 obtain⟨h1,h2,G,D⟩:=h
 cases n with
 | nil=>cases h1
 | cons c n =>
  have j:letter c=true:=h1
  have hd:digit c=false:=by
   unfold Vbdeaa.letter at j
   have:=mn j
   unfold Vbdeaa.digit
   exact mu (by lia)
  refine Lex.tok ?_ ?_ (by simp)
  ·unfold Vbdeaa.letter at j
   have:=mn j
   unfold Vbdeaa.blank
   simp only[Bool.or_eq_false_iff,beq_eq_false_iff_ne,ne_eq]
   refine⟨?_,?_,?_,?_⟩<;>lia
  ·show token (c::(n++s))=_
   unfold Vbdeaa.token
   simp only[hd,j,if_true,Bool.false_eq_true,if_false]
   have e:Vbdeaa.nameOf (c::(n++s))=c::n:=Gw (n:=c::n) h2 F
   have hw:¬(c::n)∈Vbdeaa.WORDS:=fun z=>by
    have:=List.contains_iff_mem.mpr z
    rw[this]at D
    cases D
   rw[e,ml (by lia),ml hw,show c::(n++s)=(c::n)++s from rfl,List.drop_left]
end MX
end
section
set_option maxRecDepth 10000
namespace MX
open Vbdeaa (Exp Exps Un Bin Tok Text tokens token text sg wd decimal shownQ proper unWord binSign binNeeds closed)
mutual
noncomputable def iy:Exp→Prop
 | .num q=>proper q=true∧0≤q.1
 | .name n=>Vbdeaa.isName n=true∧∀c∈n,0≤c
 | .un _ a=>iy a
 | .bin _ a b=>iy a∧iy b
 | .and a b=>iy a∧iy b
 | .or a b=>iy a∧iy b
 | .cond c a b=>iy c∧iy a∧iy b
 | .best _ l=>xj l∧l≠.nil
 | .use n l=>(Vbdeaa.isName n=true∧∀c∈n,0≤c)∧xj l∧l≠.nil
noncomputable def xj:Exps→Prop
 | .nil=>True
 | .cons e l=>iy e∧xj l
end
noncomputable def cl(level need:Nat)(t:List Tok):List Tok:=if level<need then sg "(" :: (t++[sg ")"])else t
noncomputable def bO(o:Bin):Tok:=sg (binSign o)
mutual
noncomputable def T:Exp→List Tok
 | .num q=>[.num q]
 | .name n=>[.name n]
 | .un .neg a=>sg "-" :: cl a.level 7 (T a)
 | .un .not a=>wd "not" :: cl a.level 3 (T a)
 | .un o a=>wd (unWord o)::sg "(" :: (T a++[sg ")"])
 | .bin o a b=>cl a.level (binNeeds o).1 (T a)++(bO o::cl b.level (binNeeds o).2 (T b))
 | .and a b=>cl a.level 2 (T a)++(wd "and" :: cl b.level 3 (T b))
 | .or a b=>cl a.level 1 (T a)++(wd "or" :: cl b.level 2 (T b))
 | .cond c a b=>wd "if" :: (T c++(wd "then" :: (T a++(wd "else" :: T b))))
 | .best g l=>wd (if g=true then "max" else "min")::sg "(" :: (TA l++[sg ")"])
 | .use n l=>.name n::sg "(" :: (TA l++[sg ")"])
noncomputable def TA:Exps→List Tok
 | .nil=>[]
 | .cons e .nil=>T e
 | .cons e (.cons f l)=>T e++(sg "," :: TA (.cons f l))
end
theorem uL{c:Int}{s:Text}{x:Tok}(j:Vbdeaa.blank c=false)(h:token (c::s)=(x,s))(hx:x≠.bad):Lex [c] [x] s:=Lex.tok j h hx
theorem qx{s:Text}:Lex [40] [sg "("] s:=uL rfl rfl (by simp[Vbdeaa.sg])
theorem wg{s:Text}:Lex [41] [sg ")"] s:=uL rfl rfl (by simp[Vbdeaa.sg])
theorem Lk{s:Text}:Lex (text ", ") [sg ","] s:=Lex.app (w1:=[44]) (w2:=[32]) (t1:=[sg ","]) (t2:=[]) (uL rfl rfl (by simp[Vbdeaa.sg])) Lex.blank
theorem Lj{s:Text}:Lex [45] [sg "-"] s:=uL rfl rfl (by simp[Vbdeaa.sg])
theorem qy{t s:Text}{ts:List Tok}(h:∀s,After s→Lex t ts s):Lex (40::(t++[41])) (sg "(" :: (ts++[sg ")"])) s :=
 Lex.app (w1:=[40]) (t1:=[sg "("]) qx (Lex.app (h _ (dm (.inr (.inr (.inl rfl))))) wg)
theorem eG{j nd:Nat}{t s:Text}{ts:List Tok}(h:∀s,After s→Lex t ts s)(z:After s):Lex (closed j nd t) (cl j nd ts) s:=by
 unfold Vbdeaa.closed cl
 by_cases c:j<nd
 ·rw[mr c,mr c];exact qy h
 ·rw[ml c,ml c];exact h s z
theorem Ud(o:Bin){s:Text}:Lex (text (binSign o)) [bO o] (32::s):=by
 cases o with
 | ne=>exact Lex.tok (c:=60) (w:=[62]) rfl rfl (by simp[bO,Vbdeaa.sg])
 | le=>exact Lex.tok (c:=60) (w:=[61]) rfl rfl (by simp[bO,Vbdeaa.sg])
 | ge=>exact Lex.tok (c:=62) (w:=[61]) rfl rfl (by simp[bO,Vbdeaa.sg])
 | quo=>exact Lex.tok (c:=47) (w:=[47]) rfl rfl (by simp[bO,Vbdeaa.sg])
 | add=>exact Lex.tok (c:=43) (w:=[]) rfl rfl (by simp[bO,Vbdeaa.sg])
 | sub=>exact Lex.tok (c:=45) (w:=[]) rfl rfl (by simp[bO,Vbdeaa.sg])
 | mul=>exact Lex.tok (c:=42) (w:=[]) rfl rfl (by simp[bO,Vbdeaa.sg])
 | div=>exact Lex.tok (c:=47) (w:=[]) rfl rfl (by simp[bO,Vbdeaa.sg])
 | rem=>exact Lex.tok (c:=37) (w:=[]) rfl rfl (by simp[bO,Vbdeaa.sg])
 | pow=>exact Lex.tok (c:=94) (w:=[]) rfl rfl (by simp[bO,Vbdeaa.sg])
 | eq=>exact Lex.tok (c:=61) (w:=[]) rfl rfl (by simp[bO,Vbdeaa.sg])
 | lt=>exact Lex.tok (c:=60) (w:=[]) rfl rfl (by simp[bO,Vbdeaa.sg])
 | gt=>exact Lex.tok (c:=62) (w:=[]) rfl rfl (by simp[bO,Vbdeaa.sg])
theorem iU(w:String):wd w≠.bad:=by simp[Vbdeaa.wd]
theorem Uc{s:Text}:Lex (text "not ") [wd "not"] s:=Lex.app (w1:=[110,111,116]) (w2:=[32]) (t1:=[wd "not"]) (t2:=[]) (Lex.tok rfl rfl (iU _)) Lex.blank
theorem W2{s:Text}:Lex (text "if ") [wd "if"] s:=Lex.app (w1:=[105,102]) (w2:=[32]) (t1:=[wd "if"]) (t2:=[]) (Lex.tok rfl rfl (iU _)) Lex.blank
theorem QD{s:Text}:Lex (text " then ") [wd "then"] s:=Lex.app (w1:=[32]) (w2:=[116,104,101,110,32]) (t1:=[]) Lex.blank (Lex.app (w1:=[116,104,101,110]) (w2:=[32]) (t1:=[wd "then"]) (t2:=[]) (Lex.tok rfl rfl (iU _)) Lex.blank)
theorem QF{s:Text}:Lex (text " else ") [wd "else"] s:=Lex.app (w1:=[32]) (w2:=[101,108,115,101,32]) (t1:=[]) Lex.blank (Lex.app (w1:=[101,108,115,101]) (w2:=[32]) (t1:=[wd "else"]) (t2:=[]) (Lex.tok rfl rfl (iU _)) Lex.blank)
theorem Ue{s:Text}:Lex (text " and ") [wd "and"] s:=Lex.app (w1:=[32]) (w2:=[97,110,100,32]) (t1:=[]) Lex.blank (Lex.app (w1:=[97,110,100]) (w2:=[32]) (t1:=[wd "and"]) (t2:=[]) (Lex.tok rfl rfl (iU _)) Lex.blank)
theorem W0{s:Text}:Lex (text " or ") [wd "or"] s:=Lex.app (w1:=[32]) (w2:=[111,114,32]) (t1:=[]) Lex.blank (Lex.app (w1:=[111,114]) (w2:=[32]) (t1:=[wd "or"]) (t2:=[]) (Lex.tok rfl rfl (iU _)) Lex.blank)
theorem G7(g:Bool){s:Text}:Lex (text (if g=true then "max(" else "min(")) [wd (if g=true then "max" else "min"),sg "("] s:=by
 cases g with
 | false=>exact Lex.app (w1:=[109,105,110]) (w2:=[40]) (t1:=[wd "min"]) (t2:=[sg "("]) (Lex.tok rfl rfl (iU _)) qx
 | true=>exact Lex.app (w1:=[109,97,120]) (w2:=[40]) (t1:=[wd "max"]) (t2:=[sg "("]) (Lex.tok rfl rfl (iU _)) qx
noncomputable def pH:Un→Bool
 | .neg=>false
 | .not=>false
 | _=>true
theorem WY(o:Un)(h:pH o=true){s:Text}:Lex (text (unWord o)) [wd (unWord o)] (40::s):=by
 cases o with
 | neg=>cases h
 | not=>cases h
 | floor=>exact Lex.tok (c:=102) (w:=[108,111,111,114]) rfl rfl (iU _)
 | ceil=>exact Lex.tok (c:=99) (w:=[101,105,108]) rfl rfl (iU _)
 | abs=>exact Lex.tok (c:=97) (w:=[98,115]) rfl rfl (iU _)
 | sign=>exact Lex.tok (c:=115) (w:=[105,103,110]) rfl rfl (iU _)
 | num=>exact Lex.tok (c:=110) (w:=[117,109]) rfl rfl (iU _)
 | den=>exact Lex.tok (c:=100) (w:=[101,110]) rfl rfl (iU _)
theorem vm{o:Un}(h:pH o=true)(a:Exp):(Exp.un o a).shown=text (unWord o)++(40::(a.shown++[41]))∧T (.un o a)=wd (unWord o)::sg "(" :: (T a++[sg ")"]):=by
 cases o<;>first | exact⟨rfl,rfl⟩ | cases h
mutual
theorem eV:∀(e:Exp),iy e→∀s,After s→Lex e.shown (T e) s
 | .num q,h,s,j=>Ub h.1 h.2 j
 | .name n,h,s,j=>CV h.1 j
 | .un o a,h,s,j=>by
  have D:=eV a h
  by_cases z:pH o=true
  ·rw[(vm z a).1,(vm z a).2]
   exact Lex.app (t1:=[wd (unWord o)]) (WY o z) (qy D)
  ·cases o with
   | neg=>exact Lex.app (w1:=[45]) (t1:=[sg "-"]) Lj (eG D j)
   | not=>exact Lex.app (w1:=text "not ") (t1:=[wd "not"]) Uc (eG D j)
   | _=>exact absurd rfl z
 | .bin o a b,h,s,j=>Lex.app (eG (eV a h.1) (dm (.inl rfl))) (Lex.app (w1:=[32]) (t1:=[]) Lex.blank (Lex.app (t1:=[bO o]) (Ud o) (Lex.app (w1:=[32]) (t1:=[]) Lex.blank (eG (eV b h.2) j))))
 | .and a b,h,s,j=>Lex.app (eG (eV a h.1) (dm (.inl rfl))) (Lex.app (t1:=[wd "and"]) Ue (eG (eV b h.2) j))
 | .or a b,h,s,j=>Lex.app (eG (eV a h.1) (dm (.inl rfl))) (Lex.app (t1:=[wd "or"]) W0 (eG (eV b h.2) j))
 | .cond c a b,h,s,j=>Lex.app (t1:=[wd "if"]) W2 (Lex.app (eV c h.1 _ (dm (.inl rfl))) (Lex.app (t1:=[wd "then"]) QD (Lex.app (eV a h.2.1 _ (dm (.inl rfl))) (Lex.app (t1:=[wd "else"]) QF (eV b h.2.2 _ j)))))
 | .best g l,h,s,j=>Lex.app (t1:=[wd (if g=true then "max" else "min"),sg "("]) (G7 g) (Lex.app (wj l h.1 _ (dm (.inr (.inr (.inl rfl))))) wg)
 | .use n l,h,s,j=>Lex.app (t1:=[.name n]) (CV h.1.1 (dm (.inr (.inl rfl)))) (Lex.app (w1:=[40]) (t1:=[sg "("]) qx (Lex.app (wj l h.2.1 _ (dm (.inr (.inr (.inl rfl))))) wg))
theorem wj:∀(l:Exps),xj l→∀s,After s→Lex l.shown (TA l) s
 | .nil,h,s,j=>fun k p z=>⟨k,p,z,rfl⟩
 | .cons e .nil,h,s,j=>eV e h.1 s j
 | .cons e (.cons f l),h,s,j=>Lex.app (eV e h.1 _ (dm (.inr (.inr (.inr rfl))))) (Lex.app (t1:=[sg ","]) Lk (wj (.cons f l) h.2 s j))
end
theorem Ej{e:Exp}(h:iy e):(Vbdeaa.tokensOf e.shown).map Prod.fst=T e++[.eof]:=by
 obtain⟨k,p,j,q⟩:=eV e h [] MN (e.shown.length+1) 0 (by rw[mh];lia)
 rw[mh]at q
 unfold Vbdeaa.tokensOf
 rw[q]
 cases k<;>rfl
end MX
end
section
set_option maxRecDepth 10000
namespace MX
open Vbdeaa (Exp Exps Un Bin Tok Text Toks text sg wd unWord binSign binNeeds exp joins atom args peek isTok then_ give opens must joiner oneOf place)
noncomputable def na(j nd n:Nat):Nat:=if j<nd then n+1 else n
mutual
noncomputable def nest:Exp→Nat
 | .num _=>0
 | .name _=>0
 | .un .neg a=>na a.level 7 (nest a)+1
 | .un .not a=>na a.level 3 (nest a)+1
 | .un _ a=>nest a+1
 | .bin o a b=>max (na a.level (binNeeds o).1 (nest a)) (na b.level (binNeeds o).2 (nest b)+(if o=.pow then 1 else 0))
 | .and a b=>max (na a.level 2 (nest a)) (na b.level 3 (nest b))
 | .or a b=>max (na a.level 1 (nest a)) (na b.level 2 (nest b))
 | .cond c a b=>max (nest c) (max (nest a) (nest b))+1
 | .best _ l=>kE l+1
 | .use _ l=>kE l+1
noncomputable def kE:Exps→Nat
 | .nil=>0
 | .cons e l=>max (nest e) (kE l)
end
noncomputable def Res{α:Type}(P:Prop)(x y:Except Nat α):Prop:=(P→x=y)∧(¬P→∃p,x=.error p)
theorem Res.iff{α:Type}{P Q:Prop}{x y:Except Nat α}(h:Res P x y)(e:P↔Q):Res Q x y:=⟨fun q=>h.1 (e.mpr q),fun q=>h.2 fun p=>q (e.mp p)⟩
theorem Res.sure{α:Type}{P:Prop}{x y:Except Nat α}(h:x=y)(p:P):Res P x y:=⟨fun _=>h,fun q=>absurd p q⟩
theorem Res.trans{α:Type}{P Q:Prop}{x y z:Except Nat α}(h:Res P x y)(g:P→Res Q y z):Res (P∧Q) x z:=by
 refine⟨fun j=>(h.1 j.1).trans ((g j.1).1 j.2),fun n=>?_⟩
 by_cases p:P
 ·have:=(g p).2 fun q=>n ⟨p,q⟩
  rw[h.1 p];exact this
 ·exact h.2 p
theorem Res.bind{α β:Type}{P Q:Prop}{m:Vbdeaa.P α}{f:α→Vbdeaa.P β}{t r:Toks}{a:α}{y:Except Nat (β×Toks)}(h:Res P (m t) (.ok (a,r)))(g:P→Res Q (f a r) y):Res (P∧Q) (then_ m f t) y:=by
 refine Res.trans (y:=f a r) ⟨fun p=>?_,fun n=>?_⟩ g
 ·unfold Vbdeaa.then_;rw[h.1 p]
 ·obtain⟨l,e⟩:=h.2 n
  exact⟨l,by unfold Vbdeaa.then_;rw[e]⟩
theorem gf(d:Nat)(t:Toks):Res (0<d) (opens d t) (.ok (d-1,t.drop 1)):=by
 unfold Vbdeaa.opens
 by_cases h:d=0
 ·subst h;exact⟨fun z=>absurd z (by decide),fun _=>⟨place t,rfl⟩⟩
 ·exact⟨fun _=>by rw[ml h],fun z=>absurd (by lia) z⟩
theorem lK{x:Tok}{p:Nat}{t:Toks}:Res True (must x ((x,p)::t)) (.ok ((),t)):=by
 refine Res.sure ?_ trivial
 unfold Vbdeaa.must Vbdeaa.isTok Vbdeaa.peek
 simp
theorem d_{α:Type}(a:α)(t:Toks):Res True (give a t) (.ok (a,t)):=Res.sure rfl trivial
noncomputable def jj(L:Nat)(x:Tok):Prop:=(1≤L→x≠wd "if")∧(4≤L→x≠wd "not")∧(8≤L→x≠sg "-")
theorem jj.le{L M:Nat}{x:Tok}(h:jj L x)(j:M≤L):jj M x:=⟨fun z=>h.1 (by lia),fun z=>h.2.1 (by lia),fun z=>h.2.2 (by lia)⟩
theorem jj.all{x:Tok}(h1:x≠wd "if")(h2:x≠wd "not")(j:x≠sg "-")(L:Nat):jj L x:=⟨fun _=>h1,fun _=>h2,fun _=>j⟩
theorem Jr{e:Exp}{L:Nat}(h:∃x ts,T e=x::ts∧jj e.level x):∃x ts,cl e.level L (T e)=x::ts∧jj L x:=by
 unfold cl
 by_cases c:e.level<L
 ·exact⟨sg "(",_,mr c,jj.all (by decide) (by decide) (by decide) _⟩
 ·obtain⟨x,ts,h1,h2⟩:=h
  exact⟨x,ts,by rw[ml c,h1],h2.le (by lia)⟩
theorem QZ:∀(e:Exp),∃x ts,T e=x::ts∧jj e.level x
 | .num q=>⟨_,_,rfl,jj.all (by simp[Vbdeaa.wd]) (by simp[Vbdeaa.wd]) (by simp[Vbdeaa.sg]) _⟩
 | .name q=>⟨_,_,rfl,jj.all (by simp[Vbdeaa.wd]) (by simp[Vbdeaa.wd]) (by simp[Vbdeaa.sg]) _⟩
 | .un o a=>by
  cases o with
  | neg=>exact⟨_,_,rfl,fun _=>by decide,fun _=>by decide,fun(z:8≤7)=>absurd z (by decide)⟩
  | not=>exact⟨_,_,rfl,fun _=>by decide,fun(z:4≤3)=>absurd z (by decide),fun(z:8≤3)=>absurd z (by decide)⟩
  | floor=>exact⟨_,_,rfl,jj.all (by decide) (by decide) (by decide) _⟩
  | ceil=>exact⟨_,_,rfl,jj.all (by decide) (by decide) (by decide) _⟩
  | abs=>exact⟨_,_,rfl,jj.all (by decide) (by decide) (by decide) _⟩
  | sign=>exact⟨_,_,rfl,jj.all (by decide) (by decide) (by decide) _⟩
  | num=>exact⟨_,_,rfl,jj.all (by decide) (by decide) (by decide) _⟩
  | den=>exact⟨_,_,rfl,jj.all (by decide) (by decide) (by decide) _⟩
 | .bin o a b=>by
  obtain⟨x,ts,h1,h2⟩:=Jr (L:=(binNeeds o).1) (QZ a)
  refine⟨x,ts++(bO o::cl b.level (binNeeds o).2 (T b)),?_,h2.le ?_⟩
  ·show cl a.level (binNeeds o).1 (T a)++_=_
   rw[h1];rfl
  ·cases o<;>exact Nat.le_of_ble_eq_true rfl
 | .and a b=>by
  obtain⟨x,ts,h1,h2⟩:=Jr (L:=2) (QZ a)
  exact⟨x,ts++(wd "and" :: cl b.level 3 (T b)),by show cl a.level 2 (T a)++_=_;rw[h1];rfl,h2⟩
 | .or a b=>by
  obtain⟨x,ts,h1,h2⟩:=Jr (L:=1) (QZ a)
  exact⟨x,ts++(wd "or" :: cl b.level 2 (T b)),by show cl a.level 1 (T a)++_=_;rw[h1];rfl,h2⟩
 | .cond c a b=>⟨_,_,rfl,fun(z:1≤0)=>absurd z (by decide),fun(z:4≤0)=>absurd z (by decide),fun(z:8≤0)=>absurd z (by decide)⟩
 | .best g l=>by cases g<;>exact⟨_,_,rfl,jj.all (by decide) (by decide) (by decide) _⟩
 | .use n l=>⟨_,_,rfl,jj.all (by simp[Vbdeaa.wd]) (by simp[Vbdeaa.wd]) (by simp[Vbdeaa.sg]) _⟩
noncomputable def Stop(L:Nat)(x:Tok):Prop:=x≠sg "("∧(L≤8→x≠sg "^")∧(L≤6→joiner 6 x=none)∧(L≤5→joiner 5 x=none)∧(L≤4→joiner 4 x=none)∧(L≤2→x≠wd "and")∧(L≤1→x≠wd "or")
theorem Stop.le{L M:Nat}{x:Tok}(h:Stop L x)(j:L≤M):Stop M x:=⟨h.1,fun z=>h.2.1 (by lia),fun z=>h.2.2.1 (by lia),fun z=>h.2.2.2.1 (by lia),fun z=>h.2.2.2.2.1 (by lia),fun z=>h.2.2.2.2.2.1 (by lia),fun z=>h.2.2.2.2.2.2 (by lia)⟩
theorem lC{x:Tok}(h:(x≠sg "("∧x≠sg "^"∧joiner 6 x=none∧joiner 5 x=none∧joiner 4 x=none∧x≠wd "and"∧x≠wd "or"))(L:Nat):Stop L x:=⟨h.1,fun _=>h.2.1,fun _=>h.2.2.1,fun _=>h.2.2.2.1,fun _=>h.2.2.2.2.1,fun _=>h.2.2.2.2.2.1,fun _=>h.2.2.2.2.2.2⟩
theorem qX(L:Nat):Stop L (sg ")"):=lC (by decide) L
theorem Eu(L:Nat):Stop L (sg ","):=lC (by decide) L
theorem J9(L:Nat):Stop L (wd "then"):=lC (by decide) L
theorem J_(L:Nat):Stop L (wd "else"):=lC (by decide) L
theorem Nv(L:Nat):Stop L .eof:=lC (by decide) L
noncomputable def XD(e:Exp):Prop:=∀(k d:Nat)(u r:Toks),u.map Prod.fst=T e→12*u.length<k→peek r≠sg "("→Res (nest e≤d) (atom k d (u++r)) (.ok (e,r))
noncomputable def Zf(e:Exp)(L:Nat):Prop:=∀(k d:Nat)(u r:Toks),u.map Prod.fst=T e→12*u.length+(10-L)≤k→Stop L (peek r)→Res (nest e≤d) (exp k d L (u++r)) (.ok (e,r))
noncomputable def Zk(e:Exp)(L:Nat):Prop:=∀(k d:Nat)(u r:Toks),u.map Prod.fst=T e→12*u.length+(10-L)≤k→Stop (L+1) (peek r)→∃j,k≤j+u.length∧Res (nest e≤d) (exp k d L (u++r)) (joins j d L e r)
noncomputable def wU(L:Nat):Prop:=L=1∨(L=2∨(L=5∨L=6))
structure All (e:Exp):Prop where
 par:∀L,L≤8→L≤e.level→Zf e L
 cho:∀L,wU L→L≤e.level→Zk e L
 atm:e.level=9→XD e
theorem wy{k d L:Nat}{e:Exp}{r:Toks}(z:wU L)(D:1≤k)(j:Stop L (peek r)):joins k d L e r=.ok (e,r):=by
 cases k with
 | zero=>contradiction
 | succ k =>
  rcases z with rfl | rfl | rfl | rfl
  ·have h:isTok r (wd "or")=false:=by unfold Vbdeaa.isTok;exact beq_eq_false_iff_ne.mpr (j.2.2.2.2.2.2 (by decide))
   rw[Vbdeaa.joins.eq_2]
   show(if(1:Nat)=1 then(if isTok r (wd "or")=true then _ else _)else _)=_
   rw[mr rfl,h];rfl
  ·have h:isTok r (wd "and")=false:=by unfold Vbdeaa.isTok;exact beq_eq_false_iff_ne.mpr (j.2.2.2.2.2.1 (by decide))
   rw[Vbdeaa.joins.eq_2]
   show(if(2:Nat)=1 then _ else if(2:Nat)=2 then(if isTok r (wd "and")=true then _ else _)else _)=_
   rw[ml (by decide),mr rfl,h];rfl
  ·have h:=j.2.2.2.1 (by decide)
   rw[Vbdeaa.joins.eq_2]
   show(if(5:Nat)=1 then _ else if(5:Nat)=2 then _ else match joiner 5 (peek r)with | some o=>_ | none=>_)=_
   rw[ml (by decide),ml (by decide),h]
  ·have h:=j.2.2.1 (by decide)
   rw[Vbdeaa.joins.eq_2]
   show(if(6:Nat)=1 then _ else if(6:Nat)=2 then _ else match joiner 6 (peek r)with | some o=>_ | none=>_)=_
   rw[ml (by decide),ml (by decide),h]
theorem sE{k d L:Nat}(j:wU L)(t:Toks):exp (k+1) d L t=then_ (exp k d (L+1)) (fun a=>joins k d L a) t:=by
 rcases j with rfl | rfl | rfl | rfl<;>(rw[Vbdeaa.exp.eq_2];rfl)
theorem Di {k d : Nat} (t : Toks) : exp (k + 1) d 4 t = then_ (exp k d 5) (fun a => fun r => match joiner 4 (peek r) with
        | some o=>then_ (exp k d 5) (fun b=>give (.bin o a b)) (r.drop 1)
        | none=>.ok (a,r)) t:=by rw[Vbdeaa.exp.eq_2];rfl
theorem sH{k d:Nat}(t:Toks):exp (k+1) d 8 t=then_ (atom k d) (fun a=>fun r=>if isTok r (sg "^")=true then(then_ (opens d) fun e=>then_ (exp k e 7) fun b=>give (.bin .pow a b)) r else .ok (a,r)) t:=by rw[Vbdeaa.exp.eq_2];rfl
theorem qT{t:Toks}{x:Tok}(h:peek t≠x):isTok t x=false:=by unfold Vbdeaa.isTok;exact beq_eq_false_iff_ne.mpr h
theorem Rb{k d:Nat}{t:Toks}(h:peek t≠wd "if"):exp (k+1) d 0 t=exp k d 1 t:=by
 rw[Vbdeaa.exp.eq_2]
 show(if(0:Nat)=0∧isTok t (wd "if")=true then _ else _)=_
 rw[qT h,ml (by simp)];rfl
theorem Mf{k d:Nat}{t:Toks}(h:peek t≠wd "not"):exp (k+1) d 3 t=exp k d 4 t:=by
 rw[Vbdeaa.exp.eq_2]
 show(if(3:Nat)=0∧_ then _ else if(3:Nat)=3∧isTok t (wd "not")=true then _ else _)=_
 rw[ml (by lia),qT h,ml (by simp)];rfl
theorem Mg{k d:Nat}{t:Toks}(h:peek t≠sg "-"):exp (k+1) d 7 t=exp k d 8 t:=by
 rw[Vbdeaa.exp.eq_2]
 show(if(7:Nat)=0∧_ then _ else if(7:Nat)=3∧_ then _ else if(7:Nat)=7∧isTok t (sg "-")=true then _ else _)=_
 rw[ml (by lia),ml (by lia),qT h,ml (by simp)];rfl
theorem Res.and_true{α:Type}{P:Prop}{x y:Except Nat α}(h:Res (P∧True) x y):Res P x y:=h.iff ⟨fun z=>z.1,fun z=>⟨z,trivial⟩⟩
theorem down{P:Prop}{k d L:Nat}{t r:Toks}{e:Exp}(G:L≤7)(F:1≤k)(h:Res P (exp k d (L+1) t) (.ok (e,r)))(z:jj (L+1) (peek t))(D:Stop L (peek r)):Res P (exp (k+1) d L t) (.ok (e,r)):=by
 have chs:wU L→Res P (exp (k+1) d L t) (.ok (e,r)):=fun j=>by
  rw[sE j]
  exact(Res.bind h fun _=>Res.sure (P:=True) (wy j F D) trivial).and_true
 rcases(show L=0∨wU L∨L=3∨L=4∨L=7 by unfold wU;lia)with rfl | j | rfl | rfl | rfl
 ·rw[Rb (z.1 (by decide))];exact h
 ·exact chs j
 ·rw[Mf (z.2.1 (by decide))];exact h
 ·rw[Di]
  refine(Res.bind h fun _=>Res.sure (P:=True) ?_ trivial).and_true
  rw[D.2.2.2.2.1 (by decide)]
 ·rw[Mg (z.2.2 (by decide))];exact h
theorem Ca{u r:Toks}{x:Tok}{ts:List Tok}(h:u.map Prod.fst=x::ts):peek (u++r)=x:=by
 cases u with
 | nil=>cases h
 | cons y u=>injection h with h1 h2
theorem len_app{u:Toks}{x:Tok}{ts:List Tok}(h:u.map Prod.fst=x::ts):1≤u.length:=by
 cases u with
 | nil=>cases h
 | cons y u=>simp
theorem build{e:Exp}(h1:(e.level=0∨e.level=3∨e.level=4∨e.level=7∨e.level=8)→Zf e e.level)(h2:wU e.level→Zk e e.level)(Z:e.level=9→XD e)(hl:e.level≤9):All e:=by
 obtain⟨x,ts,U,hx⟩:=QZ e
 have par:∀n L,L+n=8→L≤e.level→Zf e L:=by
  intro n
  induction n with
  | zero =>
   intro L hn F k d u r j O z
   have:L=8:=by assumption
   subst this
   by_cases h9:e.level=9
   ·cases k with
    | zero=>contradiction
    | succ k =>
     rw[sH]
     refine(Res.bind (Z h9 k d u r j (by lia) z.1) fun _=>Res.sure (P:=True) ?_ trivial).and_true
     rw[qT (z.2.1 (by decide))];rfl
   ·have S:e.level=8:=by lia
    have:=h1 (.inr (.inr (.inr (.inr S))))
    rw[S]at this
    exact this k d u r j O z
  | succ n ih =>
   intro L hn F k d u r j O z
   by_cases G:L<e.level
   ·have hp:=ih (L+1) (by lia) G
    cases k with
    | zero=>lia
    | succ k =>
     have Y:=hp k d u r j (by lia) (z.le (by lia))
     refine down (by lia) (by have:=len_app (j.trans U);lia) Y ?_ z
     rw[Ca (j.trans U)]
     exact hx.le G
   ·have J:e.level=L:=by lia
    rcases(show(L=0∨L=3∨L=4∨L=7∨L=8)∨wU L by unfold wU;lia)with D | D
    ·have:=h1 (by rw[J];exact D)
     rw[J]at this
     exact this k d u r j O z
    ·have:=h2 (by rw[J];exact D)
     rw[J]at this
     obtain⟨k',ac,hr⟩:=this k d u r j O (z.le (by lia))
     refine(Res.trans hr fun _=>Res.sure (P:=True) (wy D ?_ z) trivial).and_true
     have:=len_app (j.trans U)
     lia
 refine⟨fun L S F=>par (8-L) L (by lia) F,fun L D F=>?_,Z⟩
 by_cases G:L<e.level
 ·intro k d u r j O z
  have S:L+1≤8:=by unfold wU at D;lia
  cases k with
  | zero=>unfold wU at D;lia
  | succ k =>
   refine⟨k,by have:=len_app (j.trans U);lia,?_⟩
   rw[sE D]
   exact(Res.bind (par (8-(L+1)) (L+1) (by lia) G k d u r j (by lia) z) fun _=>Res.sure (P:=True) rfl trivial).and_true
 ·have J:e.level=L:=by lia
  have:=h2 (by rw[J];exact D)
  rw[J]at this
  exact this
end MX
end
section
set_option maxRecDepth 10000
namespace MX
open Vbdeaa (Exp Exps Un Bin Tok Text Toks text sg wd unWord binSign binNeeds exp joins atom args peek isTok then_ give opens must joiner oneOf place)
theorem bf{u:Toks}{x:Tok}{ts:List Tok}(h:u.map Prod.fst=x::ts):∃p v,u=(x,p)::v∧v.map Prod.fst=ts:=by
 cases u with
 | nil=>cases h
 | cons y u =>
  obtain⟨a,p⟩:=y
  injection h with h1 h2
  subst h1
  exact⟨p,u,rfl,h2⟩
theorem cQ{u:Toks}{a b:List Tok}(h:u.map Prod.fst=a++b):∃v w,u=v++w∧v.map Prod.fst=a∧w.map Prod.fst=b:=by
 obtain⟨v,w,h1,h2,j⟩:=List.map_eq_append_iff.mp h
 exact⟨v,w,h1,h2,j⟩
theorem MF{k d p:Nat}(t:Toks):atom (k+1) d ((sg "(",p)::t)=then_ (opens d) (fun e=>then_ (exp k e 0) fun a=>then_ (must (sg ")")) fun _=>give a) ((sg "(",p)::t):=by
 rw[Vbdeaa.atom.eq_2];rfl
theorem oJ{e:Exp}(h:All e){k d:Nat}{u r:Toks}(D:u.map Prod.fst=sg "(" :: (T e++[sg ")"]))(j:12*u.length<k):Res (nest e+1≤d) (atom k d (u++r)) (.ok (e,r)):=by
 obtain⟨p,v,rfl,F⟩:=bf D
 obtain⟨w,x,rfl,hw,hx⟩:=cQ F
 obtain⟨p2,y,rfl,z⟩:=bf hx
 cases y with
 | cons a b=>cases z
 | nil =>
  cases k with
  | zero=>contradiction
  | succ k =>
   simp only[io,jp,lT]at j
   rw[ma,MF,lv]
   refine(Res.bind (gf d _) fun h0=>Res.bind (h.par 0 (by decide) (by lia) k (d-1) w ((sg ")",p2)::([]++r)) hw (by lia) (qX 0)) fun _=>Res.bind lK fun _=>d_ e _).iff ?_
   simp only[and_true,true_and];lia
theorem oX{e:Exp}(h:All e){L:Nat}(J:L≤8){k d:Nat}{u r:Toks}(j:u.map Prod.fst=cl e.level L (T e))(z:12*u.length+(10-L)≤k)(D:Stop L (peek r)):Res (na e.level L (nest e)≤d) (exp k d L (u++r)) (.ok (e,r)):=by
 unfold cl at j
 unfold na
 by_cases c:e.level<L
 ·rw[mr c]at j ⊢
  have S:∀n M,M+n=8→L≤M→∀k,12*u.length+(10-M)≤k→Res (nest e+1≤d) (exp k d M (u++r)) (.ok (e,r)):=by
   intro n
   induction n with
   | zero =>
    intro M G F k z
    have:M=8:=by assumption
    subst this
    cases k with
    | zero=>contradiction
    | succ k =>
     rw[sH]
     refine(Res.bind (oJ h j (by lia)) fun _=>Res.sure (P:=True) ?_ trivial).and_true
     rw[qT (D.2.1 (by assumption))];rfl
   | succ n O =>
    intro M G F k z
    cases k with
    | zero=>lia
    | succ k =>
     refine down (by lia) (by have:=len_app j;lia) (O (M+1) (by lia) (by lia) k (by lia)) ?_ (D.le F)
     rw[Ca j]
     exact jj.all (by decide) (by decide) (by decide) _
  exact S (8-L) L (by lia) (i' _) k z
 ·rw[ml c]at j ⊢
  exact h.par L J (by lia) k d u r j z D
theorem UT{e:Exp}(h:All e)(F:e.level≤9){k d:Nat}{u r:Toks}(j:u.map Prod.fst=cl e.level 9 (T e))(z:12*u.length<k)(D:peek r≠sg "("):Res (na e.level 9 (nest e)≤d) (atom k d (u++r)) (.ok (e,r)):=by
 unfold cl at j
 unfold na
 by_cases c:e.level<9
 ·rw[mr c]at j ⊢
  exact oJ h j z
 ·rw[ml c]at j ⊢
  exact h.atm (by lia) k d u r j z D
theorem Xa{e:Exp}(h:All e){L:Nat}(z:wU L){k d:Nat}{u r:Toks}(j:u.map Prod.fst=cl e.level L (T e))(O:12*u.length+(10-L)≤k)(G:Stop (L+1) (peek r)) :
  ∃F,k≤F+u.length∧Res (na e.level L (nest e)≤d) (exp k d L (u++r)) (joins F d L e r):=by
 by_cases c:e.level<L
 ·have J:na e.level L (nest e)=na e.level (L+1) (nest e):=by unfold na;rw[mr c,mr (by lia)]
  have D:u.map Prod.fst=cl e.level (L+1) (T e):=by rw[j];unfold cl;rw[mr c,mr (by lia)]
  have S:L+1≤8:=by unfold wU at z;lia
  cases k with
  | zero=>lia
  | succ k =>
   refine⟨k,?_,?_⟩
   ·have:=Jr (L:=L) (QZ e)
    obtain⟨x,ts,hx,_⟩:=this
    have:=len_app (j.trans hx)
    lia
   ·rw[sE z,J]
    exact(Res.bind (oX h S D (by lia) G) fun _=>Res.sure (P:=True) rfl trivial).and_true
 ·unfold cl at j
  unfold na
  rw[ml c]at j ⊢
  exact h.cho L z (by lia) k d u r j O G
theorem Ab{e a b:Exp}{L:Nat}{o:Tok}(j:wU L)(ha:All a)(Y:All b)(hT:T e=cl a.level L (T a)++(o::cl b.level (L+1) (T b)))(O:nest e=max (na a.level L (nest a)) (na b.level (L+1) (nest b)))
  (ho:Stop (L+1) o) (J:∀k d p t,joins (k+1) d L a ((o,p)::t)=then_ (exp k d (L+1)) (fun b=>joins k d L (match e with | .and _ _=>.and a b | .or _ _=>.or a b | .bin o _ _=>.bin o a b | x=>x)) t)
  (he:(match e with | .and _ _=>.and a b | .or _ _=>.or a b | .bin o _ _=>.bin o a b | x=>x)=e):Zk e L:=by
 intro k d u r F S hs
 rw[hT]at F
 obtain⟨Z,v,rfl,D,hv⟩:=cQ F
 obtain⟨p,U,rfl,z⟩:=bf hv
 simp only[jp,io]at S ⊢
 obtain⟨k1,ac,G⟩:=Xa ha j (k:=k) (d:=d) (u:=Z) (r:=(o,p)::(U++r)) D (by lia) ho
 cases k1 with
 | zero=>unfold wU at j;lia
 | succ k1 =>
  refine⟨k1,by lia,?_⟩
  rw[lv,ma]
  rw[J]at G
  refine(Res.trans G fun _=>Res.bind (oX Y (by unfold wU at j;lia) z (by lia) hs) fun _=>Res.sure (P:=True) (by rw[he]) trivial).iff ?_
  rw[O]
  simp only[and_true,true_and];lia
theorem level_le(e:Exp):e.level≤9:=by
 cases e with
 | un o a=>cases o<;>exact Nat.le_of_ble_eq_true rfl
 | bin o a b=>cases o<;>exact Nat.le_of_ble_eq_true rfl
 | _=>exact Nat.le_of_ble_eq_true rfl
theorem mO{e:Exp}(j:e.level=9)(h:XD e):All e:=build (fun z=>by lia) (fun z=>by unfold wU at z;lia) (fun _=>h) (by lia)
theorem qP{e:Exp}{L:Nat}(j:e.level=L)(D:L=0∨L=3∨L=4∨L=7∨L=8)(h:Zf e L):All e:=build (fun z=>by rw[j];exact h) (fun z=>by unfold wU at z;lia) (fun _=>by lia) (by lia)
theorem Ao{e:Exp}{L:Nat}(D:e.level=L)(j:wU L)(h:Zk e L):All e:=build (fun z=>by unfold wU at j;lia) (fun z=>by rw[D];exact h) (fun _=>by unfold wU at j;lia) (by unfold wU at j;lia)
theorem U5(q:Vbdeaa.Q):All (.num q):=mO rfl fun k d u r j F D=>by
 obtain⟨p,v,rfl,z⟩:=bf j
 cases v with
 | cons a b=>cases z
 | nil =>
  cases k with
  | zero=>contradiction
  | succ k=>rw[Vbdeaa.atom.eq_2];exact Res.sure rfl (Nat.zero_le _)
theorem Ru(n:Text):All (.name n):=mO rfl fun k d u r j F z=>by
 obtain⟨p,v,rfl,D⟩:=bf j
 cases v with
 | cons a b=>cases D
 | nil =>
  cases k with
  | zero=>contradiction
  | succ k =>
   rw[Vbdeaa.atom.eq_2]
   refine Res.sure ?_ (Nat.zero_le _)
   show(if isTok r (sg "(")=true then _ else _)=_
   rw[qT z];rfl
theorem U7{a:Exp}(h:All a):All (.un .neg a):=qP (L:=7) rfl (by decide) fun k d u r F z D=>by
 obtain⟨p,v,rfl,G⟩:=bf F
 simp only[io]at z
 cases k with
 | zero=>contradiction
 | succ k =>
  have j:exp (k+1) d 7 ((sg "-",p)::v++r)=then_ (opens d) (fun e=>then_ (exp k e 7) fun a=>give (Exp.un .neg a)) ((sg "-",p)::v++r):=by rw[Vbdeaa.exp.eq_2];rfl
  rw[j]
  refine(Res.bind (gf d _) fun h0=>Res.bind (oX h (by decide) (k:=k) (u:=v) (r:=r) G (by lia) D) fun _=>d_ (Exp.un .neg a) _).iff ?_
  show _↔na a.level 7 (nest a)+1≤d
  simp only[and_true,true_and];lia
theorem U6{a:Exp}(h:All a):All (.un .not a):=qP (L:=3) rfl (by decide) fun k d u r F z D=>by
 obtain⟨p,v,rfl,G⟩:=bf F
 simp only[io]at z
 cases k with
 | zero=>contradiction
 | succ k =>
  have j:exp (k+1) d 3 ((wd "not",p)::v++r)=then_ (opens d) (fun e=>then_ (exp k e 3) fun a=>give (Exp.un .not a)) ((wd "not",p)::v++r):=by rw[Vbdeaa.exp.eq_2];rfl
  rw[j]
  refine(Res.bind (gf d _) fun h0=>Res.bind (oX h (by decide) (k:=k) (u:=v) (r:=r) G (by lia) D) fun _=>d_ (Exp.un .not a) _).iff ?_
  show _↔na a.level 3 (nest a)+1≤d
  simp only[and_true,true_and];lia
theorem Xj{o:Un}{a:Exp}(j:pH o=true)(h:All a):All (.un o a):=by
 have F:(Exp.un o a).level=9:=by cases o<;>first | rfl | cases j
 have G:nest (.un o a)=nest a+1:=by cases o<;>first | rfl | cases j
 refine mO F fun k d u r D L Y=>?_
 rw[(vm j a).2]at D
 obtain⟨p,v,rfl,U⟩:=bf D
 obtain⟨p1,v1,rfl,z⟩:=bf U
 obtain⟨w,x,rfl,hw,hx⟩:=cQ z
 obtain⟨p2,y,rfl,S⟩:=bf hx
 cases y with
 | cons a b=>cases S
 | nil =>
  simp only[io,jp,lT]at L
  cases k with
  | zero=>contradiction
  | succ k =>
   have J:atom (k+1) d ((wd (unWord o),p)::(sg "(",p1)::(w++[(sg ")",p2)])++r)=then_ (opens d) (fun e=>then_ (exp k e 0) fun a=>then_ (must (sg ")")) fun _=>give (Exp.un o a)) ((sg "(",p1)::(w++((sg ")",p2)::r))):=by
    rw[Vbdeaa.atom.eq_2]
    have O:w++[(sg ")",p2)]++r=w++((sg ")",p2)::r):=by simp
    rw[ma,ma,O]
    cases o<;>first | rfl | cases j
   rw[J,G]
   refine(Res.bind (gf d _) fun h0=>Res.bind (h.par 0 (by decide) (by lia) k (d-1) w ((sg ")",p2)::r) hw (by lia) (qX 0)) fun _=>Res.bind lK fun _=>d_ (Exp.un o a) _).iff ?_
   simp only[and_true,true_and];lia
theorem Rv{c a b:Exp}(Y:All c)(ha:All a)(hb:All b):All (.cond c a b):=qP (L:=0) rfl (by decide) fun k d u r hu hk hs=>by
 obtain⟨p,v,rfl,hv⟩:=bf hu
 obtain⟨D,v1,rfl,F,S⟩:=cQ hv
 obtain⟨p1,v2,rfl,U⟩:=bf S
 obtain⟨z,v3,rfl,O,G⟩:=cQ U
 obtain⟨p2,j,rfl,J⟩:=bf G
 simp only[io,jp]at hk
 cases k with
 | zero=>contradiction
 | succ k =>
  have ea:(wd "if",p)::(D++((wd "then",p1)::(z++((wd "else",p2)::j))))++r=(wd "if",p)::(D++((wd "then",p1)::(z++((wd "else",p2)::(j++r))))):=by simp
  have Z:∀t:Toks,exp (k+1) d 0 ((wd "if",p)::t)=then_ (opens d) (fun e=>then_ (exp k e 0) fun c=>then_ (must (wd "then")) fun _=>then_ (exp k e 0) fun a=>then_ (must (wd "else")) fun _=>then_ (exp k e 0) fun b=>give (Exp.cond c a b)) ((wd "if",p)::t):=fun t=>by rw[Vbdeaa.exp.eq_2];rfl
  rw[ea,Z]
  refine(Res.bind (gf d _) fun h0=>Res.bind (Y.par 0 (by decide) (by lia) k (d-1) D ((wd "then",p1)::(z++((wd "else",p2)::(j++r)))) F (by lia) (J9 0)) fun _=>Res.bind lK fun _ =>
   Res.bind (ha.par 0 (by decide) (by lia) k (d-1) z ((wd "else",p2)::(j++r)) O (by lia) (J_ 0)) fun _=>Res.bind lK fun _=>Res.bind (hb.par 0 (by decide) (by lia) k (d-1) j r J (by lia) hs) fun _=>d_ (Exp.cond c a b) _).iff ?_
  show _↔max (nest c) (max (nest a) (nest b))+1≤d
  simp only[and_true,true_and];lia
theorem U9{a b:Exp}(j:All a)(D:All b):All (.and a b):=Ao (L:=2) rfl (.inr (.inl rfl)) (Ab (o:=wd "and") (.inr (.inl rfl)) j D rfl rfl (by refine⟨by decide,fun _=>by decide,fun _=>by decide,fun _=>by decide,fun _=>by decide,fun z=>by contradiction,fun z=>by decide⟩) (fun k d p t=>by rw[Vbdeaa.joins.eq_2];rfl) rfl)
theorem Xk{a b:Exp}(j:All a)(D:All b):All (.or a b):=Ao (L:=1) rfl (.inl rfl) (Ab (o:=wd "or") (.inl rfl) j D rfl rfl (by refine⟨by decide,fun _=>by decide,fun _=>by decide,fun _=>by decide,fun _=>by decide,fun z=>by decide,fun z=>by contradiction⟩) (fun k d p t=>by rw[Vbdeaa.joins.eq_2];rfl) rfl)
theorem U4{a b:Exp}(ha:All a)(Y:All b):All (.bin .pow a b):=qP (L:=8) rfl (by decide) fun k d u r J U O=>by
 have J:u.map Prod.fst=cl a.level 9 (T a)++(sg "^" :: cl b.level 7 (T b)):=J
 obtain⟨Z,v,rfl,G,hv⟩:=cQ J
 obtain⟨p,j,rfl,F⟩:=bf hv
 simp only[jp,io]at U
 cases k with
 | zero=>contradiction
 | succ k =>
  rw[sH,lv,ma]
  have S:∀(x:Exp)(t:Toks),(if isTok ((sg "^",p)::t) (sg "^")=true then(then_ (opens d) fun e=>then_ (exp k e 7) fun b=>give (Exp.bin .pow x b)) ((sg "^",p)::t)else .ok (x,((sg "^",p)::t)))=(then_ (opens d) fun e=>then_ (exp k e 7) fun b=>give (Exp.bin .pow x b)) ((sg "^",p)::t):=fun x t=>rfl
  have D:Stop 7 (peek r):=⟨O.1,fun _=>O.2.1 (by decide),fun z=>by contradiction,fun z=>by contradiction,fun z=>by contradiction,fun z=>by contradiction,fun z=>by contradiction⟩
  refine(Res.bind (UT ha (level_le a) (k:=k) (d:=d) (u:=Z) (r:=(sg "^",p)::(j++r)) G (by lia) (show sg "^"≠sg "(" by decide)) (Q:=0<d∧na b.level 7 (nest b)≤d-1∧True) fun _=>?_).iff ?_
  ·show Res _ (if isTok ((sg "^",p)::(j++r)) (sg "^")=true then _ else _) _
   rw[S]
   exact Res.bind (gf d _) fun h0=>Res.bind (oX Y (by decide) (k:=k) (u:=j) (r:=r) F (by lia) D) fun _=>d_ (Exp.bin .pow a b) _
  ·show _↔max (na a.level 9 (nest a)) (na b.level 7 (nest b)+1)≤d
   simp only[and_true,true_and];lia
theorem nT{o:Bin}{a b:Exp}(ho:joiner 4 (bO o)=some o∧binNeeds o=(5,5)∧(o≠.pow)∧(∀a b,(Exp.bin o a b).level=4)∧joiner 5 (bO o)=none∧joiner 6 (bO o)=none∧bO o≠sg "("∧bO o≠sg "^")(ha:All a)(hb:All b):All (.bin o a b):=by
 obtain⟨h1,h2,h3,Y,h5,h6,Z,U⟩:=ho
 refine qP (L:=4) (Y a b) (by decide) fun k d u r G S hs=>?_
 have G:u.map Prod.fst=cl a.level (binNeeds o).1 (T a)++(bO o::cl b.level (binNeeds o).2 (T b)):=G
 rw[h2]at G
 obtain⟨J,v,rfl,D,hv⟩:=cQ G
 obtain⟨p,F,rfl,j⟩:=bf hv
 simp only[jp,io]at S
 cases k with
 | zero=>contradiction
 | succ k =>
  rw[Di,lv,ma]
  have D:J.map Prod.fst=cl a.level 5 (T a):=D
  have j:F.map Prod.fst=cl b.level 5 (T b):=j
  refine(Res.bind (oX ha (L:=5) (by decide) (k:=k) (d:=d) (u:=J) (r:=(bO o,p)::(F++r)) D (by lia) ⟨Z,fun _=>U,fun _=>h6,fun _=>h5,fun z=>by contradiction,fun z=>by contradiction,fun z=>by contradiction⟩) (Q:=na b.level 5 (nest b)≤d∧True) fun _=>?_).iff ?_
  ·have O:peek ((bO o,p)::(F++r))=bO o:=rfl
   simp only[O,h1,List.drop_succ_cons,List.drop_zero]
   exact Res.bind (oX hb (L:=5) (by decide) (k:=k) (u:=F) (r:=r) j (by lia) (hs.le (by decide))) fun _=>d_ (Exp.bin o a b) _
  ·have:nest (.bin o a b)=max (na a.level (binNeeds o).1 (nest a)) (na b.level (binNeeds o).2 (nest b)+(if o=.pow then 1 else 0)):=rfl
   rw[this,h2,ml h3]
   show _↔max (na a.level 5 (nest a)) (na b.level 5 (nest b)+0)≤d
   simp only[and_true,true_and];lia
theorem nQ{o:Bin}{a b:Exp}{L:Nat}(j:wU L)(S:joiner L (bO o)=some o∧binNeeds o=(L,L+1)∧(o≠.pow)∧(∀a b,(Exp.bin o a b).level=L)∧Stop (L+1) (bO o))(U:3≤L)(O:All a)(F:All b):All (.bin o a b):=by
 obtain⟨h1,h2,J,D,G⟩:=S
 refine Ao (D a b) j (Ab (o:=bO o) j O F ?_ ?_ G (fun k d p t=>?_) rfl)
 ·show cl a.level (binNeeds o).1 (T a)++(bO o::cl b.level (binNeeds o).2 (T b))=_
  rw[h2]
 ·show max (na a.level (binNeeds o).1 (nest a)) (na b.level (binNeeds o).2 (nest b)+(if o=.pow then 1 else 0))=_
  rw[h2,ml J];rfl
 ·rw[Vbdeaa.joins.eq_2]
  have z:peek ((bO o,p)::t)=bO o:=rfl
  simp only[z,h1,List.drop_succ_cons,List.drop_zero]
  rw[ml (by lia),ml (by lia)]
theorem U8(o:Bin){a b:Exp}(D:All a)(j:All b):All (.bin o a b):=by
 cases o with
 | pow=>exact U4 D j
 | eq=>exact nT ⟨by decide,by decide,by decide,fun _ _=>rfl,by decide,by decide,by decide,by decide⟩ D j
 | ne=>exact nT ⟨by decide,by decide,by decide,fun _ _=>rfl,by decide,by decide,by decide,by decide⟩ D j
 | lt=>exact nT ⟨by decide,by decide,by decide,fun _ _=>rfl,by decide,by decide,by decide,by decide⟩ D j
 | le=>exact nT ⟨by decide,by decide,by decide,fun _ _=>rfl,by decide,by decide,by decide,by decide⟩ D j
 | gt=>exact nT ⟨by decide,by decide,by decide,fun _ _=>rfl,by decide,by decide,by decide,by decide⟩ D j
 | ge=>exact nT ⟨by decide,by decide,by decide,fun _ _=>rfl,by decide,by decide,by decide,by decide⟩ D j
 | add=>exact nQ (L:=5) (.inr (.inr (.inl rfl))) ⟨by decide,by decide,by decide,fun _ _=>rfl,by decide,fun _=>by decide,fun _=>by decide,fun z=>by contradiction,fun z=>by decide,fun z=>by decide,fun z=>by decide⟩ (by decide) D j
 | sub=>exact nQ (L:=5) (.inr (.inr (.inl rfl))) ⟨by decide,by decide,by decide,fun _ _=>rfl,by decide,fun _=>by decide,fun _=>by decide,fun z=>by contradiction,fun z=>by decide,fun z=>by decide,fun z=>by decide⟩ (by decide) D j
 | mul=>exact nQ (L:=6) (.inr (.inr (.inr rfl))) ⟨by decide,by decide,by decide,fun _ _=>rfl,by decide,fun _=>by decide,fun z=>by contradiction,fun z=>by decide,fun z=>by decide,fun z=>by decide,fun z=>by decide⟩ (by decide) D j
 | div=>exact nQ (L:=6) (.inr (.inr (.inr rfl))) ⟨by decide,by decide,by decide,fun _ _=>rfl,by decide,fun _=>by decide,fun z=>by contradiction,fun z=>by decide,fun z=>by decide,fun z=>by decide,fun z=>by decide⟩ (by decide) D j
 | quo=>exact nQ (L:=6) (.inr (.inr (.inr rfl))) ⟨by decide,by decide,by decide,fun _ _=>rfl,by decide,fun _=>by decide,fun z=>by contradiction,fun z=>by decide,fun z=>by decide,fun z=>by decide,fun z=>by decide⟩ (by decide) D j
 | rem=>exact nQ (L:=6) (.inr (.inr (.inr rfl))) ⟨by decide,by decide,by decide,fun _ _=>rfl,by decide,fun _=>by decide,fun z=>by contradiction,fun z=>by decide,fun z=>by decide,fun z=>by decide,fun z=>by decide⟩ (by decide) D j
noncomputable def RB:Exps→Prop
 | .nil=>True
 | .cons e l=>All e∧RB l
theorem xf:∀(l:Exps),l≠.nil→RB l→∀(k d:Nat)(u r:Toks),u.map Prod.fst=TA l++[sg ")"]→12*u.length+11≤k→Res (kE l≤d) (args k d (u++r)) (.ok (l,r))
 | .nil,D,_,_,_,_,_,_,_=>absurd rfl D
 | .cons e .nil,_,h,k,d,u,r,j,z=>by
  obtain⟨w,x,rfl,hw,hx⟩:=cQ j
  obtain⟨p2,y,rfl,F⟩:=bf hx
  cases y with
  | cons a b=>cases F
  | nil =>
   simp only[io,jp,lT]at z
   cases k with
   | zero=>contradiction
   | succ k =>
    rw[Vbdeaa.args.eq_2,lv]
    refine(Res.bind (h.1.par 0 (by decide) (by lia) k d w ((sg ")",p2)::([]++r)) hw (by lia) (qX 0)) (Q:=True∧True) fun _=>?_).iff ?_
    ·show Res _ (if isTok ((sg ")",p2)::r) (sg ",")=true then _ else _) _
     have:isTok ((sg ")",p2)::r) (sg ",")=false:=rfl
     rw[this]
     show Res _ (then_ (must (sg ")")) (fun _=>give (Exps.cons e .nil)) ((sg ")",p2)::r)) _
     exact Res.bind lK fun _=>d_ (Exps.cons e .nil) _
    ·show _↔max (nest e) 0≤d
     simp only[and_true,true_and];lia
 | .cons e (.cons f l),_,h,k,d,u,r,j,z=>by
  have j:u.map Prod.fst=T e++(sg "," :: TA (.cons f l))++[sg ")"]:=j
  rw[lv,ma]at j
  obtain⟨w,x,rfl,hw,hx⟩:=cQ j
  obtain⟨p2,y,rfl,F⟩:=bf hx
  simp only[io,jp,lT]at z
  cases k with
  | zero=>contradiction
  | succ k =>
   rw[Vbdeaa.args.eq_2,lv]
   refine(Res.bind (h.1.par 0 (by decide) (by lia) k d w ((sg ",",p2)::(y++r)) hw (by lia) (Eu 0)) (Q:=kE (.cons f l)≤d∧True) fun _=>?_).iff ?_
   ·show Res _ (if isTok ((sg ",",p2)::(y++r)) (sg ",")=true then _ else _) _
    have:isTok ((sg ",",p2)::(y++r)) (sg ",")=true:=rfl
    rw[this,mr rfl]
    exact Res.bind (xf (.cons f l) (by simp) h.2 k d y r F (by lia)) fun _=>d_ (Exps.cons e (.cons f l)) _
   ·show _↔max (nest e) (kE (.cons f l))≤d
    simp only[and_true,true_and];lia
theorem U3{n:Text}{l:Exps}(z:l≠.nil)(h:RB l):All (.use n l):=mO rfl fun k d u r G F L=>by
 obtain⟨p,v,rfl,J⟩:=bf G
 obtain⟨p1,v1,rfl,j⟩:=bf J
 simp only[io]at F
 cases k with
 | zero=>contradiction
 | succ k =>
  have D:atom (k+1) d ((.name n,p)::(sg "(",p1)::v1++r)=then_ (opens d) (fun e=>then_ (args k e) fun l=>give (Exp.use n l)) ((sg "(",p1)::(v1++r)):=by rw[Vbdeaa.atom.eq_2];rfl
  rw[D]
  refine(Res.bind (gf d _) fun h0=>Res.bind (xf l z h k (d-1) v1 r j (by lia)) fun _=>d_ (Exp.use n l) _).iff ?_
  show _↔kE l+1≤d
  simp only[and_true,true_and];lia
theorem Rw{g:Bool}{l:Exps}(z:l≠.nil)(h:RB l):All (.best g l):=mO rfl fun k d u r G F L=>by
 obtain⟨p,v,rfl,J⟩:=bf G
 obtain⟨p1,v1,rfl,j⟩:=bf J
 simp only[io]at F
 cases k with
 | zero=>contradiction
 | succ k =>
  have D:atom (k+1) d ((wd (if g=true then "max" else "min"),p)::(sg "(",p1)::v1++r)=then_ (opens d) (fun e=>then_ (args k e) fun l=>give (Exp.best g l)) ((sg "(",p1)::(v1++r)):=by
   rw[Vbdeaa.atom.eq_2]
   cases g<;>rfl
  rw[D]
  refine(Res.bind (gf d _) fun h0=>Res.bind (xf l z h k (d-1) v1 r j (by lia)) fun _=>d_ (Exp.best g l) _).iff ?_
  show _↔kE l+1≤d
  simp only[and_true,true_and];lia
mutual
theorem fZ:∀(e:Exp),iy e→All e
 | .num q,_=>U5 q
 | .name n,_=>Ru n
 | .un o a,h=>by
  have j:=fZ a h
  by_cases z:pH o=true
  ·exact Xj z j
  ·cases o with
   | neg=>exact U7 j
   | not=>exact U6 j
   | _=>exact absurd rfl z
 | .bin o a b,h=>U8 o (fZ a h.1) (fZ b h.2)
 | .and a b,h=>U9 (fZ a h.1) (fZ b h.2)
 | .or a b,h=>Xk (fZ a h.1) (fZ b h.2)
 | .cond c a b,h=>Rv (fZ c h.1) (fZ a h.2.1) (fZ b h.2.2)
 | .best g l,h=>Rw h.2 (xg l h.1)
 | .use n l,h=>U3 h.2.2 (xg l h.2.1)
theorem xg:∀(l:Exps),xj l→RB l
 | .nil,_=>trivial
 | .cons e l,h=>⟨fZ e h.1,xg l h.2⟩
end
theorem vQ{e:Exp}(h:iy e):Res (nest e≤32) (Vbdeaa.readExp e.shown) (.ok e):=by
 have J:=Ej h
 obtain⟨u,x,D,G,hx⟩:=cQ J
 obtain⟨p,y,rfl,F⟩:=bf hx
 cases y with
 | cons a b=>cases F
 | nil =>
  have:=(fZ e h).par 0 (by decide) (by lia) (Vbdeaa.enough (u++[(Tok.eof,p)])) 32 u [(Tok.eof,p)] G (by unfold Vbdeaa.enough;simp only[jp,io,lT];lia) (Nv 0)
  unfold Vbdeaa.readExp
  rw[D]
  refine⟨fun j=>?_,fun j=>?_⟩
  ·have z:=this.1 j
   show(match exp (Vbdeaa.enough (u++[(Tok.eof,p)])) 32 0 (u++[(Tok.eof,p)])with | .error p=>_ | .ok (e,r)=>_)=_
   rw[z];rfl
  ·obtain⟨l,z⟩:=this.2 j
   refine⟨l,?_⟩
   show(match exp (Vbdeaa.enough (u++[(Tok.eof,p)])) 32 0 (u++[(Tok.eof,p)])with | .error p=>_ | .ok (e,r)=>_)=_
   rw[z]
theorem zG{e:Exp}(h:iy e):Vbdeam.readable e=true↔e.height≤32∧nest e≤32:=by
 unfold Vbdeam.readable
 rw[lj,mo]
 refine and_congr Iff.rfl ?_
 by_cases j:nest e≤32
 ·rw[(vQ h).1 j]
  simp only[j]
 ·obtain⟨p,z⟩:=(vQ h).2 j
  rw[z]
  simp[j]
end MX
end
section
set_option maxRecDepth 10000
namespace MX
open Vbdeaa (Exp Exps Un Bin Ins Code Text)
open Vbdeam (plain orParts andParts ifParts size sizeAll joinBest argName)
noncomputable def tu(t:Text):Prop:=Vbdeaa.isName t=true∧∀c∈t,0≤c
noncomputable def qu(t:Text):Bool:=Vbdeaa.isName t&&t.all fun c=>decide (0≤c)
theorem rO{t:Text}(h:qu t=true):tu t:=by
 unfold qu at h
 rw[lj]at h
 exact⟨h.1,fun c j=>mn (mv.mp h.2 c j)⟩
theorem UW:((List.range 8).all fun i=>qu (argName i))=true:=by decide +kernel
theorem tabs_ok:((List.range 64).all fun i=>qu (Vbdeam.nameOf 10 i)&&qu (Vbdeam.nameOf 11 i))=true:=by decide +kernel
theorem Xf{i:Nat}(h:i<8):tu (argName i):=rO (mv.mp UW i (mx.mpr h))
theorem qU{i:Nat}(h:i<64):tu (Vbdeam.nameOf 10 i)∧tu (Vbdeam.nameOf 11 i):=by
 have:=mv.mp tabs_ok i (mx.mpr h)
 rw[lj]at this
 exact⟨rO this.1,rO this.2⟩
theorem Ra{l:List Exp}(h:∀e∈l,iy e):xj (Vbdeam.exps l):=by
 induction l with
 | nil=>exact trivial
 | cons x r z=>exact⟨h x ci,z fun e j=>h e (am _ j)⟩
theorem QK{g:Bool}{x y:Exp}(hx:iy x)(j:iy y):iy (joinBest g x y):=by
 unfold Vbdeam.joinBest
 split
 ·rename_i h l
  split
  ·exact⟨⟨hx,j.1⟩,by simp⟩
  ·exact⟨⟨hx,j,trivial⟩,by simp⟩
 ·exact⟨⟨hx,j,trivial⟩,by simp⟩
theorem Kw{n:Nat}(L:n≤8)(J:∀k t,Vbdeam.readName k=some t→tu t){i:Ins}{st t:List Exp}(j:∀e∈st,iy e)(h:plain n i st=some t):∀e∈t,iy e:=by
 have tl:∀{x:Exp}{r:List Exp},iy x→(∀e∈r,iy e)→∀e∈x::r,iy e:=fun hx J e D=>by
  rcases j'.mp D with rfl | D
  ·exact hx
  ·exact J e D
 cases i with
 | push q =>
  unfold Vbdeam.plain at h;simp only at h
  split at h
  ·next G=>cases h;exact tl G j
  ·cases h
 | arg k =>
  unfold Vbdeam.plain at h;simp only at h
  split at h
  ·next G=>cases h;exact tl (Xf (by lia)) j
  ·cases h
 | var k =>
  unfold Vbdeam.plain at h;simp only at h
  obtain⟨x,hx,e⟩:=cr.mp h
  subst e
  exact tl (J k x hx) j
 | un o =>
  cases st with
  | nil=>cases h
  | cons x st=>cases h;exact tl (j x ci) fun e D=>j e (am _ D)
 | bin o =>
  match st,h,j with
  | y::x::st,h,j=>cases h;exact tl ⟨j x (am _ ci),j y ci⟩ fun e D=>j e (am _ (am _ D))
 | table k =>
  cases st with
  | nil=>cases h
  | cons x st =>
   unfold Vbdeam.plain at h;simp only at h
   split at h
   ·next hk=>cases h;exact tl ⟨(qU hk).1,⟨j x ci,trivial⟩,by simp⟩ fun e D=>j e (am _ D)
   ·cases h
 | call f m =>
  unfold Vbdeam.plain at h;simp only at h
  split at h
  ·cases h
  ·next hc =>
   split at h
   ·cases h;exact tl (qU (by lia)).2 j
   ·next hm =>
    cases h
    refine tl ⟨(qU (by lia)).2,Ra fun e D=>j e (List.mem_of_mem_take (List.mem_reverse.mp D)),?_⟩ fun e D=>j e (List.mem_of_mem_drop D)
    intro z
    have F:(st.take m).reverse.length=m:=by rw[List.length_reverse,lp];lia
    cases G:(st.take m).reverse with
    | nil=>rw[G]at F;exact hm F.symm
    | cons a b=>rw[G]at z;cases z
 | best g =>
  match st,h,j with
  | y::x::st,h,j=>cases h;exact tl (QK (j x (am _ ci)) (j y ci)) fun e D=>j e (am _ (am _ D))
 | zero k=>rw[iD]at h;cases h
 | jump k=>rw[jO]at h;cases h
 | truth=>rw[iY]at h;cases h
theorem Ss{n:Nat}(L:n≤8)(G:∀k t,Vbdeam.readName k=some t→tu t){c:Code}{st:List Exp}{e:Exp}(h:Run n c st e):(∀x∈st,iy x)→iy e:=by
 have tl:∀{x:Exp}{r:List Exp},iy x→(∀e∈r,iy e)→∀e∈x::r,iy e:=fun hx G e F=>by
  rcases j'.mp F with rfl | F
  ·exact hx
  ·exact G e F
 have nn:∀x∈([]:List Exp),iy x:=fun x hx=>by cases hx
 induction h with
 | done e=>exact fun j=>j e ci
 | plain S _ O=>exact fun j=>O (Kw L G j S)
 | or_ _ _ _ z D=>exact fun j=>D (tl ⟨j _ ci,z nn⟩ fun e F=>j e (am _ F))
 | and_ _ _ _ z D=>exact fun j=>D (tl ⟨j _ ci,z nn⟩ fun e F=>j e (am _ F))
 | if_ _ _ _ _ z D J=>exact fun j=>J (tl ⟨j _ ci,z nn,D nn⟩ fun e F=>j e (am _ F))
end MX
end
section
set_option maxRecDepth 10000
namespace MX
open Vbdeaa (Exp Exps Un Bin Ins Code Text)
open Vbdeam (plain orParts andParts ifParts size sizeAll joinBest argName)
inductive Y8 (n:Nat):Text→Prop
 | arg {i:Nat}:i<n→Y8 n (argName i)
 | read {k:Nat} {t:Text}:Vbdeam.readName k=some t→Y8 n t
 | form {f:Nat}:f<64→Y8 n (Vbdeam.nameOf 11 f)
inductive Zj:Text→Nat→Prop
 | form {f m:Nat}:f<64→m≤8→Zj (Vbdeam.nameOf 11 f) m
 | table {t:Nat}:t<64→Zj (Vbdeam.nameOf 10 t) 1
mutual
noncomputable def Kn(n:Nat):Exp→Prop
 | .num _=>True
 | .name t=>Y8 n t
 | .un _ a=>Kn n a
 | .bin _ a b=>Kn n a∧Kn n b
 | .and a b=>Kn n a∧Kn n b
 | .or a b=>Kn n a∧Kn n b
 | .cond c a b=>Kn n c∧Kn n a∧Kn n b
 | .best _ l=>Xz n l
 | .use t l=>Zj t l.length∧Xz n l
noncomputable def Xz(n:Nat):Exps→Prop
 | .nil=>True
 | .cons e l=>Kn n e∧Xz n l
end
theorem Us{n:Nat}{l:List Exp}(h:∀e∈l,Kn n e):Xz n (Vbdeam.exps l):=by
 induction l with
 | nil=>exact trivial
 | cons x r z=>exact⟨h x ci,z fun e j=>h e (am _ j)⟩
theorem Q_(l:List Exp):(Vbdeam.exps l).length=l.length:=by
 induction l with
 | nil=>rfl
 | cons x r j=>show(Vbdeam.exps r).length+1=_;rw[j];rfl
theorem Uh{n:Nat}{g:Bool}{x y:Exp}(hx:Kn n x)(j:Kn n y):Kn n (joinBest g x y):=by
 unfold Vbdeam.joinBest
 split
 ·rename_i h l
  split
  ·exact⟨hx,j⟩
  ·exact⟨hx,j,trivial⟩
 ·exact⟨hx,j,trivial⟩
theorem Pu{n:Nat}{i:Ins}{st t:List Exp}(j:∀e∈st,Kn n e)(h:plain n i st=some t):∀e∈t,Kn n e:=by
 have tl:∀{x:Exp}{r:List Exp},Kn n x→(∀e∈r,Kn n e)→∀e∈x::r,Kn n e:=fun hx F e z=>by
  rcases j'.mp z with rfl | z
  ·exact hx
  ·exact F e z
 cases i with
 | push q =>
  unfold Vbdeam.plain at h;simp only at h
  split at h
  ·cases h;exact tl (x:=.num q) trivial j
  ·cases h
 | arg k =>
  unfold Vbdeam.plain at h;simp only at h
  split at h
  ·next hq=>cases h;exact tl (x:=.name _) (.arg hq) j
  ·cases h
 | var k =>
  unfold Vbdeam.plain at h;simp only at h
  obtain⟨x,hx,e⟩:=cr.mp h
  subst e
  exact tl (x:=.name _) (.read hx) j
 | un o =>
  cases st with
  | nil=>cases h
  | cons x st=>cases h;exact tl (x:=.un o x) (j x ci) fun e z=>j e (am _ z)
 | bin o =>
  match st,h,j with
  | y::x::st,h,j=>cases h;exact tl (x:=.bin o x y) ⟨j x (am _ ci),j y ci⟩ fun e z=>j e (am _ (am _ z))
 | table k =>
  cases st with
  | nil=>cases h
  | cons x st =>
   unfold Vbdeam.plain at h;simp only at h
   split at h
   ·next hk=>cases h;exact tl (x:=.use _ (.cons x .nil)) ⟨.table hk,j x ci,trivial⟩ fun e z=>j e (am _ z)
   ·cases h
 | call f m =>
  unfold Vbdeam.plain at h;simp only at h
  split at h
  ·cases h
  ·next hc =>
   split at h
   ·cases h;exact tl (x:=.name _) (.form (by lia)) j
   ·next hm =>
    cases h
    have D:(st.take m).reverse.length=m:=by rw[List.length_reverse,lp];lia
    refine tl (x:=.use _ _) ⟨?_,Us fun e z=>j e (List.mem_of_mem_take (List.mem_reverse.mp z))⟩ fun e z=>j e (List.mem_of_mem_drop z)
    rw[Q_,D]
    exact .form (by lia) (by lia)
 | best g =>
  match st,h,j with
  | y::x::st,h,j=>cases h;exact tl (Uh (j x (am _ ci)) (j y ci)) fun e z=>j e (am _ (am _ z))
 | zero k=>rw[iD]at h;cases h
 | jump k=>rw[jO]at h;cases h
 | truth=>rw[iY]at h;cases h
theorem Wi{n:Nat}{c:Code}{st:List Exp}{e:Exp}(h:Run n c st e):(∀x∈st,Kn n x)→Kn n e:=by
 have tl:∀{x:Exp}{r:List Exp},Kn n x→(∀e∈r,Kn n e)→∀e∈x::r,Kn n e:=fun hx O e F=>by
  rcases j'.mp F with rfl | F
  ·exact hx
  ·exact O e F
 have nn:∀x∈([]:List Exp),Kn n x:=fun x hx=>by cases hx
 induction h with
 | done e=>exact fun j=>j e ci
 | plain L _ J=>exact fun j=>J (Pu j L)
 | or_ _ _ _ z D=>exact fun j=>D (tl (x:=.or _ _) ⟨j _ ci,z nn⟩ fun e F=>j e (am _ F))
 | and_ _ _ _ z D=>exact fun j=>D (tl (x:=.and _ _) ⟨j _ ci,z nn⟩ fun e F=>j e (am _ F))
 | if_ _ _ _ _ z D G=>exact fun j=>G (tl (x:=.cond _ _ _) ⟨j _ ci,z nn,D nn⟩ fun e F=>j e (am _ F))
end MX
end
section
namespace XL
open PySem PySem.Spec PyProof.Rows L2
section
variable {X:Cx}
noncomputable def ipM:Y0:=fun x y H Q=>∃i j,x=.int i∧y=.int j∧Vd i j∧Q (.int (i*j)) H
theorem Jl:PIp X .Mult ipM:=by
 intro pins s σ H x y v u Q I G r2 h
 obtain⟨i,j,D,F,z,q⟩:=h
 subst D;subst F
 obtain⟨t,rfl⟩:=G
 obtain⟨t',rfl⟩:=r2
 exact imul_int ⟨.int _,H,I.tok _,⟨_,rfl⟩,q⟩ z.ok
noncomputable def JT(_ j:Int):Prop:=0<j∧j.natAbs.log2<9000
theorem lW:uy X (binaryOp .FloorDiv) (rI JT fun i j=>.int (i / j)):=ZV fun i j _ _ _ _ _ z q=>by
 have h1:(0:Int)<j:=z.1
 exact floordiv_int (by lia) (by rw[Int.fdiv_eq_ediv_of_nonneg i (by lia)];exact q) (.inl (PyProof.noPylong_of_log2 z.2))
end
end XL
end
section
namespace FM
open Vbdeaa (Q frac ratio small proper B binary unary power capped)
noncomputable def Good(q:Q):Prop:=1≤q.2∧Nat.gcd q.1.natAbs q.2=1
noncomputable def Small(q:Q):Prop:=q.1.natAbs≤10 ^ 18∧q.2≤10 ^ 18
theorem yj{q:Q}(h:1≤q.2):small q=true↔Small q:=by
 unfold small Small B
 simp only[lj,mo]
 lia
theorem Ge{q:Q}:proper q=true↔Small q∧Good q:=by
 unfold proper small Small Good B
 simp only[lj,mo,beq_iff_eq]
 lia
theorem mz(n:Int){d:Nat}(hd:0<d):1≤(frac n d).2:=by
 show 1≤d / Nat.gcd n.natAbs d
 exact Nat.div_pos (Nat.le_of_dvd hd (Nat.gcd_dvd_right _ _)) (Nat.gcd_pos_of_pos_right _ hd)
theorem jr(n:Int){d:Nat}(hd:0<d):Good (frac n d):=by
 refine⟨mz n hd,?_⟩
 show Nat.gcd (n / (Nat.gcd n.natAbs d:Int)).natAbs (d / Nat.gcd n.natAbs d)=1
 have z:0<Nat.gcd n.natAbs d:=Nat.gcd_pos_of_pos_right _ hd
 have e:(n / (Nat.gcd n.natAbs d:Int)).natAbs=n.natAbs / Nat.gcd n.natAbs d:=by
  obtain⟨m,j⟩:=Nat.gcd_dvd_left n.natAbs d
  generalize Nat.gcd n.natAbs d=g at j z
  have h1:n.natAbs / g=m:=by rw[j];exact Nat.mul_div_cancel_left _ z
  rw[h1]
  have D:n=(g:Int)*(if n<0 then -(m:Int)else(m:Int)):=by
   have:(n.natAbs:Int)=(g:Int)*(m:Int):=by rw[←Int.natCast_mul,←j]
   split
   ·rw[Int.mul_neg,←this];lia
   ·rw[←this];lia
  conv=>lhs;rw[D]
  rw[Int.mul_ediv_cancel_left _ (by lia)]
  split<;>simp
 rw[e,Nat.gcd_div (Nat.gcd_dvd_left _ _) (Nat.gcd_dvd_right _ _),Nat.div_self z]
theorem jU{n:Int}{d:Nat}(h:Nat.gcd n.natAbs d=1):frac n d=(n,d):=by
 unfold frac
 rw[h]
 simp
noncomputable def inv(b:Q):Q:=if b.1<0 then(-(b.2:Int),b.1.natAbs)else((b.2:Int),b.1.natAbs)
theorem jc{b:Q}(h:b.1≠0):1≤(inv b).2:=by
 unfold inv
 split<;>(show 1≤b.1.natAbs;lia)
theorem uO{a b:Q}(j:1≤a.2)(z:b.1≠0):Vbdeaa.div a b=frac (a.1*(inv b).1) (a.2*(inv b).2):=by
 unfold Vbdeaa.div ratio inv
 have e:((a.2:Int)*b.1).natAbs=a.2*b.1.natAbs:=by rw[Int.natAbs_mul,l4]
 by_cases h:b.1<0
 ·have:(a.2:Int)*b.1<0:=Int.mul_neg_of_pos_of_neg (by lia) h
  rw[mr this,mr h,e,Int.mul_neg]
 ·have:¬(a.2:Int)*b.1<0:=by
   have:=Int.mul_nonneg (show(0:Int)≤a.2 by lia) (show 0≤b.1 by lia)
   lia
  rw[ml this,ml h,e]
theorem HQ(a b:Q):Vbdeaa.sub a b=Vbdeaa.add a (-b.1,b.2):=by
 unfold Vbdeaa.sub Vbdeaa.add
 simp only[Int.neg_mul]
 rw[←Int.sub_eq_add_neg]
noncomputable def pw(v:Q)(k:Nat):Q:=(v.1 ^ k,v.2 ^ k)
theorem F_{v:Q}(h:1≤v.2)(k:Nat):1≤(pw v k).2:=Nat.pow_pos h
theorem Iw{a j k:Nat}(h:10 ^ 18<a ^ j)(F:j≤k):10 ^ 18<a ^ k:=by
 have D:0<a:=by
  apply Nat.pos_of_ne_zero
  intro z
  subst z
  cases j with
  | zero=>simp at h
  | succ j=>rw[Nat.zero_pow (by contradiction)]at h;contradiction
 exact lm h (Nat.pow_le_pow_right D F)
theorem Wm{v:Q}{j k:Nat}(h:¬Small (pw v j))(D:j≤k):¬Small (pw v k):=by
 intro⟨h1,h2⟩
 refine h ⟨?_,?_⟩
 ·have h1:(v.1 ^ k).natAbs≤10 ^ 18:=h1
  rw[Int.natAbs_pow]at h1
  show(v.1 ^ j).natAbs≤10 ^ 18
  rw[Int.natAbs_pow]
  apply Classical.byContradiction
  intro z
  have:=Iw (Nat.lt_of_not_le z) D
  lia
 ·have h2:v.2 ^ k≤10 ^ 18:=h2
  show v.2 ^ j≤10 ^ 18
  apply Classical.byContradiction
  intro z
  have:=Iw (Nat.lt_of_not_le z) D
  lia
theorem Js{a b:Nat}(h:Nat.gcd a b=1):∀k:Nat,Nat.gcd (a ^ k) (b ^ k)=1:=by
 have c:Nat.Coprime a b:=h
 exact fun k=>Nat.Coprime.pow k k c
theorem QS{a:Q}{k:Nat}(J:Good a)(h0:a.1≠0):ratio ((a.2:Int) ^ k) (a.1 ^ k)=pw (inv a) k:=by
 have z:Nat.gcd (a.2 ^ k) (a.1.natAbs ^ k)=1:=by
  rw[Nat.gcd_comm]
  exact Js J.2 k
 unfold ratio pw inv
 by_cases h:a.1<0
 ·rw[mr h]
  by_cases G:k % 2=0
  ·have j:a.1 ^ k=((a.1.natAbs ^ k:Nat):Int):=by
    have:a.1=-(a.1.natAbs:Int):=by lia
    conv=>lhs;rw[this]
    rw[Int.neg_pow,G]
    simp
   have D:(-(a.2:Int)) ^ k=((a.2 ^ k:Nat):Int):=by
    rw[Int.neg_pow,G]
    simp
   rw[j,ml (by lia),l4,show((a.2:Int) ^ k)=((a.2 ^ k:Nat):Int) by rw[Int.natCast_pow],jU (by rw[l4];exact z),D]
  ·have F:k % 2=1:=by lia
   have j:a.1 ^ k=-((a.1.natAbs ^ k:Nat):Int):=by
    have:a.1=-(a.1.natAbs:Int):=by lia
    conv=>lhs;rw[this]
    rw[Int.neg_pow,F];simp
   have D:(-(a.2:Int)) ^ k=-((a.2 ^ k:Nat):Int):=by
    rw[Int.neg_pow,F];simp
   have L:0<a.1.natAbs ^ k:=Nat.pow_pos (by lia)
   rw[j,mr (by lia),Int.natAbs_neg,l4,show((a.2:Int) ^ k)=((a.2 ^ k:Nat):Int) by rw[Int.natCast_pow],jU (by rw[Int.natAbs_neg,l4];exact z),D]
 ·rw[ml h]
  have j:a.1 ^ k=((a.1.natAbs ^ k:Nat):Int):=by
   have:a.1=(a.1.natAbs:Int):=by lia
   conv=>lhs;rw[this]
   rw[Int.natCast_pow]
  rw[j,ml (by lia),l4,show((a.2:Int) ^ k)=((a.2 ^ k:Nat):Int) by rw[Int.natCast_pow],jU (by rw[l4];exact z)]
end FM
end
section
section
namespace SB
open PySem PySem.Spec PyProof.Rows L2 XL
variable {P:Program} {w:World} {K:PySem.W.Frag} {mg:Str→Option Value} {base:Heap}
noncomputable def top(i:Nat):Stmt:=PySem.Challenge.pw_stackback_s03_fold.main.body.getD i (.Pass ⟨0,0,0,0⟩)
structure Fn (K:PySem.W.Frag) (mg:Str→Option Value) (x:Str) (st:Stmt) (f:Addr) (fd:FuncData) (ps:List Str):Prop where
 F:kZ K x x st f fd
 m:mg x=some (.ref f)
 b:Binds K fd ps []
structure Fm (K:PySem.W.Frag) (C:Addr) (x qual:Str) (st:Stmt) (f:Addr) (fd:FuncData) (ps:List Str):Prop where
 F:kZ K x qual st f fd
 b:Binds K fd ps []
 me:Meth K C x f
section
theorem dz{x qual:Str}{st:Stmt}{f:Addr}{fd:FuncData}{N ps:List Str}{k:Nat}{sp:Sp}(F:kZ K x qual st f fd)(S:aO N ps (aH st))(len:∀vs H Q E,sp vs H Q E→vs.length=ps.length)
  (j:∀(cdv:Value)(A:Around)(outer:List Env)(s:Shared)(H:Hp)(vs:List V)(Q:VK)(E:XK),bB k (A.deeper (envOfC qual (aH st) s.heap.objs.size f cdv))→sp vs H Q E →
   ∃t,M4 (jY (bc P w) P w K mg base N qual (aH st) f cdv A outer s H E) (jX st) t∧t { nx:=fun _ H'=>Q .non H',rt:=Q } (start N vs) H):aL P w K mg base (bc P w) (k+1) f fd ps sp:=by
 obtain⟨oc,od,kV,doc,pm,an,cdv,ct,osl,rfl,G,z⟩:=F.ex
 exact YS G z S len fun A outer s H vs Q E J D=>j cdv A outer s H vs Q E J D
end
inductive TV where
 | i (n:Int)
 | s (x:Str)
 | t (l:List TV)
mutual
noncomputable def QM(K:PySem.W.Frag):TV→Value→Bool
 | .i n,v=>(match v with | .int j _=>decide (n=j) | _=>false)
 | .s x,v=>(match v with | .str y _=>decide (x=y) | _=>false)
 | .t l,v=>(match v with
  | .ref a=>(match K.lookup a with
   | some ⟨.type c,_,.seq its _,_⟩=>decide (c = "tuple")&&JN K l its.toList&&decide (its.size≤1000)
   | _=>false)
  | _=>false)
noncomputable def JN(K:PySem.W.Frag):List TV→List Value→Bool
 | [],vs=>vs.isEmpty
 | x::r,vs=>(match vs with | v::q=>QM K x v&&JN K r q | []=>false)
end
noncomputable def Z5(K:PySem.W.Frag)(x:Str)(c:TV):Bool:=match PySem.W.nsIn K mainGlobals x with
 | some (some v)=>QM K c v
 | _=>false
inductive tD (K:PySem.W.Frag):TV→V→Prop
 | i (n:Int):tD K (.i n) (.int n)
 | s (x:Str):tD K (.s x) (.str x)
 | t {l:List TV} {a:Addr} {xs:List V} (h:∀H:Hp,bN K H a xs) (hx:Paired (tD K) l xs):tD K (.t l) (.ref a)
mutual
theorem Rj(K:PySem.W.Frag):∀(c:TV)(v:Value),QM K c v=true→∃x,RelV x v∧tD K c x
 | .i n,v,h=>by
  cases v with
  | int j t =>
   have e:n=j:=mn h
   subst e
   exact⟨.int n,⟨t,rfl⟩,.i n⟩
  | _=>cases h
 | .s x,v,h=>by
  cases v with
  | str y t =>
   have e:x=y:=mn h
   subst e
   exact⟨.str x,⟨t,rfl⟩,.s x⟩
  | _=>cases h
 | .t l,v,h=>by
  cases v with
  | ref a =>
   unfold QM at h
   simp only at h
   split at h
   ·rename_i c od its n sl q
    rw[lj,lj,mo,mo]at h
    obtain⟨⟨rfl,h1⟩,h2⟩:=h
    obtain⟨xs,r,hx⟩:=JH K l its.toList h1
    exact⟨.ref a,rfl,.t (fun H=>.inr ⟨_,its,n,q,rfl,rfl,lS h2 (by decide),r⟩) hx⟩
   ·cases h
  | _=>cases h
theorem JH(K:PySem.W.Frag):∀(l:List TV)(vs:List Value),JN K l vs=true→∃xs,Vals xs vs∧Paired (tD K) l xs
 | [],vs,h=>by
  cases vs with
  | nil=>exact⟨[],.nil,.nil⟩
  | cons v q=>cases h
 | c::r,vs,h=>by
  cases vs with
  | nil=>cases h
  | cons v q =>
   have h':QM K c v=true∧JN K r q=true:=by
    rw[←lj]
    exact h
   obtain⟨x,D,hx⟩:=Rj K c v h'.1
   obtain⟨xs,j,z⟩:=JH K r q h'.2
   exact⟨x::xs,.cons D j,.cons hx z⟩
end
noncomputable def GC(K:PySem.W.Frag)(mg:Str→Option Value)(x:Str)(c:TV):Prop:=∃u v,mg x=some u∧RelV v u∧tD K c v
theorem YL{K:PySem.W.Frag}{h:Heap}{mg:Str→Option Value}{x:Str}{c:TV}(X:K.In h)(G:h.Ns mainGlobals mg)(e:Z5 K x c=true):GC K mg x c:=by
 unfold Z5 at e
 split at e
 ·rename_i v q
  obtain⟨y,r,j⟩:=Rj K c v e
  exact⟨v,y,PySem.W.mg_of X G q,r,j⟩
 ·cases e
theorem tD.int{K:PySem.W.Frag}{n:Int}{v:V}(h:tD K (.i n) v):v=.int n:=by cases h;rfl
theorem tD.str{K:PySem.W.Frag}{x:Str}{v:V}(h:tD K (.s x) v):v=.str x:=by cases h;rfl
theorem tD.tup{K:PySem.W.Frag}{l:List TV}{v:V}(h:tD K (.t l) v):∃a xs,v=.ref a∧(∀H:Hp,bN K H a xs)∧Paired (tD K) l xs:=by
 cases h with
 | t h1 h2=>exact⟨_,_,rfl,h1,h2⟩
theorem ju{K:PySem.W.Frag}:∀{l:List Int}{xs:List V},Paired (tD K) (l.map TV.i) xs→xs=l.map V.int
 | [],_,.nil=>rfl
 | n::r,_,.cons h t=>by rw[tD.int h,ju t];rfl
noncomputable def tG(K:PySem.W.Frag)(c:TV):TE:=fun _ H Q=>∀v,tD K c v→Q v H
theorem Ys{X:Cx}{x:Str}{c:TV}{pos:Pos}(D:Gl X x)(z:GC X.K X.mg x c)(hd:(x==("__debug__" : Str))=false:=by decide):PE X (.Name x pos) (tG X.K c):=by
 obtain⟨u,v,e,r,j⟩:=z
 exact fun pins s σ H Q I h=>jQ I D e ⟨v,H,I,r,h v j⟩ hd
theorem aW{X:Cx}{x:Str}{n:Int}{pos:Pos}(D:Gl X x)(z:GC X.K X.mg x (.i n))(hd:(x==("__debug__" : Str))=false:=by decide):PE X (.Name x pos) (tC (.int n)):=by
 obtain⟨u,v,e,r,j⟩:=z
 cases j.int
 exact eU D e r hd
theorem mY{i j:Int}:Fi (.int i) (.int j)=true:=rfl
theorem mV{i j:Str}:Fi (.str i) (.str j)=true:=rfl
theorem mZ{i j:Bool}:Fi (.bl i) (.bl j)=true:=rfl
theorem mW{i:Int}:Fi .non (.int i)=true:=rfl
theorem mX{i:Int}:Fi (.int i) .non=true:=rfl
section
variable {CX:JS} {P:Program} {w:World} {K:PySem.W.Frag} {mg:Str→Option Value} {base:Heap} {N:List Str} {qual:Str} {scope:Scope} {f:Addr} {cd:Value} {A:Around} {outer:List Env} {s:Shared} {H:Hp} {E:XK}
theorem XM:(jY CX P w K mg base N qual scope f cd A outer s H E).K=K:=rfl
theorem XJ:(jY CX P w K mg base N qual scope f cd A outer s H E).prog=P:=rfl
theorem XH:(jY CX P w K mg base N qual scope f cd A outer s H E).w=w:=rfl
theorem Mj:(jY CX P w K mg base N qual scope f cd A outer s H E).mg=mg:=rfl
end
noncomputable def tvs(l:List Int):TV:=.t (l.map TV.i)
noncomputable def RM(l:List Str):TV:=.t (l.map TV.s)
noncomputable def Es(l:List Int)(tb:TE):TE:=fun σ H Q=>tb σ H fun y H1=>∃i r,y=.int i∧kY l i=some r∧Q (.int r) H1
noncomputable def yf(l:List Str)(tb:TE):TE:=fun σ H Q=>tb σ H fun y H1=>∃i r,y=.int i∧kY l i=some r∧Q (.str r) H1
noncomputable def u0(l:List (List Int))(tb tc:TE):TE:=fun σ H Q=>tb σ H fun y H1=>∃i m,y=.int i∧kY l i=some m∧tc σ H1 fun z H2=>∃j r,z=.int j∧kY m j=some r∧Q (.int r) H2
theorem Ak{α β:Type}(g:α→β)(l:List α)(i:Int):kY (l.map g) i=(kY l i).map g:=by
 unfold kY
 rw[ap]
 cases RC l.length i with
 | none=>rfl
 | some k=>simp
theorem Gi{α β:Type}{G:α→β→Prop}{l:List α}{m:List β}(h:Paired G l m){i:Int}{a:α}(e:kY l i=some a):∃b,kY m i=some b∧G a b:=by
 unfold kY at e ⊢
 rw[←Paired.length h]
 cases q:RC l.length i with
 | none=>rw[q]at e;cases e
 | some k =>
  rw[q]at e
  exact cz h e
noncomputable def tMo(t:TE):TE:=fun σ H Q=>∃j:VK,t σ H j∧∀v H1,j v H1→Q v H1
theorem PP{X:Cx}{e:Expr}{t:TE}(h:PE X e t):PE X e (tMo t):=fun pins s σ H Q I ⟨j,h1,h2⟩=>cW (h pins s σ H j I h1) fun _ _ ⟨v,H',z,r,q⟩=>⟨v,H',z,r,h2 v H' q⟩
theorem zM{X:Cx}{x:Str}{l:List Int}{b:Expr}{tb:TE}{p pos:Pos}(O:Gl X x)(G:GC X.K X.mg x (tvs l))(J:PE X b tb)(L:uT b)(hd:(x==("__debug__" : Str))=false:=by decide) :
  PE X (.Subscript (.Name x p) b pos) (Es l tb):=by
 obtain⟨u,v,e,r,D⟩:=G
 obtain⟨a,xs,rfl,z,S⟩:=D.tup
 have j:=ju S
 subst j
 intro pins s σ H Q I h
 exact aQ aU (eU O e r hd) (PP J) L pins s σ H Q I ⟨_,h,fun y H1 ⟨i,r,F,j,q⟩=>⟨a,_,i,.int r,rfl,F,z H1,by rw[Ak,j];rfl,q⟩⟩
theorem I_{X:Cx}{x:Str}{l:List (List Int)}{b c:Expr}{tb tc:TE}{p pos pos':Pos}(hg:Gl X x)(Z:GC X.K X.mg x (.t (l.map tvs)))(hb:PE X b tb)(hs:uT b)(U:PE X c tc)(J:uT c)(hd:(x==("__debug__" : Str))=false:=by decide) :
  PE X (.Subscript (.Subscript (.Name x p) b pos) c pos') (u0 l tb tc):=by
 obtain⟨u,v,e,r,L⟩:=Z
 obtain⟨a,xs,rfl,O,hp⟩:=L.tup
 intro pins s σ H Q I h
 refine aQ aU (aQ aU (eU hg e r hd) (PP hb) hs) (PP U) J pins s σ H Q I ⟨_,h,fun y H1 ⟨i,m,Y,e2,q⟩=>?_⟩
 obtain⟨z,hz,G⟩:=Gi hp (i:=i) (a:=tvs m) (by rw[Ak,e2];rfl)
 obtain⟨S,ys,rfl,D,F⟩:=G.tup
 have e3:=ju F
 subst e3
 exact⟨a,_,i,.ref S,rfl,Y,O H1,hz,_,q,fun y2 H2 ⟨j,r,e4,e5,q2⟩=>⟨S,_,j,.int r,rfl,e4,D H2,by rw[Ak,e5];rfl,q2⟩⟩
noncomputable def Xx:List Int:=[7,3,9,9,9,9,9,9]
noncomputable def Xq:List Int:=[5,5,6,6,6,6,8,4,4,4,4,4,4]
noncomputable def iR:List (List Int):=[[0,0,0],[1,2],[2,3],[3],[5,5],[5,6],[6,7],[7],[9,7]]
noncomputable def f9:List (List Int):=[[1,1,1],[0,0],[0,0],[1],[0,0],[0,0],[0,0],[1],[0,1]]
structure CN (K:PySem.W.Frag) (mg:Str→Option Value):Prop where
 ONE:GC K mg "ONE" (.i 2)
 TWO:GC K mg "TWO" (.i 3)
 AND:GC K mg "AND" (.i 4)
 OR:GC K mg "OR" (.i 5)
 IF:GC K mg "IF" (.i 6)
 STR:GC K mg "STRONGEST" (.i 9)
 OK_:GC K mg "ONE_KINDS" (tvs Xx)
 TK_:GC K mg "TWO_KINDS" (tvs Xq)
 PL:GC K mg "PLACES" (.t (iR.map tvs))
 AR:GC K mg "AROUND" (.t (f9.map tvs))
inductive kI:Int→V→Int→Prop
 | one {i r:Int}:kY Xx i=some r→kI 2 (.int i) r
 | two {i r:Int}:kY Xq i=some r→kI 3 (.int i) r
 | if_ {v:V}:kI 6 v 0
 | or_ {v:V}:kI 5 v 1
 | and_ {v:V}:kI 4 v 2
 | else_ {f:Int} {v:V}:f≠2→f≠3→f≠4→f≠5→f≠6→kI f v 9
noncomputable def V3:Sp:=fun vs H Q _=>∃f v r,vs=[.int f,v]∧kI f v r∧Q (.int r) H
noncomputable def MT(l:List (List Int))(c:Int)(k p r:Int):Prop:=(k=9∧r=c)∨(k≠9∧∃m,kY l k=some m∧kY m p=some r)
noncomputable def Vi(l:List (List Int))(c:Int):Sp:=fun vs H Q _=>∃k p r,vs=[.int k,.int p]∧MT l c k p r∧Q (.int r) H
noncomputable abbrev yo:Stmt:=top 42
noncomputable abbrev rC:Stmt:=top 43
noncomputable abbrev qe:Stmt:=top 44
section
theorem We:aO ["form","detail"] ["form","detail"] (aH yo):=⟨rfl,rfl,rfl,by decide +kernel,rfl,by decide +kernel,by decide +kernel⟩
theorem Jc{f:Addr}{fd:FuncData}(F:Fn K mg "kind_of" yo f fd ["form","detail"])(T:CN K mg):aL P w K mg base (bc P w) 1 f fd ["form","detail"] V3:=by
 refine dz F.F We (fun vs H Q E h=>?_) (fun cdv A outer s H vs Q E z h=>?_)
 ·obtain⟨_,_,_,rfl,_⟩:=h
  rfl
 ·obtain⟨fo,v,r,rfl,j,k⟩:=h
  refine⟨_,aj (aR (aD aY (pv 0) (aW rfl T.ONE) (aG _)) (ak (aB (zM rfl T.OK_ (pv 1) (fun _ _=>rfl)))) aF)
   (aj (aR (aD aY (pv 0) (aW rfl T.TWO) (aG _)) (ak (aB (zM rfl T.TK_ (pv 1) (fun _ _=>rfl)))) aF)
   (aj (aR (aD aY (pv 0) (aW rfl T.IF) (aG _)) (ak (aB ao)) aF)
   (aj (aR (aD aY (pv 0) (aW rfl T.OR) (aG _)) (ak (aB ao)) aF)
   (aj (aR (aD aY (pv 0) (aW rfl T.AND) (aG _)) (ak (aB ao)) aF)
   (ak (aB (aW rfl T.STR))))))),?_⟩
  simp only[L2.start,Eo,Be,tE,HF,jB,tC,Bb,yd,uZ,u5,Wl,Wk,FZ,rI,mY,mV,mZ,mW,mX,V.int.injEq,V.str.injEq,V.bl.injEq,V.ref.injEq,true_and,and_true,Option.some.injEq,exists_eq_left',exists_eq_left,exists_eq_right,exists_and_left,mf,List.map_nil,io,lT,ma,List.nil_append,mI,mE,mo,Bool.not_eq_true',decide_eq_false_iff_not,List.replicate_zero,List.replicate_succ,Nat.reduceSub,Nat.sub_self,Nat.reduceAdd,Nat.zero_add,XM,XJ,XH,Mj,lA,bh,dj,Bf,oF,List.set_cons_zero,List.set_cons_succ,Et,VR,Er,Vg,ye,u6,Ep,Es,u0,yf,Nt,mh,pI,uf,xG,Fz,Bc,lv]
  cases j with
  | one e=>exact⟨_,rfl,_,e,k⟩
  | two e=>exact⟨_,rfl,_,e,k⟩
  | if_=>exact k
  | or_=>exact k
  | and_=>exact k
  | else_ a b c d e =>
   rw[ml a,ml b,ml e,ml d,ml c]
   exact k
theorem R8:aO ["kind","position"] ["kind","position"] (aH rC):=⟨rfl,rfl,rfl,by decide +kernel,rfl,by decide +kernel,by decide +kernel⟩
theorem Qk{f:Addr}{fd:FuncData}(F:Fn K mg "place_of" rC f fd ["kind","position"])(T:CN K mg):aL P w K mg base (bc P w) 1 f fd ["kind","position"] (Vi iR 0):=by
 refine dz F.F R8 (fun vs H Q E h=>?_) (fun cdv A outer s H vs Q E J h=>?_)
 ·obtain⟨_,_,_,rfl,_⟩:=h
  rfl
 ·obtain⟨G,p,r,rfl,z,k⟩:=h
  refine⟨_,aj (aR (aD aY (pv 0) (aW rfl T.STR) (aG _)) (ak (aB ao)) aF)
   (ak (aB (I_ rfl T.PL (pv 0) (fun _ _=>rfl) (pv 1) (fun _ _=>rfl)))),?_⟩
  simp only[L2.start,Eo,Be,tE,HF,jB,tC,Bb,yd,uZ,u5,Wl,Wk,FZ,rI,mY,mV,mZ,mW,mX,V.int.injEq,V.str.injEq,V.bl.injEq,V.ref.injEq,true_and,and_true,Option.some.injEq,exists_eq_left',exists_eq_left,exists_eq_right,exists_and_left,mf,List.map_nil,io,lT,ma,List.nil_append,mI,mE,mo,Bool.not_eq_true',decide_eq_false_iff_not,List.replicate_zero,List.replicate_succ,Nat.reduceSub,Nat.sub_self,Nat.reduceAdd,Nat.zero_add,XM,XJ,XH,Mj,lA,bh,dj,Bf,oF,List.set_cons_zero,List.set_cons_succ,Et,VR,Er,Vg,ye,u6,Ep,Es,u0,yf,Nt,mh,pI,uf,xG,Fz,Bc,lv]
  rcases z with⟨rfl,rfl⟩ | ⟨a,m,j,D⟩
  ·exact k
  ·rw[ml a]
   exact⟨m,j,r,D,k⟩
theorem Ox:aO ["kind","position"] ["kind","position"] (aH qe):=⟨rfl,rfl,rfl,by decide +kernel,rfl,by decide +kernel,by decide +kernel⟩
theorem La{f:Addr}{fd:FuncData}(F:Fn K mg "around_of" qe f fd ["kind","position"])(T:CN K mg):aL P w K mg base (bc P w) 1 f fd ["kind","position"] (Vi f9 1):=by
 refine dz F.F Ox (fun vs H Q E h=>?_) (fun cdv A outer s H vs Q E J h=>?_)
 ·obtain⟨_,_,_,rfl,_⟩:=h
  rfl
 ·obtain⟨G,p,r,rfl,z,k⟩:=h
  refine⟨_,aj (aR (aD aY (pv 0) (aW rfl T.STR) (aG _)) (ak (aB ao)) aF)
   (ak (aB (I_ rfl T.AR (pv 0) (fun _ _=>rfl) (pv 1) (fun _ _=>rfl)))),?_⟩
  simp only[L2.start,Eo,Be,tE,HF,jB,tC,Bb,yd,uZ,u5,Wl,Wk,FZ,rI,mY,mV,mZ,mW,mX,V.int.injEq,V.str.injEq,V.bl.injEq,V.ref.injEq,true_and,and_true,Option.some.injEq,exists_eq_left',exists_eq_left,exists_eq_right,exists_and_left,mf,List.map_nil,io,lT,ma,List.nil_append,mI,mE,mo,Bool.not_eq_true',decide_eq_false_iff_not,List.replicate_zero,List.replicate_succ,Nat.reduceSub,Nat.sub_self,Nat.reduceAdd,Nat.zero_add,XM,XJ,XH,Mj,lA,bh,dj,Bf,oF,List.set_cons_zero,List.set_cons_succ,Et,VR,Er,Vg,ye,u6,Ep,Es,u0,yf,Nt,mh,pI,uf,xG,Fz,Bc,lv]
  rcases z with⟨rfl,rfl⟩ | ⟨a,m,j,D⟩
  ·exact k
  ·rw[ml a]
   exact⟨m,j,r,D,k⟩
end
theorem rH{CX:JS}{P:Program}{w:World}{K:PySem.W.Frag}{mg:Str→Option Value}{base:Heap}{N:List Str}{qual:Str}{scope:Scope}{f:Addr}{cd:Value}{A:Around}{outer:List Env}{s:Shared}{H:Hp}{E:XK} :
  PassesOwn (model (jY CX P w K mg base N qual scope f cd A outer s H E).prog (jY CX P w K mg base N qual scope f cd A outer s H E).w) (jY CX P w K mg base N qual scope f cd A outer s H E).A (jY CX P w K mg base N qual scope f cd A outer s H E).env (jY CX P w K mg base N qual scope f cd A outer s H E).xe:=PassesOwn.leaving
noncomputable def Oa:Sp:=fun vs H Q _=>∃a b:Nat,vs=[.int a,.int b]∧Q (.int (Nat.gcd a b)) H
noncomputable abbrev Fw:Stmt:=top 71
noncomputable abbrev Bv:Stmt:=top 73
section
theorem Io:aO ["a","b","rest"] ["a","b"] (aH Fw):=⟨rfl,rfl,rfl,by decide +kernel,rfl,by decide +kernel,by decide +kernel⟩
theorem Qq{f:Addr}{fd:FuncData}(F:Fn K mg "common_divisor" Fw f fd ["a","b"]):aL P w K mg base (bc P w) 1 f fd ["a","b"] Oa:=by
 refine dz F.F Io (fun vs H Q E h=>?_) (fun cdv A outer s H vs Q E Z h=>?_)
 ·obtain⟨_,_,rfl,_⟩:=h
  rfl
 ·obtain⟨a,b,rfl,k⟩:=h
  refine⟨_,aj (lM rH (aD kh (pv 1) ao (aG _))
    (aj (a_ (i:=2) Io.nd rfl (Or.inl rfl) (bL Wz (pv 0) (pv 1)))
    (aj (a_ (i:=0) Io.nd rfl (Or.inl rfl) (pv 1))
    (ak (a_ (i:=1) Io.nd rfl (Or.inl rfl) (pv 2))))))
   (ak (aB (pv 0))),?_⟩
  refine⟨fun m σ H'=>∃(x y:Nat)(v:Option V),σ=[some (.int x),some (.int y),v]∧m=y∧Nat.gcd x y=Nat.gcd a b∧H'=H,⟨b,a,b,none,rfl,rfl,rfl,rfl⟩,?_⟩
  rintro y σ H' ⟨x,_,v,rfl,rfl,J,rfl⟩
  simp only[L2.start,Eo,Be,tE,HF,jB,tC,Bb,yd,uZ,u5,Wl,Wk,FZ,rI,mY,mV,mZ,mW,mX,V.int.injEq,V.str.injEq,V.bl.injEq,V.ref.injEq,true_and,and_true,Option.some.injEq,exists_eq_left',exists_eq_left,exists_eq_right,exists_and_left,mf,List.map_nil,io,lT,ma,List.nil_append,mI,mE,mo,Bool.not_eq_true',decide_eq_false_iff_not,List.replicate_zero,List.replicate_succ,Nat.reduceSub,Nat.sub_self,Nat.reduceAdd,Nat.zero_add,XM,XJ,XH,Mj,lA,bh,dj,Bf,oF,List.set_cons_zero,List.set_cons_succ,Et,VR,Er,Vg,ye,u6,Ep,Es,u0,yf,Nt,mh,pI,uf,xG,Fz,Bc,lv]
  by_cases Y:y=0
  ·subst Y
   simp at J ⊢
   rw[J]
   exact k
  ·have G:¬((y:Int)=0):=by lia
   rw[mr (by simpa using G)]
   refine⟨fun σ' z=>∃(D j:Nat)(v:Option V),σ'=[some (.int D),some (.int j),v]∧j<y∧Nat.gcd D j=Nat.gcd a b∧z=H',fun σ' z ⟨D,j,v,L,U,S,O⟩=>⟨j,U,D,j,v,L,rfl,S,O⟩,?_⟩
   refine⟨by lia,y,x % y,_,rfl,Nat.mod_lt _ (by lia),?_,rfl⟩
   rw[←J,Nat.gcd_comm x y,Nat.gcd_rec y x,Nat.gcd_comm]
noncomputable def qm(n d:Int):Bool:=decide (0≤n∧1≤d∧n≤1000000000000000000∧d≤1000000000000000000)&&(Nat.gcd n.toNat d.toNat==1)
noncomputable def V1:Sp:=fun vs H Q _=>∃n d:Int,vs=[.int n,.int d]∧Q (.bl (qm n d)) H
theorem Wb:aO ["numerator","denominator"] ["numerator","denominator"] (aH Bv):=⟨rfl,rfl,rfl,by decide +kernel,rfl,by decide +kernel,by decide +kernel⟩
theorem Tf{f G:Addr}{fd j:FuncData}(F:Fn K mg "is_right_pair" Bv f fd ["numerator","denominator"])(L:GC K mg "LARGEST" (.i 1000000000000000000))(D:Fn K mg "common_divisor" Fw G j ["a","b"]):aL P w K mg base (bc P w) 2 f fd ["numerator","denominator"] V1:=by
 have J:aL P w K mg base (bc P w) 1 G j ["a","b"] Oa:=Qq D
 refine dz F.F Wb (fun vs H Q E h=>?_) (fun cdv A outer s H vs Q E O h=>?_)
 ·obtain⟨_,_,rfl,_⟩:=h
  rfl
 ·obtain⟨n,d,rfl,k⟩:=h
  refine⟨_,aj (aR (PW.pt (lL (aD iG (pv 0) ao (aG _)) (lL (aD iG (pv 1) ao (aG _)) (lL (aD km (pv 0) (aW rfl L) (aG _)) (jL (aD km (pv 1) (aW rfl L) (aG _)))))))
    (ak (aB Vs)) aF)
   (ak (aB (bW aY (aK J O rfl D.m D.F.kp D.b .nil passes (aa (pv 0) (aa (pv 1) aq))) ao (aG _)))),?_⟩
  simp only[L2.start,Eo,Be,tE,HF,jB,tC,Bb,yd,uZ,u5,Wl,Wk,FZ,rI,mY,mV,mZ,mW,mX,V.int.injEq,V.str.injEq,V.bl.injEq,V.ref.injEq,true_and,and_true,Option.some.injEq,exists_eq_left',exists_eq_left,exists_eq_right,exists_and_left,mf,List.map_nil,io,lT,ma,List.nil_append,mI,mE,mo,Bool.not_eq_true',decide_eq_false_iff_not,List.replicate_zero,List.replicate_succ,Nat.reduceSub,Nat.sub_self,Nat.reduceAdd,Nat.zero_add,XM,XJ,XH,Mj,lA,bh,dj,Bf,oF,List.set_cons_zero,List.set_cons_succ,Et,VR,Er,Vg,ye,u6,Ep,Es,u0,yf,Nt,mh,pI,uf,xG,Fz,Bc,lv]
  have z:¬(0≤n∧1≤d∧n≤1000000000000000000∧d≤1000000000000000000)→qm n d=false:=fun h=>by unfold qm;rw[mu h];rfl
  refine bC (fun h=>?_) fun h1=>?_
  ·rw[z (by lia)]at k
   exact k
  refine bC (fun h=>?_) fun h2=>?_
  ·rw[z (by lia)]at k
   exact k
  refine bC (fun h=>?_) fun U=>?_
  ·rw[z (by lia)]at k
   exact k
  refine bC (fun h=>?_) fun S=>?_
  ·rw[z (by lia)]at k
   exact k
  refine⟨n.toNat,d.toNat,by rw[l7 (by lia),l7 (by lia)],rfl,?_⟩
  have e:qm n d=decide (((Nat.gcd n.toNat d.toNat:Nat):Int)=1):=by
   unfold qm
   rw[mi (by lia),Bool.true_and,l9,beq_iff_eq,mo]
   lia
  simp only[V.int.injEq]
  rw[←e]
  exact k
end
structure KDict (K:PySem.W.Frag) (w:World) (d:Addr) (kvs:List (Key×V)):Prop where
 ns:(d==sysModules)=false
 ex:∀P:Program,∃(o:Obj)(es:Array DictEntry)(ep:Nat)(vs:List (Key×Value)),K.lookup d=some o∧o.ExactDict∧o.data=.dict es ep∧es.size=kvs.length∧KV kvs vs∧KeysOf (du P w) es∧Pairs (du P w) es.toList vs∧(vs.map (·.1)).Nodup
theorem KDict.at_{X:Cx}{pins:List (Addr×Obj)}{σ:L2.St}{H:Hp}{s:Shared}{d:Addr}{kvs:List (Key×V)}(D:KDict X.K X.w d kvs)(I:Inv X pins σ H s) :
  ∃(o:Obj)(es:Array DictEntry)(ep:Nat)(vs:List (Key×Value)),X.K.lookup d=some o∧s.heap.get? d=some o∧o.data=.dict es ep∧es.size=kvs.length∧KV kvs vs∧s.heap.DictAt (du X.prog X.w) d vs ep:=by
 obtain⟨o,es,ep,vs,h1,h2,j,z,F,G⟩:=D.ex X.prog
 exact⟨o,es,ep,vs,h1,I.o5 _ _ h1,j,z,F,o,es,I.o5 _ _ h1,h2,j,G⟩
noncomputable def Za(kvs:List (Key×V)):It :=
 ⟨fun i H=>i<kvs.length,fun i H x H'=>∃T k v,kvs[i]?=some (k,v)∧x=.ref T∧H T=none∧H'=upd H T (.tup [kV k,v]),fun i H=>kvs.length≤i⟩
theorem Nk{P:Program}{w:World}{K:PySem.W.Frag}{d:Addr}{o:Obj}{es:Array DictEntry}{ep:Nat}{kvs:List (Key×V)}{U:List Expr}{kk:Nat}{tpos:Pos}(it:Addr)(KD:KDict K w d kvs)(lk:K.lookup d=some o)(Y:o.data=.dict es ep) :
  Turn P w K (.Tuple U kk tpos) (Za kvs) [it] it (fun i h=>∃ok J,IsItemIter h it d i kvs.length ep ok J) where
 mem:=by simp
 obj:=fun i h st b D=>by
  have e:b=it:=by simpa using D
  subst e
  obtain⟨ok,J,e⟩:=st
  exact⟨_,e,fun v z=>nomatch z⟩
 keep:=fun i h h' st k=>let⟨ok,J,e⟩:=st;⟨ok,J,k it (by simp) _ e⟩
 item:=by
  intro X hP hw hK hc i pins s σ H E I hf st hg
  subst hP hw hK
  have hi:i<kvs.length:=hg
  obtain⟨o',ae,ah,vs,j,ag,F,hsz,kv,hm⟩:=KD.at_ I
  rw[lk]at j
  cases j
  obtain⟨rfl,rfl⟩:=JB Y F
  obtain⟨⟨k,v⟩,Z⟩:∃p,kvs[i]?=some p:=⟨kvs[i],ln hi⟩
  obtain⟨u,hu,ru⟩:=W3 kv Z
  have hl:kvs.length=vs.length:=Paired.length kv
  obtain⟨ok,J,L⟩:=st
  rw[hl]at L
  have S:it<s.heap.objs.size:=Heap.lt_size L
  refine wpAny_pyNext_items_item L hm hu fun key h' O ho hT hz hk=>?_
  refine⟨_,rfl,wpAny_letOwnedTupleGo_items (s:={ s with heap:=h' }) ho fun G ac sb=>?_⟩
  have af:G.get? s.heap.objs.size=some { cls:=.type "tuple",data:=.seq #[key,u] }:=(sb.2 _ (Nat.ne_of_gt S)).trans hT
  have new:dq X.prog X.w (upd H s.heap.objs.size (.tup [kV k,v])) G s.heap.objs.size (.tup [kV k,v]) :=
   ⟨by show 2≤sizeLine;decide,[key,u],.cons (Ph (show tW k key=true from O)) (.cons ru .nil),⟨_,af,rfl,_,rfl⟩⟩
  have I1:Inv X pins σ (upd H s.heap.objs.size (.tup [kV k,v])) { s with heap:=G } :=
   I.qR (t':=s.toks) (ch:=[it]) (fun b ob D e=>(sb.2 b (by simpa using D)).trans (hk b ob (by simpa using D) e)) hf (i' _) new
  refine⟨.ref s.heap.objs.size,_,I1,rfl,⟨_,k,v,Z,rfl,I.hok.fresh (i' _),rfl⟩,⟨key,u,?_⟩,fun b D=>?_⟩
  ·rw[hl];exact ac
  ·have e:b=it:=by simpa using D
   rw[e,aA (md S)]
   exact(hf it (by simp)).1
 done:=by
  intro X hP hw hK hc i pins s σ H E I hf st hg
  subst hP hw hK
  have hi:kvs.length≤i:=hg
  obtain⟨f0,f1,f2,f3,f4,f5⟩:=hf it (by simp)
  obtain⟨o',ae,ah,vs,j,ag,F,hsz,kv,hm⟩:=KD.at_ I
  rw[lk]at j
  cases j
  obtain⟨rfl,rfl⟩:=JB Y F
  have hl:kvs.length=vs.length:=Paired.length kv
  obtain⟨ok,J,L⟩:=st
  rw[hl]at L
  exact wpAny_pyNext_items_end (I.ok.hd hc) L hm (List.getElem?_eq_none (by lia)) fun h' eb=>⟨rfl,I.turned (t':=s.toks) (fun b ob D e=>eb b ob D e) f0 f1 f3 f4 f5⟩
 self:=fun A i s Q E st h=>let⟨_,_,e⟩:=st;PySem.W.kcp_self e h
theorem Ws{X:Cx}{x:Str}{d:Addr}{kvs:List (Key×V)}{p apos cpos:Pos}{z:List Expr}{O:Nat}{tpos:Pos}(hg:Gl X x)(Y:X.mg x=some (.ref d))(L:KDict X.K X.w d kvs)(hd:(x==("__debug__" : Str))=false:=by decide)
  (D:attributeBase (.Name x p) "items" X.env (eval (.Name x p) X.env)=eval (.Name x p) X.env:=by rfl) (G:(apos.endLine==cpos.line)=true:=by rfl) :
  PI X (.Tuple z O tpos) (.Call (.Attribute (.Name x p) "items" apos) [] [] cpos) (fun σ H R=>R (Za kvs) H):=by
 intro pins s σ H R I h
 refine wpAny_Call_method (T:="dict") (id:="dict.items") D rfl G F.plainAttrs_dict F.slot_dict_items F.type_dict_items (jQ I hg Y ?_ hd)
 obtain⟨o,es,ep,vs,lk,Z,J,hsz,kv,j⟩:=L.at_ I
 have U:kvs.length=vs.length:=Paired.length kv
 refine⟨j.dictOf.typeIs,j.dictOf.mapOf.noDict,?_⟩
 have S:Inv X pins σ H { s with heap:=s.heap.push { cls:=.type "dict_items",data:=.fields #[.ref d] } }:=I.kept (t':=s.toks) fun b ob q=>Heap.get?_push_of_some _ q
 have fin:wpAny (model X.prog X.w) X.A (pyIter (.ref s.heap.objs.size)) (PIE X pins σ (.Tuple z O tpos) R) X.xe { s with heap:=s.heap.push { cls:=.type "dict_items",data:=.fields #[.ref d] } }:=by
  refine wpAny_pyIter_items (d:=d) (knd:=du X.prog X.w) ⟨_,Heap.get?_push_size _ rfl,rfl,rfl⟩ (j.push _) (Wr (tk:=s.toks) S _ (Nk _ L lk J) ⟨.none,.none,?_⟩ h)
  rw[U]
  exact Heap.get?_push_size _ rfl
 show wpAny _ _ (callWith cpos (.builtin "dict.items") [.ref d] [] []) _ X.xe s
 exact method_meetsIn F.slot_dict_items F.entry_dict_items rfl (PySem.evalArgs_none ⟨rfl,j.dictOf.typeIs,F.args_dict_items_1 _,_,meets_dict_items (du X.prog X.w) d L.ns,⟨vs,j.dictOf⟩,fin⟩)
theorem Ur{kvs:List (Key×V)}{g:TG}{tb:TS}{D:Ends}{σ:L2.St}{H:Hp}(Pv:Nat→L2.St→Hp→Prop)(h0:Pv 0 σ H)
  (F:∀i k v σ H T,kvs[i]?=some (k,v)→Pv i σ H→H T=none→g (.ref T) σ (upd H T (.tup [kV k,v])) fun σ2 H2=>tb { D with nx:=Pv (i+1),ct:=Pv (i+1),bk:=D.nx } σ2 H2) (hd:∀σ H,Pv kvs.length σ H→D.nx σ H) :
  ∃W:Nat→Nat→L2.St→Hp→Prop,(∃m,W 0 m σ H)∧∀i m σ H,W i m σ H →
   ((Za kvs).stop i H∧D.nx σ H)∨((Za kvs).go i H∧∃N:L2.St→Hp→Prop,(∀σ' H',N σ' H'→∃z,z<m∧W (i+1) z σ' H')∧∀x H',(Za kvs).yld i H x H'→g x σ H' fun σ2 H2=>tb { D with nx:=N,ct:=N,bk:=D.nx } σ2 H2):=by
 refine⟨fun i m σ H=>m=kvs.length-i∧i≤kvs.length∧Pv i σ H,⟨kvs.length,by simp,Nat.zero_le _,h0⟩,?_⟩
 rintro i m σ H ⟨rfl,hi,p⟩
 by_cases j:i<kvs.length
 ·refine .inr ⟨j,Pv (i+1),fun σ' H' J=>⟨kvs.length-(i+1),by lia,rfl,j,J⟩,fun x H' y=>?_⟩
  obtain⟨T,k,v,e,rfl,G,rfl⟩:=y
  exact F i k v σ H T e p G
 ·have e:i=kvs.length:=by lia
  subst e
  exact .inl ⟨i' _,hd σ H p⟩
noncomputable def ALONE:List (Str×Int):=[("clock",0),("living",1),("me",192),("priority",193),("elapsed",194),("age",195),("family",196)]
noncomputable def ROWS:List (Str×Str×Int×Int):=[("p","",64,16),("v","",128,64),("f",".free",256,64),("f",".holder",320,64),("s",".used",384,64),("s",".left",448,64),("s",".open",512,64),("q",".content",576,64),("c",".length",640,64),("k","",704,64),("f",".open",832,64),("f",".displaced",896,64)]
noncomputable def Iu(r:Str×Str×Int×Int):TV:=.t [.s r.1,.s r.2.1,.i r.2.2.1,.i r.2.2.2]
noncomputable def jf:List (Key×V):=ALONE.map fun p=>(Sum.inr p.1,V.int p.2)
noncomputable def jh(i:Int):Str:=Str.ofString (toString i)
noncomputable def iz(n:Int)(r:Str×Str×Int×Int):Bool:=decide (r.2.2.1≤n)&&decide (n<r.2.2.1+r.2.2.2)
noncomputable def bV(n:Int):Str:=match ALONE.find? fun p=>decide (p.2=n)with
 | some p=>p.1
 | none=>match ROWS.find? (iz n)with
  | some r=>r.1++jh (n-r.2.2.1)++r.2.1
  | none => ""
structure CM (K:PySem.W.Frag) (w:World) (mg:Str→Option Value):Prop where
 RA:∃d,mg "READ_ALONE"=some (.ref d)∧KDict K w d jf
 RR:GC K mg "READ_ROWS" (.t (ROWS.map Iu))
 str:mg "str"=none
noncomputable def Fb:Sp:=fun vs H Q _=>∃n:Int,vs=[.int n]∧∀H',az H H'→Q (.str (bV n)) H'
noncomputable abbrev ym:Stmt:=top 60
theorem QH{i:Int}(h0:0≤i)(h1:i<100):(jh i).length≤2:=by
 obtain⟨n,rfl⟩:∃n:Nat,i=n:=⟨i.toNat,by lia⟩
 unfold jh
 have e:=TL.Ek n
 rw[TL.rR,e]
 exact TL.Cq (by decide) (by lia)
theorem az.upd{H:Hp}{T:Addr}{o:HO}(h:H T=none):az H (L2.upd H T o):=fun b u e=>by
 rw[aA (aP e h)]
 exact e
theorem gC{α:Type}{p:α→Bool}:∀{l:List α}{i:Nat}{x:α},l[i]?=some x→(l.take i).find? p=none→p x=false→(l.take (i+1)).find? p=none
 | [],i,x,h,_,_=>by simp at h
 | a::l,0,x,h,_,hx=>by
  cases h
  simp[hx]
 | a::l,i+1,x,h,j,hx=>by
  rw[List.take_succ_cons,List.find?_cons]at j ⊢
  cases q:p a with
  | true=>rw[q]at j;cases j
  | false =>
   rw[q]at j
   simp only[q]
   exact gC (l:=l) h j hx
theorem gB{α:Type}{p:α→Bool}:∀{l:List α}{i:Nat}{x:α},l[i]?=some x→(l.take i).find? p=none→p x=true→l.find? p=some x
 | [],i,x,h,_,_=>by simp at h
 | a::l,0,x,h,_,hx=>by
  cases h
  simp[hx]
 | a::l,i+1,x,h,j,hx=>by
  rw[List.take_succ_cons,List.find?_cons]at j
  rw[List.find?_cons]
  cases q:p a with
  | true=>rw[q]at j;cases j
  | false =>
   rw[q]at j
   exact gB (l:=l) h j hx
section
theorem oU:aO ["number","name","known","head","tail","first","count"] ["number"] (aH ym):=⟨rfl,rfl,rfl,by decide +kernel,rfl,by decide +kernel,by decide +kernel⟩
theorem Jb{f:Addr}{fd:FuncData}(F:Fn K mg "name_of_read" ym f fd ["number"])(T:CM K w mg):aL P w K mg base (bc P w) 1 f fd ["number"] Fb:=by
 obtain⟨d,hd,KD⟩:=T.RA
 obtain⟨ur,vr,ag,rr,ai⟩:=T.RR
 obtain⟨ra,J,rfl,S,D⟩:=ai.tup
 refine dz F.F oU (fun vs H Q E h=>?_) (fun cdv A outer s H vs Q E hr h=>?_)
 ·obtain⟨_,rfl,_⟩:=h
  rfl
 ·obtain⟨n,rfl,k⟩:=h
  refine⟨_,aj (lN rH rfl (Ws rfl hd KD) (vX rfl (dg (bT (i:=1) oU.nd rfl (Or.inl rfl)) (dg (bT (i:=2) oU.nd rfl (Or.inl rfl)) qj)))
    (ak (aR (aD aY (pv 2) (pv 0) (aG _)) (ak (aB (pv 1))) aF)))
   (aj (lN rH rfl (Px (eU rfl ag rr)) (vX rfl (dg (bT (i:=3) oU.nd rfl (Or.inl rfl)) (dg (bT (i:=4) oU.nd rfl (Or.inl rfl)) (dg (bT (i:=5) oU.nd rfl (Or.inl rfl)) (dg (bT (i:=6) oU.nd rfl (Or.inl rfl)) qj)))))
    (ak (aR (vR kj iG (pv 5) (pv 0) (bL gM (pv 5) (pv 6)))
     (ak (aB (bL iH (bL iH (pv 3) (gk gF (by rfl) T.str (by decide +kernel) (aa (bL ji (pv 0) (pv 5)) aq))) (pv 4)))) aF)))
   (ak (aB gJ))),?_⟩
  refine Ur (kvs:=jf) (fun i σ H'=>∃v1 v2:Option V,σ=[some (.int n),v1,v2,none,none,none,none]∧az H H'∧(ALONE.take i).find? (fun p=>decide (p.2=n))=none) ⟨none,none,rfl,az.refl H,rfl⟩ ?_ ?_
  ·rintro i ky v σ H' T hi ⟨v1,v2,rfl,sm,hn⟩ hT
   obtain⟨p,hp,e⟩:∃p,ALONE[i]?=some p∧(ky,v)=((Sum.inr p.1:Key),V.int p.2):=by
    unfold jf at hi
    rw[l0]at hi
    cases q:ALONE[i]? with
    | none=>rw[q]at hi;cases hi
    | some p=>rw[q]at hi;exact⟨p,rfl,(Option.some.inj hi).symm⟩
   cases e
   refine⟨T,_,rfl,bN.of au,rfl,_,_,rfl,_,_,rfl,rfl,?_⟩
   have ae:az H (L2.upd H' T (.tup [kV (Sum.inr p.1),V.int p.2])):=sm.trans (az.upd hT)
   refine⟨_,rfl,_,rfl,rfl,_,rfl,bC (fun h=>?_) fun h=>?_⟩
   ·have h:p.2=n:=V.int.inj (mn h)
    have e:bV n=p.1:=by
     unfold bV
     rw[gB hp hn (mi h)]
    have z:=k _ ae
    rw[e]at z
    exact⟨_,rfl,z⟩
   ·exact⟨_,_,rfl,ae,gC hp hn (mu fun z=>h (mi (by rw[z])))⟩
  ·rintro σ H1 ⟨v1,v2,rfl,sm,hn⟩
   have U:ALONE.find? (fun p=>decide (p.2=n))=none:=hn
   have G:J.length=ROWS.length:=by
    have:=Paired.length D
    rw[ap]at this
    exact this.symm
   refine⟨ra,rfl,⟨_,S H1⟩,Ju (K:=K) (a:=ra) (xs:=J) (fun i σ H'=>∃w1 w2 w3 w4:Option V,σ=[some (.int n),v1,v2,w1,w2,w3,w4]∧H'=H1∧(ROWS.take i).find? (iz n)=none) ⟨none,none,none,none,rfl,rfl,rfl⟩ (fun i σ H' _ _=>S H') ?_ ?_⟩
   ·rintro i x σ H' hi ⟨w1,w2,w3,w4,rfl,rfl,O⟩
    have il:i<J.length:=(lf.mp hi).1
    obtain⟨r,j⟩:∃r,ROWS[i]?=some r:=⟨_,ln (by rw[G]at il;exact il)⟩
    obtain⟨y,hy,hc⟩:=cz D (i:=i) (a:=Iu r) (by rw[l0,j];rfl)
    rw[hi]at hy
    cases hy
    obtain⟨a2,ys,rfl,af,L⟩:=tD.tup hc
    obtain⟨y1,av,t1⟩:∃y1,ys=y1::ys.tail∧True:=by cases L with | cons a b=>exact⟨_,rfl,trivial⟩
    have ey:ys=[V.str r.1,V.str r.2.1,V.int r.2.2.1,V.int r.2.2.2]:=by
     cases L with
     | cons a b=>cases b with
      | cons c d=>cases d with
       | cons e f=>cases f with
        | cons g h' =>
         cases h'
         rw[tD.str a,tD.str c,tD.int e,tD.int g]
    subst ey
    refine⟨a2,_,rfl,af _,rfl,_,_,rfl,_,_,rfl,_,_,rfl,_,_,rfl,rfl,?_⟩
    have hf:iz n r=false→(ROWS.take (i+1)).find? (iz n)=none:=fun q=>gC j O q
    refine⟨_,rfl,_,rfl,_,_,rfl,rfl,_,rfl,bC (fun h1=>?_) fun h1=>?_⟩
    ·have h1:=mn h1
     refine⟨_,rfl,_,rfl,_,_,rfl,rfl,_,_,rfl,rfl,_,rfl,bC (fun h2=>?_) fun h2=>?_⟩
     ·have h2:=mn h2
      have ac:iz n r=true:=by unfold iz;rw[mi h1,mi h2];rfl
      have Y:r∈ROWS:=mw j
      have hb:r.1.length≤1∧r.2.1.length≤10∧r.2.2.2≤64:=by
       have:∀r∈ROWS,r.1.length≤1∧r.2.1.length≤10∧r.2.2.2≤64:=by decide +kernel
       exact this r Y
      have hl:(jh (n-r.2.2.1)).length≤2:=QH (by lia) (by lia)
      have e:bV n=r.1++jh (n-r.2.2.1)++r.2.1:=by
       unfold bV
       rw[U,gB j O ac]
      have z:=k _ sm
      rw[e]at z
      have Z:(n-r.2.2.1).natAbs.log2<1920:=l6 (Nat.log2_le_self _) (by lia)
      have hsz:(1000:Nat)≤sizeLine:=by decide
      have al:(r.1++jh (n-r.2.2.1)).length≤3:=by
       rw[TL.rR,TL.yc,jp,←TL.rR,←TL.rR]
       lia
      exact⟨_,rfl,_,rfl,_,rfl,_,_,rfl,rfl,_,rfl,Z,_,_,rfl,rfl,by show r.1.length+(jh (n-r.2.2.1)).length≤sizeLine;lia,_,rfl,_,_,rfl,rfl,by show(r.1++jh (n-r.2.2.1)).length+r.2.1.length≤sizeLine;lia,z⟩
     ·exact⟨_,_,_,_,rfl,rfl,hf (by unfold iz;rw[mu (fun z=>h2 (mi z)),Bool.and_false])⟩
    ·exact⟨_,rfl,aN ⟨_,_,_,_,rfl,rfl,hf (by unfold iz;rw[mu (fun z=>h1 (mi z)),Bool.false_and])⟩⟩
   ·rintro σ H' ⟨w1,w2,w3,w4,rfl,rfl,O⟩
    have ah:ROWS.find? (iz n)=none:=by
     rw[G]at O
     exact O
    have e:bV n = "":=by
     unfold bV
     rw[U,ah]
    have z:=k _ sm
    rw[e]at z
    exact z
end
end SB
end
section
namespace SB
open PySem PySem.Spec PyProof.Rows L2 XL
open Vbdeaa (Text Exp Exps Un Bin)
variable {P:Program} {w:World} {K:PySem.W.Frag} {mg:Str→Option Value} {base:Heap}
noncomputable def jV:Exps→List Exp
 | .nil=>[]
 | .cons e l=>e::jV l
noncomputable def kids:Exp→List Exp
 | .num _=>[]
 | .name _=>[]
 | .un _ a=>[a]
 | .bin _ a b=>[a,b]
 | .and a b=>[a,b]
 | .or a b=>[a,b]
 | .cond c a b=>[c,a,b]
 | .best _ l=>jV l
 | .use _ l=>jV l
noncomputable def dZ:Exp→Int
 | .num _=>0
 | .name _=>1
 | .un _ _=>2
 | .bin _ _ _=>3
 | .and _ _=>4
 | .or _ _=>5
 | .cond _ _ _=>6
 | .best _ _=>7
 | .use _ _=>8
noncomputable def yS:Un→Nat
 | .neg=>0 | .not=>1 | .floor=>2 | .ceil=>3 | .abs=>4 | .sign=>5 | .num=>6 | .den=>7
noncomputable def eZ:Bin→Nat
 | .add=>0 | .sub=>1 | .mul=>2 | .div=>3 | .quo=>4 | .rem=>5 | .pow=>6 | .eq=>7 | .ne=>8 | .lt=>9 | .le=>10 | .gt=>11 | .ge=>12
noncomputable def iV(t:Text):Str:=⟨(t.map Int.toNat).toArray⟩
noncomputable def jz(H:Hp):Exp→V→Prop
 | .num q,D=>∃t,D=.ref t∧H t=some (.tup [.int q.1,.int (q.2:Nat)])
 | .name n,D=>D=.str (iV n)
 | .un o _,D=>D=.int (yS o)
 | .bin o _ _,D=>D=.int (eZ o)
 | .best g _,D=>D=.int (if g=true then 1 else 0)
 | .use n _,D=>D=.str (iV n)
 | _,D=>D=.int 0
noncomputable def Qx(fo:Int)(D:V)(l:Addr)(h:Int):List (Str×V):=[("form",.int fo),("detail",D),("parts",.ref l),("height",.int h)]
inductive aX (C:Addr) (H:Hp):Exp→Addr→Prop
 | mk {e:Exp} {a dx l:Addr} {D:V} {as:List Addr}:H a=some (.ins C dx (Qx (dZ e) D l e.height))→jz H e D→H l=some (.lst (as.map V.ref))→Paired (aX C H) (kids e) as→aX C H e a
theorem o6:∀(l:Exps)(e:Exp),e∈jV l→e.height≤l.height
 | .nil,e,h=>by cases h
 | .cons a l,e,h=>by
  show _≤max a.height l.height
  rcases j'.mp h with h | h
  ·subst h;lia
  ·have:=o6 l e h;lia
theorem gm{e k:Exp}(h:k∈kids e):k.height<e.height:=by
 cases e with
 | num q=>cases h
 | name n=>cases h
 | un o a=>simp only[kids,j',l5,or_false]at h;subst h;show _<_+1;lia
 | bin o a b=>simp only[kids,j',l5,or_false]at h;show _<max _ _+1;rcases h with h | h<;>subst h<;>lia
 | and a b=>simp only[kids,j',l5,or_false]at h;show _<max _ _+1;rcases h with h | h<;>subst h<;>lia
 | or a b=>simp only[kids,j',l5,or_false]at h;show _<max _ _+1;rcases h with h | h<;>subst h<;>lia
 | cond c a b=>simp only[kids,j',l5,or_false]at h;show _<max _ (max _ _)+1;rcases h with h | h | h<;>subst h<;>lia
 | best g l=>have:=o6 l k h;show _<_+1;lia
 | use n l=>have:=o6 l k h;show _<_+1;lia
noncomputable def rQ(l:List Nat):Nat:=l.foldr max 0
theorem Ji:∀{l:List Nat}{x:Nat},x∈l→x≤rQ l
 | a::l,x,h=>by
  show x≤max a (rQ l)
  rcases j'.mp h with h | h
  ·lia
  ·have:=Ji h;lia
theorem CK:∀{l:List Nat},l≠[]→rQ l∈l
 | [],h=>absurd rfl h
 | [a],_=>by show max a 0∈[a];rw[Nat.max_zero];exact ci
 | a::b::l,_=>by
  have j:=CK (l:=b::l) (by simp)
  show max a (rQ (b::l))∈a::b::l
  by_cases h:rQ (b::l)≤a
  ·rw[Nat.max_eq_left h];exact ci
  ·rw[Nat.max_eq_right (by lia)];exact am _ j
theorem Ua{l:List Nat}{m:Int}(h:(l.map (fun(n:Nat)=>(n:Int))=[]∧m=0)∨(m∈l.map (fun(n:Nat)=>(n:Int))∧∀y∈l.map (fun(n:Nat)=>(n:Int)),y≤m)):m=rQ l:=by
 rcases h with⟨h1,h2⟩ | ⟨h1,h2⟩
 ·have:l=[]:=by simpa using h1
  subst this
  exact h2
 ·obtain⟨x,hx,e⟩:=List.mem_map.mp h1
  have D:=Ji hx
  have j:=h2 _ (List.mem_map.mpr ⟨rQ l,CK (by intro z;subst z;cases hx),rfl⟩)
  lia
theorem jk:∀(l:Exps),l.height=rQ ((jV l).map Exp.height)
 | .nil=>rfl
 | .cons a l=>by
  show max a.height l.height=max a.height (rQ ((jV l).map Exp.height))
  rw[jk l]
theorem gP(e:Exp):e.height=1+rQ ((kids e).map Exp.height):=by
 cases e with
 | num q=>rfl
 | name n=>rfl
 | un o a=>show a.height+1=1+max a.height 0;rw[Nat.max_zero,Nat.add_comm]
 | bin o a b=>show max a.height b.height+1=1+max a.height (max b.height 0);rw[Nat.max_zero,Nat.add_comm]
 | and a b=>show max a.height b.height+1=1+max a.height (max b.height 0);rw[Nat.max_zero,Nat.add_comm]
 | or a b=>show max a.height b.height+1=1+max a.height (max b.height 0);rw[Nat.max_zero,Nat.add_comm]
 | cond c a b=>show max c.height (max a.height b.height)+1=1+max c.height (max a.height (max b.height 0));rw[Nat.max_zero,Nat.add_comm]
 | best g l=>show l.height+1=1+rQ ((jV l).map Exp.height);rw[jk,Nat.add_comm]
 | use n l=>show l.height+1=1+rQ ((jV l).map Exp.height);rw[jk,Nat.add_comm]
theorem eN{H H':Hp}{e:Exp}{D:V}(s:∀b xs,H b=some (.tup xs)→H' b=some (.tup xs))(h:jz H e D):jz H' e D:=by
 cases e with
 | num q=>obtain⟨t,z,j⟩:=h;exact⟨t,z,s _ _ j⟩
 | _=>exact h
theorem cU{α β:Type}{F G:α→β→Prop}:∀{l:List α}{m:List β},Paired F l m→(∀a b,a∈l→F a b→G a b)→Paired G l m
 | _,_,.nil,_=>.nil
 | _,_,.cons r t,f=>.cons (f _ _ ci r) (cU t fun a b h=>f a b (am _ h))
theorem aX.same{C:Addr}{H H':Hp}(s:az H H'):∀{e:Exp}{a:Addr},aX C H e a→aX C H' e a:=by
 have j:∀(n:Nat)(e:Exp)(a:Addr),e.height≤n→aX C H e a→aX C H' e a:=by
  intro n
  induction n with
  | zero =>
   intro e a z h
   have:0<e.height:=by cases e<;>simp[Exp.height]
   lia
  | succ n F =>
   intro e a z h
   cases h with
   | mk h1 h2 L G=>exact .mk (s _ _ h1) (eN (fun b xs q=>s _ _ q) h2) (s _ _ L) (cU G fun k b D J=>F k b (by have:=gm D;lia) J)
 intro e a h
 exact j e.height e a (i' _) h
structure oK (K:PySem.W.Frag) (C:Addr):Prop where
 cl:JR K C
 nF:bu K C "form"
 nD:bu K C "detail"
 nP:bu K C "parts"
 nH:bu K C "height"
noncomputable def d7(x:Addr)(H H':Hp):Prop:=∀b o,H b=some o→b≠x→H' b=some o
noncomputable def oR(C:Addr):Sp:=fun vs H Q _=>∃(x dx l:Addr)(e:Exp)(D:V)(as:List Addr),vs=[.ref x,.int (dZ e),D,.ref l]∧H x=some (.ins C dx [])∧jz H e D∧H l=some (.lst (as.map V.ref))∧Paired (aX C H) (kids e) as ∧
 as.length<2000∧∀H',d7 x H H'→H' x=some (.ins C dx (Qx (dZ e) D l e.height))→Q .non H'
noncomputable abbrev Ir:Stmt:=inClass (top 41) 0
theorem cH{C:Addr}{H:Hp}{e:Exp}{a:Addr}(h:aX C H e a):∃dx D l as,H a=some (.ins C dx (Qx (dZ e) D l e.height))∧jz H e D∧H l=some (.lst (as.map V.ref))∧Paired (aX C H) (kids e) as:=by
 cases h with
 | mk h1 h2 z j=>exact⟨_,_,_,_,h1,h2,z,j⟩
section
theorem Fj:aO ["self","form","detail","parts","part"] ["self","form","detail","parts"] (aH Ir):=⟨rfl,rfl,rfl,by decide +kernel,rfl,by decide +kernel,by decide +kernel⟩
theorem Th{f C:Addr}{fd:FuncData}(F:kZ K "__init__" "Node.__init__" Ir f fd)(T:oK K C)(Z:mg "max"=none):aL P w K mg base (bc P w) 1 f fd ["self","form","detail","parts"] (oR C):=by
 refine dz F Fj (fun vs H Q E h=>?_) (fun cdv A outer s H vs Q E hr h=>?_)
 ·obtain⟨_,_,_,_,_,_,rfl,_⟩:=h
  rfl
 ·obtain⟨x,dx,l,e,D,as,rfl,hx,hD,hl,hp,ac,k⟩:=h
  refine⟨_,aj (fj (pv 0) (pv 1) rfl) (aj (fj (pv 0) (pv 2) rfl) (aj (fj (pv 0) (pv 3) rfl)
   (ak (fj (pv 0) (bL gM ao (SN rfl rfl Z (aa (yr (own:=[("part",4)]) (te:=uf K (jB 4) "height") rfl Fj.nd (gU (pv 3)) (g_ (by kernel_rfl))
    (fun _ _ _ _ _=>by exact bT (i:=4) Fj.nd rfl (Or.inl rfl)) (fun _ _ _ _ _=>by exact iW) (fun _ _ _ _ _=>by exact aJ (pv 4) rfl)) aq) (Sy ao Wo))) rfl)))),?_⟩
  have ai:l≠x:=qt hl hx (by intro z;cases z)
  have aw:gZ "form" (.int (dZ e)) []=[(("form" : Str),V.int (dZ e))]:=rfl
  refine⟨_,rfl,_,rfl,x,C,dx,[],rfl,hx,T.cl,T.nF,(by decide),?_⟩
  refine⟨_,rfl,_,rfl,x,C,dx,_,rfl,au,T.cl,T.nD,(by show 1<1000;decide),?_⟩
  refine⟨_,rfl,_,rfl,x,C,dx,_,rfl,au,T.cl,T.nP,(by show 2<1000;decide),?_⟩
  generalize ae:L2.upd (L2.upd (L2.upd H x (.ins C dx (gZ "form" (.int (dZ e)) []))) x (.ins C dx (gZ "detail" D (gZ "form" (.int (dZ e)) [])))) x (.ins C dx (gZ "parts" (.ref l) (gZ "detail" D (gZ "form" (.int (dZ e)) []))))=H3
  have sx:d7 x H H3:=fun b o q j=>by rw[←ae,aA j,aA j,aA j];exact q
  have S:H3 x=some (.ins C dx [("form",.int (dZ e)),("detail",D),("parts",.ref l)]):=by rw[←ae];exact au
  have J:=sx l _ hl ai
  refine⟨_,rfl,l,rfl,⟨_,bF.of J⟩,fun L hL=>jb (K:=K) (a:=l) (xs:=as.map V.ref) (fun i H'=>d7 L H3 H'∧H' L=some (.lst (((((kids e).map Exp.height).take i).map (fun(n:Nat)=>(n:Int))).map V.int))) ⟨fun b o q j=>by rw[aA j];exact q,au⟩
   (fun i H' _ ⟨s1,_⟩=>bF.of (s1 l _ J (aP J hL))) ?_ ?_⟩
  ·rintro i y H' hi ⟨s1,G⟩
   rw[l0]at hi
   obtain⟨a,ha,rfl⟩:∃a,as[i]?=some a∧y=V.ref a:=by
    cases q:as[i]? with
    | none=>rw[q]at hi;cases hi
    | some a=>rw[q]at hi;exact⟨a,rfl,(Option.some.inj hi).symm⟩
   have il:i<(kids e).length:=by rw[Paired.length hp];exact(lf.mp ha).1
   obtain⟨kd,Y⟩:∃kd,(kids e)[i]?=some kd:=⟨_,ln il⟩
   obtain⟨a',U,af⟩:=cz hp Y
   rw[ha]at U
   cases U
   obtain⟨av,D',l',ax,h1,_⟩:=cH af
   have O:a≠x:=qt h1 hx (by intro z;injection z with _ _ z;cases z)
   have al:=s1 a _ (sx a _ h1 O) (aP (sx a _ h1 O) hL)
   refine⟨rfl,_,rfl,a,C,av,_,_,rfl,al,T.cl,T.nH,rfl,_,G,?_,fun b o q j=>by rw[aA j];exact s1 b o q j,?_⟩
   ·rw[ap,ap,lp]
    exact l6 (Nat.min_le_right _ _) (by rw[ap,Paired.length hp];exact lm ac (by decide))
   ·rw[au]
    have e1:((kids e).map Exp.height)[i]?=some kd.height:=by rw[l0,Y];rfl
    rw[List.take_succ,e1]
    simp
  ·rintro H' ⟨s1,G⟩
   rw[ap,←Paired.length hp,show(kids e).length=((kids e).map Exp.height).length by rw[ap],List.take_length]at G
   have ah:x≠L:=aP S hL
   have ag:=s1 x _ S ah
   refine⟨L,_,0,rfl,rfl,bF.of G,fun m hm=>?_⟩
   have em:=Ua (l:=(kids e).map Exp.height) hm
   have eh:1+m=(e.height:Int):=by rw[gP,em];lia
   refine⟨_,_,rfl,rfl,_,rfl,x,C,dx,_,rfl,ag,T.cl,T.nH,(by show 3<1000;decide),?_⟩
   show Q .non (L2.upd H' x (.ins C dx (gZ "height" (.int (1+m)) _)))
   rw[eh]
   refine k _ (fun b o q j=>?_) au
   rw[aA j]
   have q3:=sx b o q j
   exact s1 b o q3 (aP q3 hL)
end
theorem az.YC{H:Hp}{x dx C:Addr}(nx:H x=none)(nd:H dx=none):az H (L2.upd (L2.upd H dx (.own x)) x (.ins C dx [])):=fun b o e=>by
 rw[aA (aP e nx),aA (aP e nd)]
 exact e
theorem bZ{C:Addr}{H H':Hp}(s:az H H'){es:List Exp}{as:List Addr}(h:Paired (aX C H) es as):Paired (aX C H') es as:=cU h fun _ _ _ q=>q.same s
noncomputable def Ry(H:Hp)(Q:VK)(xs:List V):Prop:=∀l H',H l=none→az H H'→H' l=some (.lst xs)→Q (.ref l) H'
noncomputable abbrev vB:Stmt:=top 105
noncomputable abbrev Bx:Stmt:=top 106
section
end
theorem wu{H:Hp}{e:Exp}{D:V}(h:jz H e D):kI (dZ e) D (e.level:Int):=by
 cases e with
 | num q=>exact kI.else_ (f:=0) (by decide) (by decide) (by decide) (by decide) (by decide)
 | name n=>exact kI.else_ (f:=1) (by decide) (by decide) (by decide) (by decide) (by decide)
 | un o a =>
  obtain rfl:D=.int (yS o):=h
  cases o<;>exact .one rfl
 | bin o a b =>
  obtain rfl:D=.int (eZ o):=h
  cases o<;>exact .two rfl
 | and a b=>exact .and_
 | or a b=>exact .or_
 | cond c a b=>exact .if_
 | best g l=>exact kI.else_ (f:=7) (by decide) (by decide) (by decide) (by decide) (by decide)
 | use n l=>exact kI.else_ (f:=8) (by decide) (by decide) (by decide) (by decide) (by decide)
noncomputable def qW(l:List (List Int))(c:Int)(j i:Nat):Int:=if j=9 then c else(l.getD j []).getD i 0
theorem qU(e:Exp){i:Nat}(hi:i<(kids e).length):MT iR 0 (e.level:Int) (i:Int) (qW iR 0 e.level i)∧MT f9 1 (e.level:Int) (i:Int) (qW f9 1 e.level i):=by
 have nine:∀(l:List (List Int))(c:Int),e.level=9→MT l c (e.level:Int) (i:Int) (qW l c e.level i):=fun l c h=>.inl ⟨by rw[h];rfl,by unfold qW;rw[mr h]⟩
 have less:∀(k:Nat),e.level=k→k≠9→(∃m,kY iR (k:Int)=some m∧kY m (i:Int)=some (qW iR 0 k i))→(∃m,kY f9 (k:Int)=some m∧kY m (i:Int)=some (qW f9 1 k i)) →
   MT iR 0 (e.level:Int) (i:Int) (qW iR 0 e.level i)∧MT f9 1 (e.level:Int) (i:Int) (qW f9 1 e.level i):=fun k h z h1 h2=>by
  rw[h]
  exact⟨.inr ⟨by lia,h1⟩,.inr ⟨by lia,h2⟩⟩
 have D:∀j,j<1→i=j→i=0:=by lia
 cases e with
 | num q=>exact absurd hi (by simp[kids])
 | name n=>exact absurd hi (by simp[kids])
 | un o a =>
  have h0:i=0:=by simp[kids]at hi;assumption
  subst h0
  cases o with
  | neg=>exact less 7 rfl (by decide) ⟨[7],rfl,rfl⟩ ⟨[1],rfl,rfl⟩
  | not=>exact less 3 rfl (by decide) ⟨[3],rfl,rfl⟩ ⟨[1],rfl,rfl⟩
  | _=>exact⟨nine _ _ rfl,nine _ _ rfl⟩
 | bin o a b =>
  have h0:i=0∨i=1:=by simp[kids]at hi;lia
  rcases h0 with rfl | rfl<;>cases o<;>first
   | exact less 5 rfl (by decide) ⟨[5,6],rfl,rfl⟩ ⟨[0,0],rfl,rfl⟩
   | exact less 6 rfl (by decide) ⟨[6,7],rfl,rfl⟩ ⟨[0,0],rfl,rfl⟩
   | exact less 8 rfl (by decide) ⟨[9,7],rfl,rfl⟩ ⟨[0,1],rfl,rfl⟩
   | exact less 4 rfl (by decide) ⟨[5,5],rfl,rfl⟩ ⟨[0,0],rfl,rfl⟩
 | and a b =>
  have h0:i=0∨i=1:=by simp[kids]at hi;lia
  rcases h0 with rfl | rfl<;>exact less 2 rfl (by decide) ⟨[2,3],rfl,rfl⟩ ⟨[0,0],rfl,rfl⟩
 | or a b =>
  have h0:i=0∨i=1:=by simp[kids]at hi;lia
  rcases h0 with rfl | rfl<;>exact less 1 rfl (by decide) ⟨[1,2],rfl,rfl⟩ ⟨[0,0],rfl,rfl⟩
 | cond c a b =>
  have h0:i=0∨i=1∨i=2:=by simp[kids]at hi;lia
  rcases h0 with rfl | rfl | rfl<;>exact less 0 rfl (by decide) ⟨[0,0,0],rfl,rfl⟩ ⟨[1,1,1],rfl,rfl⟩
 | best g l=>exact⟨nine _ _ rfl,nine _ _ rfl⟩
 | use n l=>exact⟨nine _ _ rfl,nine _ _ rfl⟩
noncomputable def uV(e p:Exp)(i:Nat):Bool:=decide ((p.level:Int)<qW iR 0 e.level i)
noncomputable def bz(e:Exp)(r:Exp→Int)(acc:Int)(pi:Exp×Nat):Int :=
 let d:=qW f9 1 e.level pi.2+r pi.1+(if uV e pi.1 pi.2=true then 1 else 0)
 if d>acc then d else acc
noncomputable def yt:Nat→Exp→Int
 | 0,_=>0
 | k+1,e=>(kids e).zipIdx.foldl (bz e (yt k)) 0
noncomputable def cP(e:Exp):Int:=yt e.height e
theorem rY{α β:Type}{f g:β→α→β}:∀{l:List α}{b:β},(∀a∈l,∀b,f b a=g b a)→l.foldl f b=l.foldl g b
 | [],_,_=>rfl
 | x::l,b,h=>by
  rw[List.foldl_cons,List.foldl_cons,h x ci]
  exact rY fun a j=>h a (am _ j)
theorem l_{α:Type}{l:List α}{p:α×Nat}(h:p∈l.zipIdx):p.1∈l:=by
 obtain⟨a,i⟩:=p
 have:=List.mem_zipIdx h
 exact this.2.2▸List.getElem_mem _
theorem Qy:∀(n m:Nat)(e:Exp),e.height≤n→e.height≤m→yt n e=yt m e:=by
  intro n
  induction n with
  | zero => intro m e h; have : 0 < e.height := by rw [gP]; lia
            lia
  | succ n z =>
    intro m e h1 h2
    cases m with
    | zero => have : 0 < e.height := by rw [gP]; lia
              lia
    | succ m =>
      refine rY fun p j b=>?_
      have D:=gm (l_ j)
      unfold bz
      rw[z m p.1 (by lia) (by lia)]
theorem fQ(e:Exp):cP e=(kids e).zipIdx.foldl (bz e cP) 0:=by
 unfold cP
 have j:=gP e
 rw[j,Nat.add_comm]
 refine rY fun p D b=>?_
 have F:=gm (l_ D)
 have z:yt (rQ ((kids e).map Exp.height)) p.1=yt p.1.height p.1:=Qy _ _ _ (by lia) (i' _)
 unfold bz
 rw[z]
noncomputable def RW(C:Addr):Sp:=fun vs H Q _=>∃(a:Addr)(e p:Exp)(i:Nat),vs=[.ref a,.int i]∧aX C H e a∧(kids e)[i]?=some p∧Q (.bl (uV e p i)) H
section
theorem Ii:aO ["node","position","part"] ["node","position"] (aH vB):=⟨rfl,rfl,rfl,by decide +kernel,rfl,by decide +kernel,by decide +kernel⟩
theorem Qa{f C Z fP:Addr}{fd J z:FuncData}(F:Fn K mg "wants_brackets" vB f fd ["node","position"])(T:oK K C)(j:Fn K mg "kind_of" yo Z J ["form","detail"])(O:Fn K mg "place_of" rC fP z ["kind","position"])(TC:CN K mg) :
  aL P w K mg base (bc P w) 2 f fd ["node","position"] (RW C):=by
 have GK:aL P w K mg base (bc P w) 1 Z J _ _:=Jc j TC
 have GP:aL P w K mg base (bc P w) 1 fP z _ _:=Qk O TC
 refine dz F.F Ii (fun vs H Q E h=>?_) (fun cdv A outer s H vs Q E Y h=>?_)
 ·obtain⟨_,_,_,_,rfl,_⟩:=h
  rfl
 ·obtain⟨a,e,p,i,rfl,hn,hi,k⟩:=h
  obtain⟨dx,D,l,as,h1,hD,hl,hp⟩:=cH hn
  obtain⟨b,hb,S⟩:=cz hp hi
  obtain⟨L,D',l',ac,G,U,_,_⟩:=cH S
  refine⟨_,aj (a_ (i:=2) Ii.nd rfl (Or.inl rfl) (aQ bA (aJ (pv 0) rfl) (pv 1) (fun _ _=>rfl)))
   (ak (aB (bW iG (aK GK Y rfl j.m j.F.kp j.b .nil passes (aa (aJ (pv 2) rfl) (aa (aJ (pv 2) rfl) aq)))
    (aK GP Y rfl O.m O.F.kp O.b .nil passes (aa (aK GK Y rfl j.m j.F.kp j.b .nil passes (aa (aJ (pv 0) rfl) (aa (aJ (pv 0) rfl) aq))) (aa (pv 1) aq))) (aG _)))),?_⟩
  refine⟨_,rfl,a,C,dx,_,_,rfl,h1,T.cl,T.nP,rfl,_,rfl,l,_,_,_,rfl,rfl,bF.of hl,j7 (by rw[l0,hb];rfl),?_⟩
  refine⟨_,rfl,b,C,L,_,_,rfl,G,T.cl,T.nF,rfl,_,rfl,b,C,L,_,_,rfl,G,T.cl,T.nD,rfl,_,_,_,rfl,wu U,?_⟩
  refine⟨_,rfl,a,C,dx,_,_,rfl,h1,T.cl,T.nF,rfl,_,rfl,a,C,dx,_,_,rfl,h1,T.cl,T.nD,rfl,_,_,_,rfl,wu hD,?_⟩
  refine⟨_,rfl,_,_,_,rfl,(qU e (lf.mp hi).1).1,?_⟩
  exact⟨_,_,rfl,rfl,k⟩
end
theorem Q5{K:PySem.W.Frag}{a:Addr}{xs:List V}{g:TG}{tb:TS}{D:Ends}{σ:L2.St}{H:Hp}(Pv:Nat→L2.St→Hp→Prop)(h0:Pv 0 σ H)(G:∀i σ H,i≤xs.length→Pv i σ H→bF K H a xs)
  (J:∀i x σ H T,xs[i]?=some x→Pv i σ H→H T=none→g (.ref T) σ (L2.upd H T (.tup [.int (i:Nat),x])) fun σ2 H2=>tb { D with nx:=Pv (i+1),ct:=Pv (i+1),bk:=D.nx } σ2 H2) (hd:∀σ H,Pv xs.length σ H→D.nx σ H) :
  ∃W:Nat→Nat→L2.St→Hp→Prop,(∃m,W 0 m σ H)∧∀i m σ H,W i m σ H →
   ((Zb K a).stop i H∧D.nx σ H)∨((Zb K a).go i H∧∃N:L2.St→Hp→Prop,(∀σ' H',N σ' H'→∃F,F<m∧W (i+1) F σ' H')∧∀x H',(Zb K a).yld i H x H'→g x σ H' fun σ2 H2=>tb { D with nx:=N,ct:=N,bk:=D.nx } σ2 H2):=by
 refine⟨fun i m σ H=>m=xs.length-i∧i≤xs.length∧Pv i σ H,⟨xs.length,by simp,Nat.zero_le _,h0⟩,?_⟩
 rintro i m σ H ⟨rfl,hi,p⟩
 have q:=G i σ H hi p
 by_cases j:i<xs.length
 ·refine .inr ⟨⟨xs,xs[i],q,by simp[j]⟩,Pv (i+1),fun σ' H' O=>⟨xs.length-(i+1),by lia,rfl,j,O⟩,fun x H' y=>?_⟩
  obtain⟨T,z,rfl,L,rfl,hz⟩:=y
  exact J i z σ H T (hz xs q) p L
 ·have e:i=xs.length:=by lia
  subst e
  exact .inl ⟨⟨xs,q,i' _⟩,hd σ H p⟩
noncomputable def E_(C:Addr)(n:Nat):Sp:=fun vs H Q _=>∃(a:Addr)(e:Exp),vs=[.ref a]∧aX C H e a∧e.height≤n∧∀H',az H H'→Q (.int (cP e)) H'
theorem M8{α:Type}{l:List α}{i:Nat}{x:α}(h:l[i]?=some x):(l.zipIdx).take (i+1)=(l.zipIdx).take i++[(x,i)]:=by
 rw[List.take_succ,List.getElem?_zipIdx,h]
 simp
section
theorem jH:aO ["node","kind","deepest","position","part","depth"] ["node"] (aH Bx):=⟨rfl,rfl,rfl,by decide +kernel,rfl,by decide +kernel,by decide +kernel⟩
theorem Tj{f C fK fA fW fP:Addr}{fd J S Y ac:FuncData}(F:Fn K mg "nesting_of" Bx f fd ["node"])(T:oK K C)(U:Fn K mg "kind_of" yo fK J ["form","detail"])(Z:Fn K mg "around_of" qe fA S ["kind","position"])
  (FW:Fn K mg "wants_brackets" vB fW Y ["node","position"]) (FP:Fn K mg "place_of" rC fP ac ["kind","position"]) (TC:CN K mg) (O:mg "max"=none) (ae:mg "enumerate"=none) :
  ∀n:Nat,aL P w K mg base (bc P w) (n+3) f fd ["node"] (E_ C n):=by
 have GK:aL P w K mg base (bc P w) 1 fK J _ _:=Jc U TC
 have GA:aL P w K mg base (bc P w) 1 fA S _ _:=La Z TC
 have GW:aL P w K mg base (bc P w) 2 fW Y _ _:=Qa FW T U FP TC
 intro n
 induction n with
 | zero =>
  refine dz F.F jH (fun vs H Q E h=>?_) (fun cdv A outer s H vs Q E hr h=>?_)
  ·obtain⟨_,_,rfl,_⟩:=h
   rfl
  ·obtain⟨a,e,rfl,hn,hh,k⟩:=h
   have:0<e.height:=by rw[gP];lia
   lia
 | succ n ih =>
  refine dz F.F jH (fun vs H Q E h=>?_) (fun cdv A outer s H vs Q E hr h=>?_)
  ·obtain⟨_,_,rfl,_⟩:=h
   rfl
  ·obtain⟨a,e,rfl,hn,hh,k⟩:=h
   obtain⟨dx,D,l,as,h1,hD,hl,hp⟩:=cH hn
   have G:bB 1 _:=hr.mono (by lia)
   have af:bB 2 _:=hr.mono (by lia)
   refine⟨_,aj (a_ (i:=1) jH.nd rfl (Or.inl rfl) (aK GK G rfl U.m U.F.kp U.b .nil passes (aa (aJ (pv 0) rfl) (aa (aJ (pv 0) rfl) aq))))
    (aj (a_ (i:=2) jH.nd rfl (Or.inl rfl) ao)
    (aj (lN rH rfl (SJ rfl ae (aa (aJ (pv 0) rfl) aq)) (vX rfl (dg (bT (i:=3) jH.nd rfl (Or.inl rfl)) (dg (bT (i:=4) jH.nd rfl (Or.inl rfl)) qj)))
     (aj (a_ (i:=5) jH.nd rfl (Or.inl rfl) (bL gM (aK GA G rfl Z.m Z.F.kp Z.b .nil passes (aa (pv 1) (aa (pv 3) aq))) (aK ih hr rfl F.m F.F.kp F.b .nil passes (aa (pv 4) aq))))
     (aj (aR (fc (aK GW af rfl FW.m FW.F.kp FW.b .nil passes (aa (pv 0) (aa (pv 3) aq)))) (ak (zK (i:=5) jH.nd rfl (Or.inl rfl) ao QR)) aF)
     (ak (a_ (i:=2) jH.nd rfl (Or.inl rfl) (bH (Mm rfl) (by rfl) O (by decide +kernel) (aa (pv 2) (aa (pv 5) aq))))))))
    (ak (aB (pv 2))))),?_⟩
   refine⟨_,rfl,a,C,dx,_,_,rfl,h1,T.cl,T.nF,rfl,_,rfl,a,C,dx,_,_,rfl,h1,T.cl,T.nD,rfl,_,_,_,rfl,wu hD,?_⟩
   refine⟨_,rfl,a,C,dx,_,_,rfl,h1,T.cl,T.nP,rfl,l,_,rfl,bF.of hl,Q5 (K:=K) (a:=l) (xs:=as.map V.ref) (fun i σ H'=>∃v3 v4 v5:Option V,σ=[some (.ref a),some (.int e.level),some (.int (((kids e).zipIdx.take i).foldl (bz e cP) 0)),v3,v4,v5]∧az H H')
    ⟨none,none,none,rfl,az.refl H⟩ (fun i σ H' _ ⟨_,_,_,_,s1⟩=>bF.of (s1 _ _ hl)) ?_ ?_⟩
   ·rintro i x σ H' Tt hi ⟨v3,v4,v5,rfl,s1⟩ hT
    rw[l0]at hi
    obtain⟨b,hb,rfl⟩:∃b,as[i]?=some b∧x=V.ref b:=by
     cases q:as[i]? with
     | none=>rw[q]at hi;cases hi
     | some b=>rw[q]at hi;exact⟨b,rfl,(Option.some.inj hi).symm⟩
    have il:i<(kids e).length:=by rw[Paired.length hp];exact(lf.mp hb).1
    obtain⟨z,j⟩:∃z,(kids e)[i]?=some z:=⟨_,ln il⟩
    obtain⟨b',L,ag⟩:=cz hp j
    rw[hb]at L
    cases L
    have s2:az H (L2.upd H' Tt (.tup [.int (i:Nat),.ref b])):=s1.trans (az.upd hT)
    refine⟨Tt,_,rfl,bN.of au,rfl,_,_,rfl,_,_,rfl,rfl,?_⟩
    refine⟨_,rfl,_,rfl,_,_,_,rfl,(qU e il).2,?_⟩
    refine⟨_,rfl,b,z,rfl,ag.same s2,by have:=gm (mw j);lia,fun H3 s3=>?_⟩
    have s4:=s2.trans s3
    refine⟨_,_,rfl,rfl,?_⟩
    refine⟨_,rfl,_,rfl,a,e,z,i,rfl,hn.same s4,j,_,rfl,?_⟩
    have fin:∀d:Int,d=qW f9 1 e.level i+cP z+(if uV e z i=true then 1 else 0) →
      (if d>((kids e).zipIdx.take i).foldl (bz e cP) 0 then d else((kids e).zipIdx.take i).foldl (bz e cP) 0)=((kids e).zipIdx.take (i+1)).foldl (bz e cP) 0:=fun d hd=>by
     rw[M8 j,List.foldl_append,List.foldl_cons,List.foldl_nil]
     show _=bz e cP _ (z,i)
     unfold bz
     rw[hd]
    cases hw:uV e z i with
    | true =>
     refine bj ⟨_,rfl,_,_,rfl,rfl,?_⟩
     refine⟨_,rfl,_,rfl,_,_,rfl,?_⟩
     exact⟨_,_,_,by rw[fin _ (by rw[hw,mr rfl])];rfl,s4⟩
    | false =>
     refine aN ?_
     refine⟨_,rfl,_,rfl,_,_,rfl,?_⟩
     exact⟨_,_,_,by rw[fin _ (by rw[hw,ml (by decide),Int.add_zero])];rfl,s4⟩
   ·rintro σ H' ⟨v3,v4,v5,rfl,s1⟩
    rw[ap,←Paired.length hp,show(kids e).length=(kids e).zipIdx.length by rw[List.length_zipIdx],List.take_length,←fQ]
    exact⟨_,rfl,k H' s1⟩
end
noncomputable def vI(t:Text):List V:=t.map V.int
theorem xx(s:String):Vbdeaa.text s=(TL.tl (Str.ofString s)).map fun(c:Nat)=>(c:Int):=by
 unfold Vbdeaa.text
 rw[TL.A_,List.map_map]
 rfl
theorem GZ{n:Int}(h:n.natAbs≤1000000000000000000):n.natAbs.log2<1920:=by
 by_cases h0:n.natAbs=0
 ·rw[h0];decide
 ·have:n.natAbs<2 ^ 60:=l6 h (by decide)
  have:=(Nat.log2_lt h0).mpr this
  lia
theorem QG{n:Nat}(h:n≤1000000000000000000):(jh (n:Int)).length≤19:=by
 unfold jh
 rw[TL.rR,TL.Ek n]
 exact TL.Cq (by decide) (l6 h (by decide))
noncomputable def Y5:List Str:=["-","not","floor","ceil","abs","sign","num","den"]
noncomputable def Vx:List Str:=["min","max"]
noncomputable def YZ:List (List Int):=[[43],[45],[42],[47],[47,47],[37],[94],[61],[60,62],[60],[60,61],[62],[62,61]]
structure CP (K:PySem.W.Frag) (mg:Str→Option Value):Prop where
 NUMBER:GC K mg "NUMBER" (.i 0)
 NAME:GC K mg "NAME" (.i 1)
 PICK:GC K mg "PICK" (.i 7)
 OW:GC K mg "ONE_WORDS" (RM Y5)
 PW:GC K mg "PICK_WORDS" (RM Vx)
 TS:GC K mg "TWO_SIGNS" (.t (YZ.map tvs))
 str:mg "str"=none
 list:mg "list"=none
 range:mg "range"=none
 len:mg "len"=none
section
end
section
end
section
theorem Gh{X:Cx}:jm (bc X.prog X.w) X E0:=fun pins σ H s v s' I h=>by
 obtain⟨_,_,_,_,_,_,_,_,_,_,z⟩:=h
 exact False.elim z
end
theorem cZ{a b:Int}(h:V.int a=V.int b):a=b:=by injection h
theorem cO{α β:Type}{F:α→β→Prop}:∀{l:List α}{m:List β}{a:α}{b:β},Paired F l m→F a b→Paired F (l++[a]) (m++[b])
 | _,_,_,_,.nil,h=>.cons h .nil
 | _,_,_,_,.cons r t,h=>.cons r (cO t h)
section
end
noncomputable abbrev zB:Stmt:=inClass (top 46) 0
noncomputable abbrev nU(i:Nat):Stmt:=inClass (top i) 0
section
theorem Yb:aO ["self","number"] ["self","number"] (aH zB):=⟨rfl,rfl,rfl,by decide +kernel,rfl,by decide +kernel,by decide +kernel⟩
theorem vY{f:Addr}{fd:FuncData}(F:kZ K "__init__" "Refusal.__init__" zB f fd)(hex:mg "Exception"=none):aL P w K mg base (bc P w) 1 f fd ["self","number"] (spR K):=by
 refine dz F Yb (fun vs H Q E h=>?_) (fun cdv A outer s H vs Q E z h=>?_)
 ·obtain⟨_,_,_,rfl,_⟩:=h
  rfl
 ·obtain⟨x,C,n,rfl,hx,j,k⟩:=h
  refine⟨_,aj (bQ (Py rfl hex (aa (pv 0) aq))) (ak (Sx (pv 0) (pv 1) rfl)),?_⟩
  exact⟨_,rfl,x,C,none,rfl,hx,j.over,_,rfl,_,rfl,x,C,rfl,hx,j.over,j.sa,j.tk,j.hd,k⟩
theorem V7:aO ["self"] ["self"] (aH (nU 47)):=⟨rfl,rfl,rfl,by decide +kernel,rfl,by decide +kernel,by decide +kernel⟩
theorem WD{f fR R:Addr}{fd j:FuncData}(F:kZ K "__init__" "WrongParameterCount.__init__" (nU 47) f fd)(J:kZ K "__init__" "Refusal.__init__" zB fR j)(D:Binds K j ["self","number"] [])(G:mg "Refusal"=some (.ref R))(CR:j_ K R "__init__" fR)(hex:mg "Exception"=none):aL P w K mg base (bc P w) 2 f fd ["self"] (Vj K (-1)):=by
 have GR:aL P w K mg base (bc P w) 1 fR j _ _:=vY J hex
 refine dz F V7 (fun vs H Q E h=>?_) (fun cdv A outer s H vs Q E L h=>?_)
 ·obtain⟨_,_,rfl,_⟩:=h
  rfl
 ·obtain⟨x,C,rfl,hx,z,k⟩:=h
  refine⟨_,ak (bQ (ql (eU rfl G rfl) CR GR L D .nil passes (aa (pv 0) (aa (dY cM ao) aq)))),?_⟩
  exact⟨_,rfl,_,rfl,x,C,-1,rfl,hx,z,k⟩
theorem R1:aO ["self"] ["self"] (aH (nU 48)):=⟨rfl,rfl,rfl,by decide +kernel,rfl,by decide +kernel,by decide +kernel⟩
theorem Tp{f fR R:Addr}{fd j:FuncData}(F:kZ K "__init__" "CodeTooLong.__init__" (nU 48) f fd)(J:kZ K "__init__" "Refusal.__init__" zB fR j)(D:Binds K j ["self","number"] [])(G:mg "Refusal"=some (.ref R))(CR:j_ K R "__init__" fR)(hex:mg "Exception"=none):aL P w K mg base (bc P w) 2 f fd ["self"] (Vj K (-2)):=by
 have GR:aL P w K mg base (bc P w) 1 fR j _ _:=vY J hex
 refine dz F R1 (fun vs H Q E h=>?_) (fun cdv A outer s H vs Q E L h=>?_)
 ·obtain⟨_,_,rfl,_⟩:=h
  rfl
 ·obtain⟨x,C,rfl,hx,z,k⟩:=h
  refine⟨_,ak (bQ (ql (eU rfl G rfl) CR GR L D .nil passes (aa (pv 0) (aa (dY cM ao) aq)))),?_⟩
  exact⟨_,rfl,_,rfl,x,C,-2,rfl,hx,z,k⟩
theorem Kf:aO ["self"] ["self"] (aH (nU 49)):=⟨rfl,rfl,rfl,by decide +kernel,rfl,by decide +kernel,by decide +kernel⟩
theorem K5{f fR R:Addr}{fd j:FuncData}(F:kZ K "__init__" "NoCode.__init__" (nU 49) f fd)(J:kZ K "__init__" "Refusal.__init__" zB fR j)(D:Binds K j ["self","number"] [])(G:mg "Refusal"=some (.ref R))(CR:j_ K R "__init__" fR)(hex:mg "Exception"=none):aL P w K mg base (bc P w) 2 f fd ["self"] (Vj K (-3)):=by
 have GR:aL P w K mg base (bc P w) 1 fR j _ _:=vY J hex
 refine dz F Kf (fun vs H Q E h=>?_) (fun cdv A outer s H vs Q E L h=>?_)
 ·obtain⟨_,_,rfl,_⟩:=h
  rfl
 ·obtain⟨x,C,rfl,hx,z,k⟩:=h
  refine⟨_,ak (bQ (ql (eU rfl G rfl) CR GR L D .nil passes (aa (pv 0) (aa (dY cM ao) aq)))),?_⟩
  exact⟨_,rfl,_,rfl,x,C,-3,rfl,hx,z,k⟩
theorem R3:aO ["self"] ["self"] (aH (nU 50)):=⟨rfl,rfl,rfl,by decide +kernel,rfl,by decide +kernel,by decide +kernel⟩
theorem TY{f fR R:Addr}{fd j:FuncData}(F:kZ K "__init__" "CodeTooDeep.__init__" (nU 50) f fd)(J:kZ K "__init__" "Refusal.__init__" zB fR j)(D:Binds K j ["self","number"] [])(G:mg "Refusal"=some (.ref R))(CR:j_ K R "__init__" fR)(hex:mg "Exception"=none):aL P w K mg base (bc P w) 2 f fd ["self"] (Vj K (-4)):=by
 have GR:aL P w K mg base (bc P w) 1 fR j _ _:=vY J hex
 refine dz F R3 (fun vs H Q E h=>?_) (fun cdv A outer s H vs Q E L h=>?_)
 ·obtain⟨_,_,rfl,_⟩:=h
  rfl
 ·obtain⟨x,C,rfl,hx,z,k⟩:=h
  refine⟨_,ak (bQ (ql (eU rfl G rfl) CR GR L D .nil passes (aa (pv 0) (aa (dY cM ao) aq)))),?_⟩
  exact⟨_,rfl,_,rfl,x,C,-4,rfl,hx,z,k⟩
end
theorem uJ{X:Cx}{x:Str}{l:List TV}{p0 p pos:Pos}(J:Gl X x)(F:Gl X "len")(j:X.mg "len"=none)(G:GC X.K X.mg x (.t l))(hd:(x==("__debug__" : Str))=false:=by decide):PE X (.Call (.Name "len" p0) [.Name x p] [] pos) (tC (.int (l.length:Nat))):=by
 obtain⟨u,v,e,r,z⟩:=G
 obtain⟨a,xs,rfl,D,L⟩:=z.tup
 intro pins s σ H Q I h
 have key:PE X (.Call (.Name "len" p0) [.Name x p] [] pos) _:=bH bD F j (by decide +kernel) (aa (eU J e r hd) aq)
 refine key pins s σ H Q I ⟨a,xs,rfl,.inr (D H),?_⟩
 rw[←Paired.length L]
 exact h
noncomputable def Hy:List Int:=[3,2,2,2,2,2,2,2,3,1,2]
structure CR (K:PySem.W.Frag) (mg:Str→Option Value):Prop where
 LE:GC K mg "LENGTHS" (tvs Hy)
 Z:GC K mg "NUMBER_ZERO" (tvs [0,0,1])
 O:GC K mg "NUMBER_ONE" (tvs [0,1,1])
 FO:GC K mg "FORMULAS" (.i 64)
 TA:GC K mg "TABLES" (.i 64)
 MA:GC K mg "MOST_ARGUMENTS" (.i 8)
 CALL:GC K mg "CALL" (.i 8)
 tuple:mg "tuple"=none
noncomputable def iK(f n:Int):Int:=if f=1 then n else if f=3 then 8 else if f=4 then 13 else if f=7 then 64 else 2
noncomputable def Kc:Sp:=fun vs H Q _=>∃f n:Int,vs=[.int f,.int n]∧Q (.int (iK f n)) H
noncomputable def e_(n:Int):List Int→Bool
 | [0,a,b]=>qm a b
 | [2,k]=>!decide (bV k = "")
 | [8,f,m]=>decide (0≤f∧f<64)&&decide (0≤m∧m≤8)
 | [9]=>true
 | [f,k]=>decide (0≤k)&&(decide (f=5∨f=6)||decide (k<iK f n))
 | _=>false
noncomputable def Shape(row:List Int):Prop:=∃f:Nat,row[0]?=some (f:Int)∧f<11∧Hy[f]?=some (row.length:Int)
noncomputable def yX:Sp:=fun vs H Q _=>∃(t:Addr)(row:List Int)(n:Int),vs=[.ref t,.int n]∧H t=some (.tup (vI row))∧Shape row∧∀H',az H H'→Q (.bl (e_ n row)) H'
noncomputable abbrev lJ:Stmt:=top 113
noncomputable abbrev vG:Stmt:=top 112
theorem eQ{n f k:Int}(h2:f≠2):e_ n [f,k]=(decide (0≤k)&&(decide (f=5∨f=6)||decide (k<iK f n))):=by
 rcases f with(_ | _ | _ | _ | _ | _ | _ | _ | _ | _ | m) | m<;>first | rfl | exact absurd rfl h2
theorem tK{row:List Int}(h:Shape row):(∃a b,row=[0,a,b])∨(∃a,row=[2,a])∨(∃a b,row=[8,a,b])∨row=[9]∨(∃(f:Int)(a:Int),row=[f,a]∧f≠0∧f≠2∧f≠8∧f≠9):=by
 obtain⟨f,h0,h1,h2⟩:=h
 have two:row.length=2→(f:Int)≠0∧(f:Int)≠2∧(f:Int)≠8∧(f:Int)≠9→∃(f:Int)(a:Int),row=[f,a]∧f≠0∧f≠2∧f≠8∧f≠9:=fun j D=>by
  match row,h0,j with
  | [a,b],h0,_=>cases h0;exact⟨_,_,rfl,D⟩
 have z:f=0∨f=1∨f=2∨f=3∨f=4∨f=5∨f=6∨f=7∨f=8∨f=9∨f=10:=by lia
 rcases z with rfl | rfl | rfl | rfl | rfl | rfl | rfl | rfl | rfl | rfl | rfl
 ·have j:row.length=3:=by
   have:(3:Int)=row.length:=Option.some.inj h2
   lia
  match row,h0,j with
  | [a,b,c],h0,_=>cases h0;exact .inl ⟨_,_,rfl⟩
 ·exact .inr (.inr (.inr (.inr (two (by have:(2:Int)=row.length:=Option.some.inj h2;lia) (by decide)))))
 ·have j:row.length=2:=by
   have:(2:Int)=row.length:=Option.some.inj h2
   lia
  match row,h0,j with
  | [a,b],h0,_=>cases h0;exact .inr (.inl ⟨_,rfl⟩)
 ·exact .inr (.inr (.inr (.inr (two (by have:(2:Int)=row.length:=Option.some.inj h2;lia) (by decide)))))
 ·exact .inr (.inr (.inr (.inr (two (by have:(2:Int)=row.length:=Option.some.inj h2;lia) (by decide)))))
 ·exact .inr (.inr (.inr (.inr (two (by have:(2:Int)=row.length:=Option.some.inj h2;lia) (by decide)))))
 ·exact .inr (.inr (.inr (.inr (two (by have:(2:Int)=row.length:=Option.some.inj h2;lia) (by decide)))))
 ·exact .inr (.inr (.inr (.inr (two (by have:(2:Int)=row.length:=Option.some.inj h2;lia) (by decide)))))
 ·have j:row.length=3:=by
   have:(3:Int)=row.length:=Option.some.inj h2
   lia
  match row,h0,j with
  | [a,b,c],h0,_=>cases h0;exact .inr (.inr (.inl ⟨_,_,rfl⟩))
 ·have j:row.length=1:=by
   have:(1:Int)=row.length:=Option.some.inj h2
   lia
  match row,h0,j with
  | [a],h0,_=>cases h0;exact .inr (.inr (.inr (.inl rfl)))
 ·exact .inr (.inr (.inr (.inr (two (by have:(2:Int)=row.length:=Option.some.inj h2;lia) (by decide)))))
section
theorem Kl:aO ["first","n"] ["first","n"] (aH lJ):=⟨rfl,rfl,rfl,by decide +kernel,rfl,by decide +kernel,by decide +kernel⟩
theorem Gv{f:Addr}{fd:FuncData}(F:Fn K mg "choices_of" lJ f fd ["first","n"])(T:CP K mg)(R:CR K mg):aL P w K mg base (bc P w) 1 f fd ["first","n"] Kc:=by
 refine dz F.F Kl (fun vs H Q E h=>?_) (fun cdv A outer s H vs Q E J h=>?_)
 ·obtain⟨_,_,rfl,_⟩:=h
  rfl
 ·obtain⟨j,n,rfl,k⟩:=h
  refine⟨_,aj (aR (aD aY (pv 0) ao (aG _)) (ak (aB (pv 1))) aF)
   (aj (aR (aD aY (pv 0) ao (aG _)) (ak (aB (uJ rfl rfl T.len T.OW))) aF)
   (aj (aR (aD aY (pv 0) ao (aG _)) (ak (aB (uJ rfl rfl T.len T.TS))) aF)
   (aj (aR (aD aY (pv 0) ao (aG _)) (ak (aB (aW rfl R.TA))) aF)
   (ak (aB (uJ rfl rfl T.len T.PW)))))),?_⟩
  unfold iK at k
  simp only[L2.start,Eo,Be,tE,HF,jB,tC,Bb,yd,uZ,u5,Wl,Wk,FZ,rI,mY,mV,mZ,mW,mX,V.int.injEq,V.str.injEq,V.bl.injEq,V.ref.injEq,true_and,and_true,Option.some.injEq,exists_eq_left',exists_eq_left,exists_eq_right,exists_and_left,mf,List.map_nil,io,lT,ma,List.nil_append,mI,mE,mo,Bool.not_eq_true',decide_eq_false_iff_not,List.replicate_zero,List.replicate_succ,Nat.reduceSub,Nat.sub_self,Nat.reduceAdd,Nat.zero_add,XM,XJ,XH,Mj,lA,bh,dj,Bf,oF,List.set_cons_zero,List.set_cons_succ,Et,VR,Er,Vg,ye,u6,Ep,Es,u0,yf,Nt,mh,pI,uf,xG,Fz,Bc,lv]
  by_cases h1:j=1
  ·rw[mr h1]at k ⊢
   exact k
  rw[ml h1]at k ⊢
  by_cases G:j=3
  ·rw[mr G]at k ⊢
   exact k
  rw[ml G]at k ⊢
  by_cases z:j=4
  ·rw[mr z]at k ⊢
   exact k
  rw[ml z]at k ⊢
  by_cases D:j=7
  ·rw[mr D]at k ⊢
   exact k
  rw[ml D]at k ⊢
  exact k
theorem Im:aO ["row","n","first"] ["row","n"] (aH vG):=⟨rfl,rfl,rfl,by decide +kernel,rfl,by decide +kernel,by decide +kernel⟩
theorem Qj{f fP fG fN fC:Addr}{fd dP dG dN dC:FuncData}(F:Fn K mg "is_right_instruction" vG f fd ["row","n"])(J:Fn K mg "is_right_pair" Bv fP dP ["numerator","denominator"])(L:GC K mg "LARGEST" (.i 1000000000000000000))(FG:Fn K mg "common_divisor" Fw fG dG ["a","b"])
  (Y:Fn K mg "name_of_read" ym fN dN ["number"]) (U:Fn K mg "choices_of" lJ fC dC ["first","n"]) (T:CP K mg) (R:CR K mg) (M:CM K w mg):aL P w K mg base (bc P w) 3 f fd ["row","n"] yX:=by
 have GP:aL P w K mg base (bc P w) 2 fP dP _ _:=Tf J L FG
 have GN:aL P w K mg base (bc P w) 1 fN dN _ _:=Jb Y M
 have GC:aL P w K mg base (bc P w) 1 fC dC _ _:=Gv U T R
 refine dz F.F Im (fun vs H Q E h=>?_) (fun cdv A outer s H vs Q E hr h=>?_)
 ·obtain⟨_,_,_,rfl,_⟩:=h
  rfl
 ·obtain⟨t,row,n,rfl,D,af,k⟩:=h
  have O:bB 1 _:=hr.mono (by decide)
  refine⟨_,aj (a_ (i:=2) Im.nd rfl (Or.inl rfl) (aQ aU (pv 0) ao (fun _ _=>rfl)))
   (aj (aR (aD aY (pv 2) ao (aG _)) (ak (aB (aK GP hr rfl J.m J.F.kp J.b .nil passes (aa (aQ aU (pv 0) ao (fun _ _=>rfl)) (aa (aQ aU (pv 0) ao (fun _ _=>rfl)) aq))))) aF)
   (aj (aR (aD aY (pv 2) ao (aG _)) (ak (aB (bW kh (aK GN O rfl Y.m Y.F.kp Y.b .nil passes (aa (aQ aU (pv 0) ao (fun _ _=>rfl)) aq)) gJ (aG _)))) aF)
   (aj (aR (aD aY (pv 2) ao (aG _)) (ak (aB (rK (Ce kj iG ao (aQ aU (pv 0) ao (fun _ _=>rfl)) (aW rfl R.FO)) (oV (Ce kj kj ao (aQ aU (pv 0) ao (fun _ _=>rfl)) (aW rfl R.MA)))))) aF)
   (aj (aR (aD aY (pv 2) ao (aG _)) (ak (aB Vs)) aF)
   (ak (aB (rK (bW kj ao (aQ aU (pv 0) ao (fun _ _=>rfl)) (aG _)) (oV (Yr (bW iu (pv 2) (bw (aa ao (aa ao aq))) rfl) (oV (bW iG (aQ aU (pv 0) ao (fun _ _=>rfl)) (aK GC O rfl U.m U.F.kp U.b .nil passes (aa (pv 2) (aa (pv 1) aq))) (aG _)))))))))))),?_⟩
  rcases tK af with⟨a,b,rfl⟩ | ⟨a,rfl⟩ | ⟨a,b,rfl⟩ | rfl | ⟨G,a,rfl,n0,n2,n8,n9⟩
  ·refine⟨_,rfl,t,_,_,_,rfl,rfl,bN.of D,at_of (j:=0) rfl rfl,?_⟩
   refine⟨_,rfl,rfl,_,rfl,bj ⟨_,rfl,t,_,_,_,rfl,rfl,bN.of D,at_of (j:=1) rfl rfl,_,rfl,t,_,_,_,rfl,rfl,bN.of D,at_of (j:=2) rfl rfl,a,b,rfl,k H (az.refl H)⟩⟩
  ·refine⟨_,rfl,t,_,_,_,rfl,rfl,bN.of D,at_of (j:=0) rfl rfl,?_⟩
   refine⟨_,rfl,rfl,_,rfl,aN ?_⟩
   refine⟨_,rfl,rfl,_,rfl,bj ⟨_,rfl,t,_,_,_,rfl,rfl,bN.of D,at_of (j:=1) rfl rfl,a,rfl,fun H' s'=>⟨rfl,?_⟩⟩⟩
   have:=k H' s'
   have e:e_ n [2,a]=!decide (V.str (bV a)=V.str ""):=by
    show(!decide (bV a = ""))=_
    congr 1
    simp
   rw[e]at this
   exact this
  ·refine⟨_,rfl,t,_,_,_,rfl,rfl,bN.of D,at_of (j:=0) rfl rfl,?_⟩
   refine⟨_,rfl,rfl,_,rfl,aN ?_⟩
   refine⟨_,rfl,rfl,_,rfl,aN ?_⟩
   refine⟨_,rfl,rfl,_,rfl,bj ?_⟩
   have fin:∀c:Bool,e_ n [8,a,b]=c→Q (.bl c) H:=fun c e=>e▸k H (az.refl H)
   have Z:e_ n [8,a,b]=(decide (0≤a∧a<64)&&decide (0≤b∧b≤8)):=rfl
   refine⟨_,rfl,t,_,_,_,rfl,rfl,bN.of D,at_of (j:=1) rfl rfl,0,a,rfl,rfl,_,rfl,bC (fun h1=>?_) fun h1=>?_⟩
   ·have h1:0≤a:=mn h1
    refine⟨a,64,rfl,rfl,_,rfl,bC (fun h2=>?_) fun h2=>?_⟩
    ·have h2:a<64:=mn h2
     refine⟨_,rfl,t,_,_,_,rfl,rfl,bN.of D,at_of (j:=2) rfl rfl,0,b,rfl,rfl,_,rfl,bC (fun S=>?_) fun S=>?_⟩
     ·have S:0≤b:=mn S
      refine⟨b,8,rfl,rfl,fin _ ?_⟩
      rw[Z,mi (⟨h1,h2⟩:0≤a∧a<64),Bool.true_and]
      exact decide_eq_decide.mpr ⟨fun z=>z.2,fun z=>⟨S,z⟩⟩
     ·refine fin false ?_
      rw[Z,mu (p:=0≤b∧b≤8) (fun z=>S (mi z.1)),Bool.and_false]
    ·refine fin false ?_
     rw[Z,mu (p:=0≤a∧a<64) (fun z=>h2 (mi z.2)),Bool.false_and]
   ·refine⟨_,rfl,aN (fin false ?_)⟩
    rw[Z,mu (p:=0≤a∧a<64) (fun z=>h1 (mi z.1)),Bool.false_and]
  ·refine⟨_,rfl,t,_,_,_,rfl,rfl,bN.of D,at_of (j:=0) rfl rfl,?_⟩
   refine⟨_,rfl,rfl,_,rfl,aN ?_⟩
   refine⟨_,rfl,rfl,_,rfl,aN ?_⟩
   refine⟨_,rfl,rfl,_,rfl,aN ?_⟩
   exact⟨_,rfl,rfl,_,rfl,bj (k H (az.refl H))⟩
  ·have e5:=eQ (n:=n) (k:=a) n2
   have fin:∀(c:Bool)(H':Hp),az H H'→e_ n [G,a]=c→Q (.bl c) H':=fun c H' s' e=>e▸k H' s'
   refine⟨_,rfl,t,_,_,_,rfl,rfl,bN.of D,at_of (j:=0) rfl rfl,?_⟩
   refine⟨_,rfl,rfl,_,rfl,bC (fun h=>absurd (cZ (mn h)) n0) fun _=>?_⟩
   refine⟨_,rfl,rfl,_,rfl,bC (fun h=>absurd (cZ (mn h)) n2) fun _=>?_⟩
   refine⟨_,rfl,rfl,_,rfl,bC (fun h=>absurd (cZ (mn h)) n8) fun _=>?_⟩
   refine⟨_,rfl,rfl,_,rfl,bC (fun h=>absurd (cZ (mn h)) n9) fun _=>?_⟩
   refine⟨_,rfl,t,_,_,_,rfl,rfl,bN.of D,at_of (j:=1) rfl rfl,0,a,rfl,rfl,_,rfl,bC (fun h1=>?_) fun h1=>?_⟩
   ·have h1:0≤a:=mn h1
    refine⟨_,rfl,by show 2≤sizeLine;decide,fun tt ae=>?_⟩
    have s1:az H (L2.upd H tt (.tup [.int 5,.int 6])):=az.upd ae
    refine⟨tt,_,rfl,.inr (bN.of au),rfl,rfl,_,rfl,?_⟩
    have ac:inV (.int G) [V.int 5,V.int 6]=decide (G=5∨G=6):=by
     show(((5:Int)==G)||(((6:Int)==G)||false))=_
     rw[Bool.or_false,l9]
     simp only[Bool.or_eq_true,beq_iff_eq,mo]
     exact⟨fun z=>z.elim (fun y=>.inl y.symm) fun y=>.inr y.symm,fun z=>z.elim (fun y=>.inl y.symm) fun y=>.inr y.symm⟩
    show if inV (.int G) [V.int 5,V.int 6]=true then _ else _
    rw[ac]
    refine bC (fun h2=>?_) fun h2=>?_
    ·refine fin true _ s1 ?_
     rw[e5,mi h1,h2]
     rfl
    ·refine⟨_,rfl,t,_,_,_,rfl,rfl,bN.of (s1 _ _ D),at_of (j:=1) rfl rfl,_,rfl,_,rfl,G,n,rfl,a,iK G n,rfl,rfl,fin _ _ s1 ?_⟩
     rw[e5,mi h1,Bool.true_and,(by simpa using h2:decide (G=5∨G=6)=false),Bool.false_or]
   ·refine fin false H (az.refl H) ?_
    rw[e5,mu (fun z=>h1 (mi z)),Bool.false_and]
end
end SB
end
section
namespace SB
open PySem PySem.Spec PyProof.Rows L2 XL
open Vbdeaa (Text Exp Exps Un Bin Ins Code)
open MX (iJ hd Cut)
variable {P:Program} {w:World} {K:PySem.W.Frag} {mg:Str→Option Value} {base:Heap}
noncomputable def nameFits(k:Nat):Bool:=decide (bV (k:Int)=iV ((Vbdeam.readName k).getD []))&&(((Vbdeam.readName k).isSome==!decide (bV (k:Int) = ""))&&(Vbdeam.readName k).all fun t=>Vbdeaa.isName t&&t.all fun c=>decide (0≤c))
theorem Le:((List.range 960).all nameFits)=true:=by decide +kernel
theorem yx{k:Nat}(h:k<960):nameFits k=true:=mv.mp Le k (mx.mpr h)
theorem zQ{n:Int}(h:n<0∨960≤n):bV n = "":=by
 unfold bV
 have h1:ALONE.find? (fun p=>decide (p.2=n))=none:=by
  rw[List.find?_eq_none]
  intro p j
  simp only[ALONE,j',l5,or_false]at j
  rcases j with rfl | rfl | rfl | rfl | rfl | rfl | rfl<;>simp only[mo]<;>lia
 have h2:ROWS.find? (iz n)=none:=by
  rw[List.find?_eq_none]
  intro p j
  simp only[ROWS,j',l5,or_false]at j
  rcases j with rfl | rfl | rfl | rfl | rfl | rfl | rfl | rfl | rfl | rfl | rfl | rfl<;>simp only[iz,lj,mo]<;>lia
 rw[h1,h2]
theorem ir{k:Nat}(h:960≤k):Vbdeam.readName k=none:=by
 obtain⟨j,z⟩:∃j,k / 64=j+15:=⟨k / 64-15,by lia⟩
 unfold Vbdeam.readName
 rw[z]
 rfl
theorem yw{k:Nat}{t:Text}(h:Vbdeam.readName k=some t):bV (k:Int)=iV t∧Vbdeaa.isName t=true∧∀c∈t,0≤c:=by
 by_cases z:k<960
 ·have:=yx z
  unfold nameFits at this
  rw[h]at this
  simp only[Option.getD_some,Option.isSome_some,Option.all_some,lj,mo]at this
  refine⟨this.1,this.2.2.1,fun c j=>?_⟩
  have:=mv.mp this.2.2.2 c j
  exact mn this
 ·rw[ir (by lia)]at h
  cases h
theorem yu(n:Int):(bV n = "")↔¬(0≤n∧(Vbdeam.readName n.toNat).isSome=true):=by
 by_cases h:n<0∨960≤n
 ·refine⟨fun _ z=>?_,fun _=>zQ h⟩
  rcases h with h | h
  ·lia
  ·rw[ir (by lia)]at z
   exact absurd z.2 (by decide)
 ·obtain⟨k,rfl⟩:∃k:Nat,n=k:=⟨n.toNat,by lia⟩
  have:=yx (k:=k) (by lia)
  unfold nameFits at this
  simp only[lj]at this
  have h2:=this.2.1
  rw[Int.toNat_natCast]
  cases j:(Vbdeam.readName k).isSome with
  | true =>
   rw[j]at h2
   refine⟨fun z=>?_,fun z=>absurd ⟨by lia,rfl⟩ z⟩
   rw[mi z]at h2
   cases h2
  | false =>
   rw[j]at h2
   refine⟨fun z y=>absurd y.2 (by decide),fun z=>?_⟩
   by_cases q:bV (k:Int) = ""
   ·exact q
   ·rw[mu q]at h2
    cases h2
theorem Ci{q:Vbdeaa.Q}:qm q.1 (q.2:Nat)=iJ 0 (.push q):=by
 obtain⟨n,d⟩:=q
 show(decide (0≤n∧1≤(d:Int)∧n≤1000000000000000000∧(d:Int)≤1000000000000000000)&&(Nat.gcd n.toNat ((d:Int)).toNat==1))=((decide (n.natAbs≤Vbdeaa.B)&&(decide (1≤d)&&decide (d≤Vbdeaa.B))&&Nat.gcd n.natAbs d==1)&&decide (0≤n))
 have j:Vbdeaa.B=1000000000000000000:=by decide +kernel
 rw[j,Int.toNat_natCast]
 by_cases h0:0≤n
 ·rw[show n.toNat=n.natAbs by lia,mi h0,Bool.and_true]
  congr 1
  rw[l9]
  simp only[lj,mo]
  lia
 ·rw[mu h0,Bool.and_false,mu (p:=0≤n∧_) (fun z=>h0 z.1),Bool.false_and]
theorem Ln(i:Ins):Shape i.told:=by
 cases i with
 | push q=>exact⟨0,rfl,by decide,rfl⟩
 | arg q=>exact⟨1,rfl,by decide,rfl⟩
 | var q=>exact⟨2,rfl,by decide,rfl⟩
 | un q=>exact⟨3,rfl,by decide,rfl⟩
 | bin q=>exact⟨4,rfl,by decide,rfl⟩
 | jump q=>exact⟨5,rfl,by decide,rfl⟩
 | zero q=>exact⟨6,rfl,by decide,rfl⟩
 | table q=>exact⟨7,rfl,by decide,rfl⟩
 | call q r=>exact⟨8,rfl,by decide,rfl⟩
 | truth=>exact⟨9,rfl,by decide,rfl⟩
 | best q=>exact⟨10,rfl,by decide,rfl⟩
theorem vP{n:Nat}(i:Ins):e_ n i.told=iJ n i:=by
 cases i with
 | push q=>exact Ci
 | arg k =>
  show e_ n [1,(k:Int)]=decide (k<n)
  rw[eQ (by decide),mi (show(0:Int)≤k by lia),show iK 1 n=n from rfl]
  simp
 | var k =>
  show(!decide (bV (k:Int) = ""))=(Vbdeam.readName k).isSome
  have:=yu (k:Int)
  rw[Int.toNat_natCast]at this
  cases j:(Vbdeam.readName k).isSome with
  | true=>rw[mu (fun z=>(this.mp z) ⟨by lia,j⟩)];rfl
  | false=>rw[mi (this.mpr (fun z=>by rw[j]at z;exact absurd z.2 (by decide)))];rfl
 | un o=>cases o<;>(show e_ n [3,_]=true;rw[eQ (by decide)];rfl)
 | bin o=>cases o<;>(show e_ n [4,_]=true;rw[eQ (by decide)];rfl)
 | jump k =>
  show e_ n [5,(k:Int)]=true
  rw[eQ (by decide),mi (show(0:Int)≤k by lia)]
  rfl
 | zero k =>
  show e_ n [6,(k:Int)]=true
  rw[eQ (by decide),mi (show(0:Int)≤k by lia)]
  rfl
 | table k =>
  show e_ n [7,(k:Int)]=decide (k<64)
  rw[eQ (by decide),mi (show(0:Int)≤k by lia),show iK 7 n=64 from rfl]
  simp only[Bool.true_and]
  rw[mu (by decide),Bool.false_or]
  exact decide_eq_decide.mpr ⟨fun z=>by lia,fun z=>by lia⟩
 | call f m =>
  show(decide (0≤(f:Int)∧(f:Int)<64)&&decide (0≤(m:Int)∧(m:Int)≤8))=(decide (f<64)&&decide (m≤8))
  congr 1
  ·exact decide_eq_decide.mpr ⟨fun z=>by lia,fun z=>by lia⟩
  ·exact decide_eq_decide.mpr ⟨fun z=>by lia,fun z=>by lia⟩
 | truth=>rfl
 | best g=>cases g<;>(show e_ n [10,_]=true;rw[eQ (by decide)];rfl)
theorem QX{n:Nat}{row:List Int}(h:Shape row)(j:e_ n row=true):∃i,row=i.told∧iJ n i=true∧∀r,hd (row++r)=some (i,r):=by
 obtain⟨i,hi,U⟩:∃i,row=i.told∧∀r,hd (row++r)=some (i,r):=by
  have F:∀(f a:Int)(i:Ins),f≠9→Vbdeaa.one f a=some i→∀r,hd ([f,a]++r)=some (i,r):=fun f a i L D r=>by
   show hd (f::a::r)=some (i,r)
   have h0:f≠0:=fun z=>by subst z;unfold Vbdeaa.one at D;split at D<;>simp at D
   have J:f≠8:=fun z=>by subst z;unfold Vbdeaa.one at D;split at D<;>simp at D
   unfold hd
   split
   ·rename_i z;cases z
   ·rename_i z;injection z with z _;exact absurd z L
   ·rename_i z;injection z with z _;exact absurd z h0
   ·rename_i z;injection z with z _;exact absurd z J
   ·rename_i z;cases z;rw[D]
   ·rename_i z;cases z
  have two:∀(f a:Int)(i:Ins),f≠9→Vbdeaa.one f a=some i→∃i,[f,a]=i.told∧∀r,hd ([f,a]++r)=some (i,r):=fun f a i L D=>⟨i,MX.Ck D,F f a i L D⟩
  obtain⟨f,O,ae,ac⟩:=id h
  rcases tK h with⟨a,b,rfl⟩ | ⟨a,rfl⟩ | ⟨a,b,rfl⟩ | rfl | ⟨Y,a,rfl,n0,n2,n8,n9⟩
  ·have G:qm a b=true:=j
   unfold qm at G
   simp only[lj,mo]at G
   refine⟨.push (a,b.toNat),by show [0,a,b]=[0,a,((b.toNat:Nat):Int)];rw[l7 (by lia)],fun r=>?_⟩
   show(if b<0 then none else some (Ins.push (a,b.toNat),r))=_
   rw[ml (by lia)]
  ·have G:(!decide (bV a = ""))=true:=j
   have Z:¬bV a = "":=by simpa using G
   have h0:0≤a:=Classical.byContradiction fun z=>Z ((yu a).mpr fun y=>z y.1)
   exact two 2 a (.var a.toNat) (by decide) (by unfold Vbdeaa.one;rw[ml (by lia)];rfl)
  ·have G:(decide (0≤a∧a<64)&&decide (0≤b∧b≤8))=true:=j
   simp only[lj,mo]at G
   refine⟨.call a.toNat b.toNat,by show [8,a,b]=[8,((a.toNat:Nat):Int),((b.toNat:Nat):Int)];rw[l7 (by lia),l7 (by lia)],fun r=>?_⟩
   show(if a<0∨b<0 then none else some (Ins.call a.toNat b.toNat,r))=_
   rw[ml (by lia)]
  ·exact⟨.truth,rfl,fun r=>rfl⟩
  ·have S:Y=(f:Int):=Option.some.inj O
   rw[eQ n2]at j
   simp only[lj,Bool.or_eq_true,mo]at j
   obtain⟨ha,j⟩:=j
   have hc:f=1∨f=3∨f=4∨f=5∨f=6∨f=7∨f=10:=by lia
   have na:¬a<0:=by lia
   rcases hc with rfl | rfl | rfl | rfl | rfl | rfl | rfl<;>subst S
   ·exact two 1 a (.arg a.toNat) (by decide) (by unfold Vbdeaa.one;rw[ml na];rfl)
   ·have J:a<8:=by
     rcases j with j | j
     ·contradiction
     ·exact j
    obtain⟨o,D⟩:∃o,Vbdeaa.UNS[a.toNat]?=some o:=⟨_,ln (show a.toNat<Vbdeaa.UNS.length from by show a.toNat<8;lia)⟩
    exact two 3 a (.un o) (by decide) (by unfold Vbdeaa.one;rw[ml na];show(Vbdeaa.UNS[a.toNat]?).map Ins.un=_;rw[D];rfl)
   ·have J:a<13:=by
     rcases j with j | j
     ·contradiction
     ·exact j
    obtain⟨o,D⟩:∃o,Vbdeaa.BINS[a.toNat]?=some o:=⟨_,ln (show a.toNat<Vbdeaa.BINS.length from by show a.toNat<13;lia)⟩
    exact two 4 a (.bin o) (by decide) (by unfold Vbdeaa.one;rw[ml na];show(Vbdeaa.BINS[a.toNat]?).map Ins.bin=_;rw[D];rfl)
   ·exact two 5 a (.jump a.toNat) (by decide) (by unfold Vbdeaa.one;rw[ml na];rfl)
   ·exact two 6 a (.zero a.toNat) (by decide) (by unfold Vbdeaa.one;rw[ml na];rfl)
   ·exact two 7 a (.table a.toNat) (by decide) (by unfold Vbdeaa.one;rw[ml na];rfl)
   ·have J:a<2:=by
     rcases j with j | j
     ·contradiction
     ·exact j
    have:a=0∨a=1:=by lia
    rcases this with rfl | rfl
    ·exact two 10 0 (.best false) (by decide) rfl
    ·exact two 10 1 (.best true) (by decide) rfl
 exact⟨i,hi,by rw[←vP,←hi];exact j,U⟩
end SB
end
section
namespace SB
open PySem PySem.Spec PyProof.Rows L2 XL
open Vbdeaa (Text Exp Exps Un Bin Ins)
open MX (iJ hd Cut)
variable {P:Program} {w:World} {K:PySem.W.Frag} {mg:Str→Option Value} {base:Heap}
structure XC (P:Program) (w:World) (K:PySem.W.Frag) (mg:Str→Option Value) (base:Heap) (x:Str) (C fI:Addr) (fd:FuncData) (n:Int):Prop where
 made:XMk K C fI
 cls:ux K C
 m:mg x=some (.ref C)
 b:Binds K fd ["self"] []
 ok:aL P w K mg base (bc P w) 2 fI fd ["self"] (Vj K n)
noncomputable def bJ(C:Addr)(n:Int)(H:Hp)(E:XK):Prop:=∀e d H',az H H'→H' e=some (RD e C d)→H' d=some (.xd [("number",.int n)])→E (.ref C) (some d) H'
theorem bJ.mono{C:Addr}{n:Int}{H H1:Hp}{E:XK}(s:az H H1)(h:bJ C n H E):bJ C n H1 E:=fun e d H' s' h1 h2=>h e d H' (s.trans s') h1 h2
theorem bJ.go{C:Addr}{n:Int}{H:Hp}{E:XK}{D:Ends}{σ:L2.St}(h:bJ C n H E):Nq C n E D σ H:=fun e d H' s' h1 h2=>h e d H' s' h1 h2
noncomputable def gH(c:Vbdeaa.Code):List (List Int):=c.map Ins.told
noncomputable def cJ(H:Hp)(c:Vbdeaa.Code)(ts:List Addr):Prop:=Paired (fun row t=>H t=some (.tup (vI row))) (gH c) ts
theorem cJ.same{H H':Hp}{c:Vbdeaa.Code}{ts:List Addr}(s:az H H')(h:cJ H c ts):cJ H' c ts:=cU h fun _ _ _ q=>s _ _ q
noncomputable def N8(K:PySem.W.Frag)(Cn:Addr):Sp:=fun vs H Q E=>∃(l:Addr)(n:Nat)(code:List Int),vs=[.ref l,.int n]∧bF K H l (vI code)∧code.length≤1000 ∧
 (∀c,Cut n code c→∀R ts H',H R=none→az H H'→H' R=some (.lst (ts.map V.ref))→cJ H' c ts→R∉ts→Q (.ref R) H')∧((∀c,¬Cut n code c)→bJ Cn (-3) H E)
noncomputable abbrev O5:Stmt:=top 111
theorem Uw{xs:List V}{a k:Nat}:mF xs (some (a:Int)) (some ((a+k:Nat):Int))=(xs.drop a).take k:=by
 unfold mF
 rw[HT.uI,HT.uI]
 by_cases h:a≤xs.length
 ·rw[Nat.min_eq_left h]
  by_cases h2:a+k≤xs.length
  ·rw[Nat.min_eq_left h2]
   congr 1
   lia
  ·rw[Nat.min_eq_right (by lia),List.take_of_length_le (by rw[mM];lia),List.take_of_length_le (by rw[mM];lia)]
 ·rw[List.drop_eq_nil_of_le (show xs.length≤min a xs.length by lia),List.drop_eq_nil_of_le (show xs.length≤a by lia)]
  simp
theorem RK(l:List Int)(k:Nat):(vI l).drop k=vI (l.drop k):=List.map_drop.symm
theorem RJ(l:List Int)(k:Nat):(vI l).take k=vI (l.take k):=List.map_take.symm
theorem eO(l:List Int):(vI l).length=l.length:=ap ..
theorem VH(l:List Int)(k:Nat):(vI l)[k]?=(l[k]?).map V.int:=l0 ..
section
theorem Bq:aO ["code","n","rows","at","row"] ["code","n"] (aH O5):=⟨rfl,rfl,rfl,by decide +kernel,rfl,by decide +kernel,by decide +kernel⟩
theorem WR{f fR Cn fI:Addr}{fd dR dI:FuncData}(F:Fn K mg "instructions_in" O5 f fd ["code","n"])(FR:Fn K mg "is_right_instruction" vG fR dR ["row","n"])(GR:aL P w K mg base (bc P w) 3 fR dR ["row","n"] yX)(X:XC P w K mg base "NoCode" Cn fI dI (-3))(T:CP K mg)(R:CR K mg) :
  aL P w K mg base (bc P w) 4 f fd ["code","n"] (N8 K Cn):=by
 refine dz F.F Bq (fun vs H Q E h=>?_) (fun cdv A outer s H vs Q E hr h=>?_)
 ·obtain⟨_,_,_,rfl,_⟩:=h
  rfl
 ·obtain⟨l,n,code,rfl,hl,bd,k,kr⟩:=h
  refine⟨_,aj (a_ (i:=2) Bq.nd rfl (Or.inl rfl) (b8 aq)) (aj (a_ (i:=3) Bq.nd rfl (Or.inl rfl) ao)
   (aj (lM rH (aD iG (pv 3) (bH bD (by rfl) T.len (by decide +kernel) (aa (pv 0) aq)) (aG _))
    (aj (aR (iC ((vR kj iG ao (aQ bA (pv 0) (pv 3) (fun _ _=>rfl)) (uJ rfl rfl T.len R.LE)))) (ak (cT X.made X.cls X.ok hr rfl X.m X.b rfl b_)) aF)
    (aj (a_ (i:=4) Bq.nd rfl (Or.inl rfl) (gk xK (by rfl) R.tuple (by decide +kernel) (aa (lQ uF (pv 0) (jN (pv 3)) (jN (bL gM (pv 3) (zM rfl R.LE (aQ bA (pv 0) (pv 3) (fun _ _=>rfl)) (fun _ _=>rfl))))) aq)))
    (aj (aR (PW.pt (lL (aD iG (bH bD (by rfl) T.len (by decide +kernel) (aa (pv 4) aq)) (zM rfl R.LE (aQ bA (pv 0) (pv 3) (fun _ _=>rfl)) (fun _ _=>rfl)) (aG _))
      (jL (iC (fc (aK GR hr rfl FR.m FR.F.kp FR.b .nil passes (aa (pv 4) (aa (pv 1) aq)))))))) (ak (cT X.made X.cls X.ok hr rfl X.m X.b rfl b_)) aF)
    (aj (bQ (lR PySem.F.plainAttrs_list PySem.F.slot_list_append PySem.F.type_list_append iw (pv 2) (aa (pv 4) aq)))
    (ak (zK (i:=3) Bq.nd rfl (Or.inl rfl) (bH bD (by rfl) T.len (by decide +kernel) (aa (pv 4) aq)) QR)))))))
   (ak (aB (pv 2))))),?_⟩
  refine⟨by decide,fun R0 aI=>?_⟩
  refine⟨fun m σ H'=>∃(S:Vbdeaa.Code)(R:Addr)(ts:List Addr)(i:Nat)(v:Option V),σ=[some (.ref l),some (.int n),some (.ref R),some (.int i),v]∧m=code.length-i∧i≤code.length∧H R=none∧az H H'∧H' R=some (.lst (ts.map V.ref))∧cJ H' S ts∧R∉ts∧S.length≤i ∧
   (∀j,Cut n (code.drop i) j→Cut n code (S++j))∧(∀c,Cut n code c→∃j,c=S++j∧Cut n (code.drop i) j),
   ⟨code.length,[],R0,[],0,none,rfl,by simp,Nat.zero_le _,aI,az.upd aI,au,.nil,by simp,i' _,fun j h=>h,fun c h=>⟨c,rfl,h⟩⟩,?_⟩
  rintro m σ H' ⟨S,R,ts,i,v,rfl,rfl,hi,hR,s1,af,al,ag,be,kf,kb⟩
  have Z:=az.seq s1 hl
  refine⟨_,rfl,_,rfl,l,_,rfl,.inl Z,i,_,rfl,rfl,_,rfl,?_⟩
  rw[eO]
  refine bC (fun Y=>?_) fun Y=>?_
  ·have Y:i<code.length:=by
    have:=mn Y
    lia
   obtain⟨O,aC⟩:∃O,code[i]?=some O:=⟨_,ln Y⟩
   have ai:kY (vI code) (i:Int)=some (V.int O):=j7 (by rw[VH,aC];rfl)
   have a3:code.drop i≠[]:=fun z=>by
    have:=congrArg List.length z
    rw[mM]at this
    simp at this
    lia
   have L:(code.drop i)[0]?=some O:=by rw[List.getElem?_drop,Nat.add_zero,aC]
   have shape:∀j,Cut n (code.drop i) j→∃ii r c2,hd (code.drop i)=some (ii,r)∧iJ n ii=true∧code.drop i=ii.told++r∧Cut n r c2∧j=ii::c2∧∃fn:Nat,O=fn∧fn<11∧Hy[fn]?=some (ii.told.length:Int):=fun j G=>by
    obtain⟨ii,r,c2,h1,h2,h3,h4⟩:=MX.JG a3 G
    have h5:=MX.Jq h1
    obtain⟨fn,g1,g2,g3⟩:=Ln ii
    refine⟨ii,r,c2,h1,h2,h5,h3,h4,fn,?_,g2,g3⟩
    have bb:=MX.Az ii
    rw[h5,List.getElem?_append_left (by assumption),g1]at L
    exact(Option.some.inj L).symm
   have stuck:(∀j,¬Cut n (code.drop i) j)→bJ Cn (-3) H' E:=fun a8=>(kr fun c hc=>by
    obtain⟨j,_,h2⟩:=kb c hc
    exact a8 j h2).mono s1
   refine⟨fun σ' ae=>∃m',m'<code.length-i∧∃(S:Vbdeaa.Code)(R:Addr)(ts:List Addr)(i:Nat)(v:Option V),σ'=[some (.ref l),some (.int n),some (.ref R),some (.int i),v]∧m'=code.length-i∧i≤code.length∧H R=none∧az H ae∧ae R=some (.lst (ts.map V.ref))∧cJ ae S ts∧R∉ts∧S.length≤i ∧
    (∀j,Cut n (code.drop i) j→Cut n code (S++j))∧(∀c,Cut n code c→∃j,c=S++j∧Cut n (code.drop i) j),fun σ' ae h=>h,?_⟩
   have bad:¬(0≤O∧O<11)→bJ Cn (-3) H' E:=fun hb=>stuck fun j G=>by
    obtain⟨_,_,_,_,_,_,_,_,fn,g1,g2,_⟩:=shape j G
    exact hb (by lia)
   refine⟨_,rfl,_,rfl,l,_,_,_,rfl,rfl,Z,ai,0,O,rfl,rfl,_,rfl,bC (fun h1=>?_) fun h1=>?_⟩
   rotate_left
   ·refine⟨_,rfl,bj ?_⟩
    exact(bad fun z=>h1 (mi z.1)).go
   have h1:0≤O:=mn h1
   refine⟨O,11,rfl,rfl,_,rfl,?_⟩
   by_cases h2:O<11
   rotate_left
   ·rw[mu h2]
    exact bj (bad fun z=>h2 z.2).go
   rw[mi h2]
   refine aN ?_
   obtain⟨fn,rfl⟩:∃fn:Nat,O=fn:=⟨O.toNat,by lia⟩
   obtain⟨J,ac⟩:∃J:Nat,Hy[fn]?=some (J:Int):=by
    have:fn<11:=by lia
    have hc:fn=0∨fn=1∨fn=2∨fn=3∨fn=4∨fn=5∨fn=6∨fn=7∨fn=8∨fn=9∨fn=10:=by lia
    rcases hc with rfl | rfl | rfl | rfl | rfl | rfl | rfl | rfl | rfl | rfl | rfl
    ·exact⟨3,rfl⟩
    ·exact⟨2,rfl⟩
    ·exact⟨2,rfl⟩
    ·exact⟨2,rfl⟩
    ·exact⟨2,rfl⟩
    ·exact⟨2,rfl⟩
    ·exact⟨2,rfl⟩
    ·exact⟨2,rfl⟩
    ·exact⟨3,rfl⟩
    ·exact⟨1,rfl⟩
    ·exact⟨2,rfl⟩
   have a1:kY Hy (fn:Int)=some (J:Int):=j7 ac
   refine⟨_,rfl,_,rfl,_,rfl,_,rfl,_,rfl,_,rfl,l,_,_,_,rfl,rfl,Z,ai,_,_,rfl,a1,_,_,rfl,rfl,_,rfl,l,_,rfl,Z,fun p1 a6=>?_⟩
   rw[show(i:Int)+(J:Int)=((i+J:Nat):Int) by lia,Uw,RK,RJ]
   have s2:az H' (L2.upd H' p1 (.lst (vI ((code.drop i).take J)))):=az.upd a6
   refine⟨p1,_,rfl,.inl ⟨bF.of au,fun t ht=>?_⟩⟩
   have s3:=s2.trans (az.upd (o:=.tup (vI ((code.drop i).take J))) ht)
   generalize D:(code.drop i).take J=row at *
   have bi:row.length≤J:=by rw[←D,lp];lia
   have a9:row.length≤code.length-i:=by rw[←D,lp,mM];lia
   have tup:=bN.of (K:=K) (au (H:=L2.upd H' p1 (.lst (vI row))) (a:=t) (o:=.tup (vI row)))
   refine⟨_,rfl,t,_,rfl,.inr tup,_,rfl,_,rfl,l,_,_,_,rfl,rfl,(az.seq s3 Z),ai,_,_,rfl,a1,_,_,rfl,rfl,_,rfl,?_⟩
   rw[eO]
   refine bC (fun h3=>bj ?_) fun h3=>?_
   ·have h3:(row.length:Int)<J:=mn h3
    refine((stuck fun j G=>?_).mono s3).go
    obtain⟨ii,r,_,_,_,h5,_,_,av,g1,_,g3⟩:=shape j G
    have:av=fn:=by lia
    subst this
    rw[ac]at g3
    have g4:J=ii.told.length:=by
     have:=Option.some.inj g3
     lia
    rw[h5,g4,List.take_left]at D
    rw[←D]at h3
    lia
   have ah:row.length=J:=by
    have:¬((row.length:Int)<J):=fun z=>h3 (mi z)
    lia
   have ba:1≤J:=by
    have a0:∀x∈Hy,1≤x:=by decide
    have:=a0 _ (mw ac)
    lia
   have aE:Shape row:=by
    refine⟨fn,?_,by lia,by rw[ah];exact ac⟩
    rw[←D,List.getElem?_take,mr (by assumption),L]
   have U:code.drop i=row++code.drop (i+J):=by rw[←D,←List.drop_drop,List.take_append_drop]
   refine⟨_,rfl,_,rfl,t,row,n,rfl,au,aE,fun H4 s4=>?_⟩
   have s5:=s3.trans s4
   refine⟨_,rfl,?_⟩
   cases ax:e_ n row with
   | false =>
    refine bj ((stuck fun j G=>?_).mono s5).go
    obtain⟨ii,r,_,_,hok,h5,_,_,av,g1,_,g3⟩:=shape j G
    have:av=fn:=by lia
    subst this
    rw[ac]at g3
    have g4:J=ii.told.length:=by
     have:=Option.some.inj g3
     lia
    rw[h5,g4,List.take_left]at D
    rw[←D,vP,hok]at ax
    cases ax
   | true =>
    refine aN ?_
    obtain⟨ii,a7,hok,aT⟩:=QX aE ax
    have ay:=s5 _ _ af
    have aw:R≠t:=fun z=>by rw[←z]at ht;rw[s2 _ _ af]at ht;cases ht
    have a2:S.length=ts.length:=by
     have:=Paired.length al
     unfold gH at this
     rw[ap]at this
     exact this
    refine⟨_,rfl,.inl ⟨rfl,_,bF.of ay⟩,_,rfl,R,_,_,rfl,rfl,ay,?_,?_⟩
    ·rw[ap,←a2]
     exact l6 (by lia:_≤1000) (by decide)
    have aM:=s4 _ _ (au (H:=L2.upd H' p1 (.lst (vI row))) (a:=t) (o:=.tup (vI row)))
    refine⟨_,rfl,_,rfl,t,_,rfl,.inr (bN.of (by rw[aA (Ne.symm aw)];exact aM)),_,_,rfl,rfl,?_⟩
    rw[eO]
    refine⟨code.length-(i+J),by lia,S++[ii],R,ts++[t],i+J,some (.ref t),?_,rfl,by lia,hR,?_,?_,?_,?_,?_,?_,?_⟩
    ·rw[show((i+J:Nat):Int)=(i:Int)+(row.length:Int) by lia]
     rfl
    ·intro b o q
     rw[aA (aP q hR)]
     exact s5 _ _ (s1 _ _ q)
    ·rw[au,mB]
     rfl
    ·unfold cJ gH
     rw[mB]
     refine cO (cU al fun a b hb q=>?_) ?_
     ·have nb:b≠R:=fun z=>by
       rw[z,af]at q
       cases q
      rw[aA nb]
      exact s5 _ _ q
     ·rw[aA (Ne.symm aw),←a7]
      exact aM
    ·simp only[List.mem_append,j',l5,or_false,not_or]
     exact⟨ag,aw⟩
    ·rw[jp,io,lT]
     lia
    ·intro j G
     rw[lv]
     refine kf _ (MX.Ri ?_ hok G)
     rw[U]
     exact aT _
    ·intro c hc
     obtain⟨j,rfl,G⟩:=kb c hc
     obtain⟨bn,r,c2,aS,bo,bp,a5,rfl,_⟩:=shape j G
     rw[U,aT]at aS
     cases aS
     exact⟨c2,by rw[lv];rfl,a5⟩
  ·have a4:i=code.length:=by
    have:¬((i:Int)<(code.length:Int)):=fun z=>Y (mi z)
    lia
   subst a4
   refine⟨_,rfl,k S ?_ R ts H' hR s1 af al ag⟩
   have:=kf [] (by rw[List.drop_length];exact MX.Uv)
   rw[mh]at this
   exact this
end
end SB
end
section
namespace SB
open PySem PySem.Spec PyProof.Rows L2 XL
open Vbdeaa (Text Exp Exps Un Bin Ins)
open MX (iJ hd Cut MS Ch bK)
variable {P:Program} {w:World} {K:PySem.W.Frag} {mg:Str→Option Value} {base:Heap}
noncomputable def off(M:List Addr)(H:Hp):Hp:=fun b=>if b∈M then none else H b
theorem aZ(M:List Addr)(H:Hp):az (off M H) H:=fun b o e=>by
 unfold off at e
 split at e
 ·cases e
 ·exact e
theorem bU{M:List Addr}{H:Hp}{b:Addr}{o:HO}(h:H b=some o)(j:b∉M):off M H b=some o:=by
 unfold off
 rw[ml j]
 exact h
theorem jP{M:List Addr}{H:Hp}{b:Addr}{o:HO}(h:off M H b=some o):b∉M:=by
 unfold off at h
 split at h
 ·cases h
 ·assumption
theorem gw{M:List Addr}{H:Hp}{b:Addr}{o:HO}(h:b∈M):off M (L2.upd H b o)=off M H:=by
 funext x
 unfold off
 by_cases hx:x∈M
 ·rw[mr hx,mr hx]
 ·rw[ml hx,ml hx,aA (fun z=>hx (by rw[z];exact h))]
noncomputable def Ko(lr:Addr)(i:Int)(lw lc:Addr):List (Str×V):=[("rows",.ref lr),("at",.int i),("waiting",.ref lw),("choices",.ref lc)]
noncomputable def wR(cd:Addr)(s m e b:Int)(fp:V):List (Str×V):=[("condition",.ref cd),("start",.int s),("middle",.int m),("end",.int e),("base",.int b),("first_part",fp)]
noncomputable def j9(C:Addr)(G:Hp):Option Exp→V→Prop
 | none,v=>v=.non
 | some f,v=>∃a,v=.ref a∧aX C G f a
inductive ig (C CC:Addr) (G H:Hp):List Ch→List Addr→Prop
 | nil:ig C CC G H [] []
 | cons {x:Ch} {r:List Ch} {a dx cd:Addr} {as:List Addr} {fp:V}:H a=some (.ins CC dx (wR cd (x.start:Nat) (x.middle:Nat) (x.end_:Nat) ((bK (x::r)).length:Nat) fp))→aX C G x.cond cd→j9 C G x.first fp→ig C CC G H r as→ig C CC G H (x::r) (a::as)
theorem j9.same{C:Addr}{G j:Hp}{o:Option Exp}{v:V}(s:az G j)(h:j9 C G o v):j9 C j o v:=by
 cases o with
 | none=>exact h
 | some f=>obtain⟨a,e,q⟩:=h;exact⟨a,e,q.same s⟩
theorem ig.mono{C CC:Addr}{G j H H':Hp}(s:az G j):∀{chs:List Ch}{as:List Addr},(∀b∈as,H' b=H b)→ig C CC G H chs as→ig C CC j H' chs as
 | _,_,_,.nil=>.nil
 | _,_,k,.cons h1 h2 F z=>.cons (by rw[k _ ci];exact h1) (h2.same s) (F.same s) (ig.mono s (fun b D=>k b (am _ D)) z)
noncomputable def waitOf(s:MS):List Exp:=s.cur++bK s.chs
structure eY (C R CC:Addr) (H:Hp) (r:Addr) (M:List Addr) (c:Vbdeaa.Code) (s:MS) (dx lr lw lc:Addr) (ts ws cs:List Addr):Prop where
 mem:M=r::lw::lc::cs
 nd:M.Nodup
 obj:H r=some (.ins R dx (Ko lr (s.pos:Nat) lw lc))
 rows:off M H lr=some (.lst (ts.map V.ref))
 told:cJ (off M H) c ts
 wl:H lw=some (.lst (ws.reverse.map V.ref))
 wn:Paired (aX C (off M H)) (waitOf s) ws
 cl:H lc=some (.lst (cs.reverse.map V.ref))
 cn:ig C CC (off M H) H s.chs cs
noncomputable def Rec(C R CC:Addr)(H:Hp)(r:Addr)(M:List Addr)(c:Vbdeaa.Code)(s:MS):Prop:=∃dx lr lw lc ts ws cs,eY C R CC H r M c s dx lr lw lc ts ws cs
structure cY (M:List Addr) (H H':Hp):Prop where
 ins:∀b∈M,H' b=H b
 out:az (off M H) (off M H')
theorem ig.there{C CC:Addr}{G H:Hp}:∀{chs:List Ch}{as:List Addr},ig C CC G H chs as→∀b∈as,∃o,H b=some o
 | _,_,.nil,b,j=>by cases j
 | _,_,.cons h1 _ _ D,b,j=>by
  rcases j'.mp j with z | j
  ·subst z;exact⟨_,h1⟩
  ·exact D.there b j
theorem eY.there{C R CC:Addr}{H:Hp}{r:Addr}{M:List Addr}{c:Vbdeaa.Code}{s:MS}{dx lr lw lc:Addr}{ts ws cs:List Addr}(h:eY C R CC H r M c s dx lr lw lc ts ws cs):∀b∈M,∃o,H b=some o:=by
 intro b j
 rw[h.mem]at j
 rcases j'.mp j with z | j
 ·subst z;exact⟨_,h.obj⟩
 rcases j'.mp j with z | j
 ·subst z;exact⟨_,h.wl⟩
 rcases j'.mp j with z | j
 ·subst z;exact⟨_,h.cl⟩
 ·exact h.cn.there b j
theorem eY.keep{C R CC:Addr}{H H':Hp}{r:Addr}{M:List Addr}{c:Vbdeaa.Code}{s:MS}{dx lr lw lc:Addr}{ts ws cs:List Addr}(h:eY C R CC H r M c s dx lr lw lc ts ws cs)(k:cY M H H'):eY C R CC H' r M c s dx lr lw lc ts ws cs:=by
 have D:r∈M:=by rw[h.mem];exact ci
 have m2:lw∈M:=by rw[h.mem];exact am _ ci
 have z:lc∈M:=by rw[h.mem];exact am _ (am _ ci)
 exact⟨h.mem,h.nd,by rw[k.ins _ D];exact h.obj,k.out _ _ h.rows,h.told.same k.out,by rw[k.ins _ m2];exact h.wl,bZ k.out h.wn,by rw[k.ins _ z];exact h.cl,
  h.cn.mono k.out (fun b j=>k.ins b (by rw[h.mem];exact am _ (am _ (am _ j))))⟩
theorem cY.of_same{M:List Addr}{H H':Hp}(z:∀b∈M,∃o,H b=some o)(s:az H H'):cY M H H':=by
 refine⟨fun b D=>?_,fun b o e=>?_⟩
 ·obtain⟨o,j⟩:=z b D
  rw[j]
  exact s _ _ j
 ·exact bU (s _ _ (aZ _ _ _ _ e)) (jP e)
theorem cY.trans{M:List Addr}{H H1 H2:Hp}(a:cY M H H1)(b:cY M H1 H2):cY M H H2:=⟨fun x hx=>(b.ins x hx).trans (a.ins x hx),a.out.trans b.out⟩
theorem gA{C:Addr}{M:List Addr}{H1:Hp}{e:Exp}{D:V}{l:Addr}{as:List Addr}{Q:VK}{E:XK}(O:∀b∈M,∃o,H1 b=some o)(Y:jz (off M H1) e D)(L:off M H1 l=some (.lst (as.map V.ref)))(S:Paired (aX C (off M H1)) (kids e) as)(j:as.length<2000)
  (k:∀x H2,H1 x=none→cY M H1 H2→aX C (off M H2) e x→Q (.ref x) H2) :
  ∀x dx,H1 x=none→H1 dx=none→dx≠x→oR C [.ref x,.int (dZ e),D,.ref l] (L2.upd (L2.upd H1 dx (.own x)) x (.ins C dx [])) (fun v H2=>v=.non∧Q (.ref x) H2) E:=by
 intro x dx hx G ac
 have s1:=az.YC (C:=C) hx G
 have J:=(aZ M H1).trans s1
 refine⟨x,dx,l,e,D,as,rfl,au,eN (fun b xs q=>J b _ q) Y,J _ _ L,bZ J S,j,fun H' Z F=>⟨rfl,?_⟩⟩
 have s2:az H1 H':=fun b o q=>Z b o (s1 b o q) (aP q hx)
 have kp:=cY.of_same O s2
 have xM:x∉M:=fun z=>by
  obtain⟨o,U⟩:=O x z
  rw[hx]at U
  cases U
 exact k x H' hx kp (.mk (bU F xM) (eN (fun b xs q=>kp.out b _ q) Y) (kp.out _ _ L) (bZ kp.out S))
structure Vc (K:PySem.W.Frag) (CC:Addr):Prop where
 cl:JR K CC
 nC:bu K CC "condition"
 nS:bu K CC "start"
 nM:bu K CC "middle"
 nE:bu K CC "end"
 nB:bu K CC "base"
 nF:bu K CC "first_part"
structure Xu (K:PySem.W.Frag) (R:Addr):Prop where
 cl:JR K R
 nR:bu K R "rows"
 nA:bu K R "at"
 nW:bu K R "waiting"
 nC:bu K R "choices"
noncomputable abbrev BV(i:Nat):Stmt:=inClass (top 114) i
noncomputable abbrev cG(i:Nat):Stmt:=inClass (top 115) i
noncomputable def Og(CC:Addr):Sp:=fun vs H Q _=>∃(x dx cd:Addr)(s m e b:Int),vs=[.ref x,.ref cd,.int s,.int m,.int e,.int b]∧H x=some (.ins CC dx [])∧∀H',d7 x H H'→H' x=some (.ins CC dx (wR cd s m e b .non))→Q .non H'
noncomputable def zb(CC:Addr):Sp:=fun vs H Q _=>∃(x dx cd:Addr)(s m e b:Int)(fp:V),vs=[.ref x]∧H x=some (.ins CC dx (wR cd s m e b fp))∧Q (.int (if fp=.non then m-1 else e)) H
noncomputable def NB(R:Addr):Sp:=fun vs H Q _=>∃(x dx lr:Addr),vs=[.ref x,.ref lr]∧H x=some (.ins R dx [])∧∀H' lw lc,d7 x H H'→H lw=none→H lc=none→lw≠lc→H' lw=some (.lst [])→H' lc=some (.lst [])→H' x=some (.ins R dx (Ko lr 0 lw lc))→Q .non H'
section
theorem Wh:aO ["self","condition","start","middle","end","base"] ["self","condition","start","middle","end","base"] (aH (BV 0)):=⟨rfl,rfl,rfl,by decide +kernel,rfl,by decide +kernel,by decide +kernel⟩
theorem T5{f CC:Addr}{fd:FuncData}(F:kZ K "__init__" "Choice.__init__" (BV 0) f fd)(T:Vc K CC):aL P w K mg base (bc P w) 1 f fd ["self","condition","start","middle","end","base"] (Og CC):=by
 refine dz F Wh (fun vs H Q E h=>?_) (fun cdv A outer s H vs Q E D h=>?_)
 ·obtain⟨_,_,_,_,_,_,_,rfl,_⟩:=h
  rfl
 ·obtain⟨x,dx,cd,z,m,e,b,rfl,hx,k⟩:=h
  refine⟨_,aj (fj (pv 0) (pv 1) rfl) (aj (fj (pv 0) (pv 2) rfl) (aj (fj (pv 0) (pv 3) rfl) (aj (fj (pv 0) (pv 4) rfl) (aj (fj (pv 0) (pv 5) rfl) (ak (fj (pv 0) oW rfl)))))),?_⟩
  refine⟨_,rfl,_,rfl,x,CC,dx,[],rfl,hx,T.cl,T.nC,(by decide),?_⟩
  refine⟨_,rfl,_,rfl,x,CC,dx,_,rfl,au,T.cl,T.nS,(by show 1<1000;decide),?_⟩
  refine⟨_,rfl,_,rfl,x,CC,dx,_,rfl,au,T.cl,T.nM,(by show 2<1000;decide),?_⟩
  refine⟨_,rfl,_,rfl,x,CC,dx,_,rfl,au,T.cl,T.nE,(by show 3<1000;decide),?_⟩
  refine⟨_,rfl,_,rfl,x,CC,dx,_,rfl,au,T.cl,T.nB,(by show 4<1000;decide),?_⟩
  refine⟨_,rfl,x,CC,dx,_,rfl,au,T.cl,T.nF,(by show 5<1000;decide),?_⟩
  refine k _ (fun y o q j=>?_) au
  rw[aA j,aA j,aA j,aA j,aA j,aA j]
  exact q
theorem R_:aO ["self"] ["self"] (aH (BV 1)):=⟨rfl,rfl,rfl,by decide +kernel,rfl,by decide +kernel,by decide +kernel⟩
theorem Qn{f CC:Addr}{fd:FuncData}(F:kZ K "limit" "Choice.limit" (BV 1) f fd)(T:Vc K CC):aL P w K mg base (bc P w) 1 f fd ["self"] (zb CC):=by
 refine dz F R_ (fun vs H Q E h=>?_) (fun cdv A outer s H vs Q E D h=>?_)
 ·obtain⟨_,_,_,_,_,_,_,_,rfl,_⟩:=h
  rfl
 ·obtain⟨x,dx,cd,j,m,e,b,fp,rfl,hx,k⟩:=h
  refine⟨_,aj (aR (jM (lU (aJ (pv 0) rfl))) (ak (aB (bL ji (aJ (pv 0) rfl) ao))) aF) (ak (aB (aJ (pv 0) rfl))),?_⟩
  refine⟨_,rfl,x,CC,dx,_,_,rfl,hx,T.cl,T.nF,rfl,_,rfl,bC (fun h=>?_) fun h=>?_⟩
  ·rw[mr (mn h)]at k
   exact⟨_,rfl,x,CC,dx,_,_,rfl,hx,T.cl,T.nM,rfl,m,1,rfl,rfl,k⟩
  ·rw[ml (fun z=>h (mi z))]at k
   exact⟨_,rfl,x,CC,dx,_,_,rfl,hx,T.cl,T.nE,rfl,k⟩
theorem Wa:aO ["self","rows"] ["self","rows"] (aH (cG 0)):=⟨rfl,rfl,rfl,by decide +kernel,rfl,by decide +kernel,by decide +kernel⟩
theorem Td{f R:Addr}{fd:FuncData}(F:kZ K "__init__" "Recovery.__init__" (cG 0) f fd)(T:Xu K R):aL P w K mg base (bc P w) 1 f fd ["self","rows"] (NB R):=by
 refine dz F Wa (fun vs H Q E h=>?_) (fun cdv A outer s H vs Q E S h=>?_)
 ·obtain⟨_,_,_,rfl,_⟩:=h
  rfl
 ·obtain⟨x,dx,lr,rfl,hx,k⟩:=h
  refine⟨_,aj (fj (pv 0) (pv 1) rfl) (aj (fj (pv 0) ao rfl) (aj (fj (pv 0) (b8 aq) rfl) (ak (fj (pv 0) (b8 aq) rfl)))),?_⟩
  refine⟨_,rfl,_,rfl,x,R,dx,[],rfl,hx,T.cl,T.nR,(by decide),?_⟩
  refine⟨_,rfl,x,R,dx,_,rfl,au,T.cl,T.nA,(by show 1<1000;decide),?_⟩
  refine⟨by decide,fun lw D=>?_⟩
  have J:lw≠x:=fun z=>by rw[z,au]at D;cases D
  rw[aA J,aA J]at D
  refine⟨_,rfl,x,R,dx,_,rfl,by rw[aA (Ne.symm J)];exact au,T.cl,T.nW,(by show 2<1000;decide),?_⟩
  refine⟨by decide,fun lc j=>?_⟩
  have G:lc≠x:=fun z=>by rw[z,au]at j;cases j
  rw[aA G]at j
  have O:lc≠lw:=fun z=>by rw[z,au]at j;cases j
  rw[aA O,aA G,aA G]at j
  refine⟨_,rfl,x,R,dx,_,rfl,by rw[aA (Ne.symm G)];exact au,T.cl,T.nC,(by show 3<1000;decide),?_⟩
  refine k _ lw lc (fun y o q L=>?_) D j (Ne.symm O) ?_ ?_ au
  ·rw[aA L,aA (aP q j),aA L,aA (aP q D),aA L,aA L]
   exact q
  ·rw[aA J,aA (Ne.symm O),aA J]
   exact au
  ·rw[aA G]
   exact au
end
theorem qM{α:Type}{xs:List α}{x:α}:kY (xs++[x]) (-1)=some x:=by
 unfold kY
 have e:RC (xs++[x]).length (-1)=some xs.length:=by
  unfold RC
  rw[ml (by decide)]
  rw[jp,io,lT]
  first
  | rw[mr (by lia)];congr 1;lia
  | (simp only;split<;>first | omega | (congr 1;omega))
 rw[e]
 show(xs++[x])[xs.length]?=some x
 simp
theorem bI{α β:Type}(f:α→β)(a:α)(l:List α):(a::l).reverse.map f=l.reverse.map f++[f a]:=by simp
structure RT (K:PySem.W.Frag) (mg:Str→Option Value) (C R CC:Addr):Prop where
 N:oK K C
 R:Xu K R
 H:Vc K CC
 P:CP K mg
 Q:CN K mg
 S:CR K mg
noncomputable def V4(C R CC:Addr):Sp:=fun vs H Q _=>∃(r:Addr)(M:List Addr)(c:Vbdeaa.Code)(s:MS),vs=[.ref r]∧Rec C R CC H r M c s∧Q (.int (s.cur.length:Nat)) H
section
theorem Wf:aO ["self"] ["self"] (aH (cG 2)):=⟨rfl,rfl,rfl,by decide +kernel,rfl,by decide +kernel,by decide +kernel⟩
theorem Jd{f C R CC:Addr}{fd:FuncData}(F:kZ K "free" "Recovery.free" (cG 2) f fd)(T:RT K mg C R CC):aL P w K mg base (bc P w) 1 f fd ["self"] (V4 C R CC):=by
 refine dz F Wf (fun vs H Q E h=>?_) (fun cdv A outer s H vs Q E Y h=>?_)
 ·obtain⟨_,_,_,_,rfl,_⟩:=h
  rfl
 ·obtain⟨r,M,c,G,rfl,⟨dx,lr,lw,lc,ts,ws,cs,D⟩,k⟩:=h
  refine⟨_,aj (aR (iB (aJ (pv 0) rfl) (fun _=>rfl)) (ak (aB (bL ji (bH bD (by rfl) T.P.len (by decide +kernel) (aa (aJ (pv 0) rfl) aq)) (aJ (aQ bA (aJ (pv 0) rfl) (dY cM ao) (fun _ _=>rfl)) rfl)))) aF)
   (ak (aB (bH bD (by rfl) T.P.len (by decide +kernel) (aa (aJ (pv 0) rfl) aq)))),?_⟩
  have z:(ws.reverse.map V.ref).length=G.cur.length+(bK G.chs).length:=by
   rw[ap,List.length_reverse,←Paired.length D.wn]
   unfold waitOf
   rw[jp]
  refine⟨_,rfl,r,R,dx,_,_,rfl,D.obj,T.R.cl,T.R.nC,rfl,_,.inl ⟨_,bF.of D.cl,rfl⟩,?_⟩
  have j:=D.cn
  cases O:G.chs with
  | nil =>
   rw[O]at j z
   cases j
   refine aN ⟨_,rfl,r,R,dx,_,_,rfl,D.obj,T.R.cl,T.R.nW,rfl,lw,_,rfl,.inl (bF.of D.wl),?_⟩
   rw[z]
   exact k
  | cons x q =>
   rw[O]at j z
   cases j with
   | @cons _ _ a L cd as fp h1 h2 U S =>
    have J:=D.cl
    rw[bI]at J ⊢
    rw[show(!(as.reverse.map V.ref++[V.ref a]).isEmpty)=true by simp]
    refine bj ⟨_,rfl,r,R,dx,_,_,rfl,D.obj,T.R.cl,T.R.nW,rfl,lw,_,rfl,.inl (bF.of D.wl),_,rfl,r,R,dx,_,_,rfl,D.obj,T.R.cl,T.R.nC,rfl,_,rfl,lc,_,_,_,rfl,rfl,bF.of J,qM,a,CC,L,_,_,rfl,h1,T.H.cl,T.H.nB,rfl,_,_,rfl,rfl,?_⟩
    rw[z]
    show Q (V.int (((G.cur.length+(bK (x::q)).length:Nat):Int)-((bK (x::q)).length:Nat))) H
    rw[show(((G.cur.length+(bK (x::q)).length:Nat):Int)-((bK (x::q)).length:Nat))=(G.cur.length:Nat) by lia]
    exact k
end
theorem qi{xs:List V}{y:V}:(xs++[y])[(xs++[y]).length-1]?=some y:=by simp
theorem eY.next{C R CC:Addr}{H H':Hp}{r:Addr}{M:List Addr}{c:Vbdeaa.Code}{s s':MS}{dx lr lw lc:Addr}{ts ws ws' cs:List Addr}(D:eY C R CC H r M c s dx lr lw lc ts ws cs)(out:az (off M H) (off M H'))(obj:H' r=some (.ins R dx (Ko lr (s'.pos:Nat) lw lc)))
  (wl:H' lw=some (.lst (ws'.reverse.map V.ref))) (wn:Paired (aX C (off M H')) (waitOf s') ws') (cl:H' lc=some (.lst (cs.reverse.map V.ref))) (cn:ig C CC (off M H') H' s'.chs cs):eY C R CC H' r M c s' dx lr lw lc ts ws' cs :=
 ⟨D.mem,D.nd,obj,out _ _ D.rows,D.told.same out,wl,wn,cl,cn⟩
theorem eY.rM{C R CC:Addr}{H:Hp}{r:Addr}{M:List Addr}{c:Vbdeaa.Code}{s:MS}{dx lr lw lc:Addr}{ts ws cs:List Addr}(D:eY C R CC H r M c s dx lr lw lc ts ws cs):r∈M∧lw∈M∧lc∈M∧(∀b∈cs,b∈M)∧r≠lw∧r≠lc∧lw≠lc∧(∀b∈cs,b≠r∧b≠lw∧b≠lc):=by
 have nd:=D.nd
 rw[D.mem]at nd ⊢
 simp only[List.nodup_cons,j',not_or]at nd
 obtain⟨⟨L,G,S⟩,⟨O,F⟩,J,_⟩:=nd
 refine⟨by simp,by simp,by simp,fun b j=>by simp[j],L,G,O,fun b j=>⟨?_,?_,?_⟩⟩
 ·intro z;subst z;exact S j
 ·intro z;subst z;exact F j
 ·intro z;subst z;exact J j
theorem eY.Oh{C R CC:Addr}{H H':Hp}{r:Addr}{M:List Addr}{c:Vbdeaa.Code}{s s':MS}{dx lr lw lc:Addr}{ts ws ws' cs:List Addr}(D:eY C R CC H r M c s dx lr lw lc ts ws cs)(ins:∀b∈M,b≠lw→H' b=H b)(out:az (off M H) (off M H'))(O:s'.pos=s.pos)(z:s'.chs=s.chs)
  (wl:H' lw=some (.lst (ws'.reverse.map V.ref))) (wn:Paired (aX C (off M H')) (waitOf s') ws'):eY C R CC H' r M c s' dx lr lw lc ts ws' cs:=by
 obtain⟨U,m2,L,S,G,Y,F,J⟩:=D.rM
 exact D.next out (by rw[ins _ U G,O];exact D.obj) wl wn (by rw[ins _ L (Ne.symm F)];exact D.cl) (by rw[z];exact D.cn.mono out fun b j=>ins b (S b j) (J b j).2.1)
noncomputable def lE(C R CC Cn:Addr):Sp:=fun vs H Q E=>∃(r:Addr)(M:List Addr)(c:Vbdeaa.Code)(s:MS)(k:Nat),vs=[.ref r,.int k]∧Rec C R CC H r M c s∧k≤8 ∧
 (k≤s.cur.length→∀l as H',H l=none→off M H' l=some (.lst (as.map V.ref))→Paired (aX C (off M H')) (s.cur.take k).reverse as→Rec C R CC H' r M c { s with cur:=s.cur.drop k }→az (off M H) (off M H')→Q (.ref l) H')∧(s.cur.length<k→bJ Cn (-3) (off M H) E)
noncomputable def jD(C R CC Cn:Addr):Sp:=fun vs H Q E=>∃(r:Addr)(M:List Addr)(c:Vbdeaa.Code)(s:MS),vs=[.ref r]∧Rec C R CC H r M c s ∧
 (∀e,s.cur=[e]→∀a H',aX C (off M H') e a→Rec C R CC H' r M c { s with cur:=[] }→az (off M H) (off M H')→Q (.ref a) H')∧((∀e,s.cur≠[e])→bJ Cn (-3) (off M H) E)
section
theorem Ik:aO ["self","count","parts"] ["self","count"] (aH (cG 3)):=⟨rfl,rfl,rfl,by decide +kernel,rfl,by decide +kernel,by decide +kernel⟩
theorem Qe{f fF C R CC Cn fI:Addr}{fd dF dI:FuncData}(F:kZ K "take_parts" "Recovery.take_parts" (cG 3) f fd)(FF:Fm K R "free" "Recovery.free" (cG 2) fF dF ["self"])(T:RT K mg C R CC)(X:XC P w K mg base "NoCode" Cn fI dI (-3)):aL P w K mg base (bc P w) 4 f fd ["self","count"] (lE C R CC Cn):=by
 have GF:aL P w K mg base (bc P w) 1 fF dF _ _:=Jd FF.F T
 refine dz F Ik (fun vs H Q E h=>?_) (fun cdv A outer s H vs Q E hr h=>?_)
 ·obtain⟨_,_,_,_,_,rfl,_⟩:=h
  rfl
 ·obtain⟨r,M,c,O,k,rfl,Y,av,kk,kr⟩:=h
  obtain⟨dx,lr,lw,lc,ts,ws,cs,D⟩:=id Y
  have ai:bB 1 _:=hr.mono (by decide)
  refine⟨_,aj (aR (aD km (pv 1) (eE (pv 0) T.R.cl FF.me GF ai FF.b .nil passes) (aG _)) (ak (cT X.made X.cls X.ok hr rfl X.m X.b rfl b_)) aF)
   (aj (a_ (i:=2) Ik.nd rfl (Or.inl rfl) (b8 aq))
   (aj (lM rH (aD iG (bH bD (by rfl) T.P.len (by decide +kernel) (aa (pv 2) aq)) (pv 1) (aG _))
    (ak (bQ (lR PySem.F.plainAttrs_list PySem.F.slot_list_append PySem.F.type_list_append iw (pv 2) (aa (rJ PySem.F.plainAttrs_list PySem.F.slot_list_pop PySem.F.type_list_pop zR (aJ (pv 0) rfl)) aq)))))
   (aj (bQ (rJ PySem.F.plainAttrs_list PySem.F.slot_list_reverse PySem.F.type_list_reverse Gx (pv 2)))
   (ak (aB (pv 2)))))),?_⟩
  refine⟨_,rfl,_,rfl,r,dx,_,rfl,D.obj,rfl,r,M,c,O,rfl,Y,_,_,rfl,rfl,_,rfl,?_⟩
  refine bC (fun h=>?_) fun h=>?_
  ·have h:(O.cur.length:Int)<k:=mn h
   exact((kr (by lia)).mono (aZ M H)).go
  have ae:k≤O.cur.length:=by
   have:¬((O.cur.length:Int)<k):=fun z=>h (mi z)
   lia
  obtain⟨m1,m2,m3,m4,n1,n2,n3,n4⟩:=D.rM
  have ag:=D.wn
  have aw:k≤ws.length:=by
   rw[←Paired.length ag]
   unfold waitOf
   rw[jp]
   lia
  refine⟨by decide,fun L hL=>?_⟩
  have LM:L∉M:=fun z=>by
   obtain⟨o,ho⟩:=D.there L z
   rw[hL]at ho
   cases ho
  have S:lw≠L:=fun z=>LM (z▸m2)
  refine⟨fun m σ H'=>∃j:Nat,σ=[some (.ref r),some (.int k),some (.ref L)]∧m=k-j∧j≤k∧(∀b∈M,b≠lw→H' b=H b)∧az (off M H) (off M H')∧H' lw=some (.lst ((ws.drop j).reverse.map V.ref))∧H' L=some (.lst ((ws.take j).map V.ref)),
   ⟨k,0,rfl,rfl,Nat.zero_le _,fun b hb _=>aA (fun z=>LM (z▸hb)),fun b o e=>?_,by rw[aA S];exact D.wl,au⟩,?_⟩
  ·have:=jP e
   exact bU (by rw[aA (aP (aZ _ _ _ _ e) hL)];exact aZ _ _ _ _ e) this
  rintro m σ H' ⟨j,rfl,rfl,hj,ins,out,hw,hl⟩
  have ah:H' r=_:=(ins r m1 n1).trans D.obj
  refine⟨_,rfl,L,_,rfl,.inl (bF.of hl),_,rfl,_,_,rfl,rfl,_,rfl,?_⟩
  rw[ap,lp,Nat.min_eq_left (by lia)]
  refine bC (fun h=>?_) fun h=>?_
  ·have Z:j<k:=by
    have h:(j:Int)<k:=mn h
    lia
   obtain⟨b,hb⟩:∃b,ws[j]?=some b:=⟨_,ln (by lia)⟩
   have ac:ws.drop j=b::ws.drop (j+1):=by
    rw[List.drop_eq_getElem_cons (by lia)]
    congr 1
    rw[ln (by lia)]at hb
    exact Option.some.inj hb
   rw[ac,bI]at hw
   refine⟨fun σ' G=>∃m',m'<k-j∧∃j:Nat,σ'=[some (.ref r),some (.int k),some (.ref L)]∧m'=k-j∧j≤k∧(∀b∈M,b≠lw→G b=H b)∧az (off M H) (off M G)∧G lw=some (.lst ((ws.drop j).reverse.map V.ref))∧G L=some (.lst ((ws.take j).map V.ref)),fun σ' G h=>h,?_⟩
   refine⟨_,rfl,.inl ⟨rfl,_,bF.of hl⟩,_,rfl,r,R,dx,_,_,rfl,ah,T.R.cl,T.R.nW,rfl,.inl ⟨rfl,_,bF.of hw⟩,lw,_,_,rfl,rfl,hw,qi,?_⟩
   rw[List.dropLast_concat]
   refine⟨L,_,_,rfl,rfl,by rw[aA (Ne.symm S)];exact hl,?_,?_⟩
   ·rw[ap,lp]
    exact l6 (by lia:_≤8) (by decide)
   refine⟨k-(j+1),by lia,j+1,rfl,rfl,Z,fun y hy U=>?_,?_,?_,?_⟩
   ·rw[aA (show y≠L from fun z=>LM (z▸hy)),aA U]
    exact ins y hy U
   ·intro y o q
    have q2:=out _ _ q
    have yM:=jP q2
    refine bU ?_ yM
    rw[aA (aP (aZ _ _ _ _ q) hL),aA (show y≠lw from fun z=>yM (z▸m2))]
    exact aZ _ _ _ _ q2
   ·rw[aA S]
    exact au
   ·rw[au,List.take_succ,hb,mB]
    rfl
  ·have Z:j=k:=by
    have:¬((j:Int)<k):=fun z=>h (mi z)
    lia
   subst Z
   refine⟨_,rfl,.inl ⟨rfl,_,bF.of hl⟩,L,_,rfl,rfl,hl,_,rfl,?_⟩
   rw[←List.map_reverse]
   have al:∀b,b≠L→off M (L2.upd H' L (.lst ((ws.take j).reverse.map V.ref))) b=off M H' b:=fun b hb=>by
    unfold off
    by_cases z:b∈M
    ·rw[mr z,mr z]
    ·rw[ml z,ml z,aA hb]
   have J:az (off M H) (off M (L2.upd H' L (.lst ((ws.take j).reverse.map V.ref)))):=fun b o q=>by
    rw[al b (aP (aZ _ _ _ _ q) hL)]
    exact out _ _ q
   have af:=bZ J ag
   have split:∀{α β:Type}{F:α→β→Prop}(n:Nat){l:List α}{m:List β},Paired F l m→Paired F (l.take n) (m.take n)∧Paired F (l.drop n) (m.drop n):=by
    intro α β F n
    induction n with
    | zero=>intro l m h;exact⟨.nil,h⟩
    | succ n ih =>
     intro l m h
     cases h with
     | nil=>exact⟨.nil,.nil⟩
     | cons a b=>exact⟨.cons a (ih b).1,(ih b).2⟩
   have rev:∀{α β:Type}{F:α→β→Prop}{l:List α}{m:List β},Paired F l m→Paired F l.reverse m.reverse:=by
    intro α β F l m h
    induction h with
    | nil=>exact .nil
    | cons a b ih=>rw[List.reverse_cons,List.reverse_cons];exact cO ih a
   obtain⟨g1,g2⟩:=split j af
   have e1:(waitOf O).take j=O.cur.take j:=by unfold waitOf;rw[List.take_append_of_le_length ae]
   have e2:(waitOf O).drop j=waitOf { O with cur:=O.cur.drop j }:=by unfold waitOf;rw[List.drop_append_of_le_length ae]
   rw[e1]at g1
   rw[e2]at g2
   refine kk ae L _ _ hL (bU au LM) (rev g1) ⟨dx,lr,lw,lc,ts,ws.drop j,cs,D.Oh (s':={ O with cur:=O.cur.drop j }) (fun y hy U=>?_) J rfl rfl ?_ g2⟩ J
   ·rw[aA (show y≠L from fun z=>LM (z▸hy))]
    exact ins y hy U
   ·rw[aA S]
    exact hw
theorem R6:aO ["self"] ["self"] (aH (cG 4)):=⟨rfl,rfl,rfl,by decide +kernel,rfl,by decide +kernel,by decide +kernel⟩
theorem Qg{f fF C R CC Cn fI:Addr}{fd dF dI:FuncData}(F:kZ K "take_only" "Recovery.take_only" (cG 4) f fd)(Y:Fm K R "free" "Recovery.free" (cG 2) fF dF ["self"])(T:RT K mg C R CC)(X:XC P w K mg base "NoCode" Cn fI dI (-3)):aL P w K mg base (bc P w) 4 f fd ["self"] (jD C R CC Cn):=by
 have GF:aL P w K mg base (bc P w) 1 fF dF _ _:=Jd Y.F T
 refine dz F R6 (fun vs H Q E h=>?_) (fun cdv A outer s H vs Q E hr h=>?_)
 ·obtain⟨_,_,_,_,rfl,_⟩:=h
  rfl
 ·obtain⟨r,M,c,L,rfl,j,kk,kr⟩:=h
  obtain⟨dx,lr,lw,lc,ts,ws,cs,D⟩:=id j
  have ac:bB 1 _:=hr.mono (by decide)
  refine⟨_,aj (aR (aD kh (eE (pv 0) T.R.cl Y.me GF ac Y.b .nil passes) ao (aG _)) (ak (cT X.made X.cls X.ok hr rfl X.m X.b rfl b_)) aF)
   (ak (aB (rJ PySem.F.plainAttrs_list PySem.F.slot_list_pop PySem.F.type_list_pop zR (aJ (pv 0) rfl)))),?_⟩
  refine⟨_,rfl,r,dx,_,rfl,D.obj,rfl,r,M,c,L,rfl,j,rfl,_,rfl,?_⟩
  refine bC (fun h=>?_) fun h=>?_
  ·refine((kr fun e S=>?_).mono (aZ M H)).go
   rw[S]at h
   cases h
  ·have O:L.cur.length=1:=by
    have:¬¬V.int (L.cur.length:Nat)=V.int 1:=fun z=>h (by simpa using z)
    have:=cZ (Classical.not_not.mp this)
    lia
   obtain⟨e,S⟩:∃e,L.cur=[e]:=by
    match hc:L.cur,O with
    | [e],_=>exact⟨e,rfl⟩
   have G:=D.wn
   unfold waitOf at G
   rw[S]at G
   obtain⟨m1,m2,m3,m4,n1,n2,n3,n4⟩:=D.rM
   cases G with
   | @cons _ b _ ws' hb Z =>
    have J:=D.wl
    rw[bI]at J
    refine⟨_,rfl,r,R,dx,_,_,rfl,D.obj,T.R.cl,T.R.nW,rfl,.inl ⟨rfl,_,bF.of J⟩,lw,_,_,rfl,rfl,J,qi,?_⟩
    rw[List.dropLast_concat]
    have U:off M (L2.upd H lw (.lst (ws'.reverse.map V.ref)))=off M H:=gw m2
    refine kk e S b _ (by rw[U];exact hb) ⟨dx,lr,lw,lc,ts,ws',cs,D.Oh (ws':=ws') (s':={ L with cur:=[] }) (fun y _ hy=>aA hy) (by rw[U];exact az.refl _) rfl rfl au (by rw[U];exact Z)⟩ (by rw[U];exact az.refl _)
end
theorem Dj:∀l:List Exp,jV (Vbdeam.exps l)=l
 | []=>rfl
 | e::r=>by show e::jV (Vbdeam.exps r)=_;rw[Dj r]
theorem Aw(s:String):iV (Vbdeaa.text s)=Str.ofString s:=by
 refine TL.Q9 ?_
 unfold iV
 rw[TL.HD,xx,List.map_map]
 conv=>rhs;rw[←List.map_id (TL.tl (Str.ofString s))]
 exact List.map_congr_left fun c _=>by simp
theorem Eg(a b:Text):iV (a++b)=iV a++iV b:=by
 refine TL.Q9 ?_
 rw[TL.yc]
 unfold iV
 rw[TL.HD,TL.HD,TL.HD,mB]
theorem uW(s:String)(n:Nat):iV (Vbdeam.made s n)=Str.ofString s++jh (n:Int):=by
 unfold Vbdeam.made Vbdeaa.decimal
 rw[Eg,Aw,Aw]
 rfl
structure NK (P:Program) (w:World) (K:PySem.W.Frag) (mg:Str→Option Value) (base:Heap) (C fN:Addr) (dN:FuncData):Prop where
 mk_:Mk K C fN
 ok:aL P w K mg base (bc P w) 1 fN dN ["self","form","detail","parts"] (oR C)
 b:Binds K dN ["self","form","detail","parts"] []
 m:mg "Node"=some (.ref C)
noncomputable def yh(C:Addr):Sp:=fun vs H Q _=>∃(M:List Addr)(f:Nat)(l:Addr)(es:List Exp)(as:List Addr),vs=[.int f,.ref l]∧(∀b∈M,∃o,H b=some o)∧f<64∧es.length≤8∧off M H l=some (.lst (as.map V.ref))∧Paired (aX C (off M H)) es as ∧
 ∀x H2,H x=none→cY M H H2→aX C (off M H2) (if es=[]then .name (Vbdeam.nameOf 11 f)else .use (Vbdeam.nameOf 11 f) (Vbdeam.exps es)) x→Q (.ref x) H2
noncomputable def NQ(C:Addr):Sp:=fun vs H Q _=>∃(M:List Addr)(g:Bool)(l:Addr)(x y:Exp)(as:List Addr),vs=[.int (if g=true then 1 else 0),.ref l]∧(∀b∈M,∃o,H b=some o)∧off M H l=some (.lst (as.map V.ref))∧Paired (aX C (off M H)) [x,y] as∧(kids y).length<1900 ∧
 ∀a H2,H a=none→cY M H H2→aX C (off M H2) (Vbdeam.joinBest g x y) a→Q (.ref a) H2
noncomputable abbrev lH:Stmt:=top 116
noncomputable abbrev Bu:Stmt:=top 117
theorem str1{n:Nat}(h:n<1000000000000000000):(jh (n:Int)).length+1≤sizeLine:=by
 have:=QG (n:=n) (by lia)
 have:(1000:Nat)≤sizeLine:=by decide
 lia
section
theorem Kh:aO ["formula","parts"] ["formula","parts"] (aH lH):=⟨rfl,rfl,rfl,by decide +kernel,rfl,by decide +kernel,by decide +kernel⟩
theorem Gu{f C R CC fN:Addr}{fd dN:FuncData}(F:Fn K mg "formula_node" lH f fd ["formula","parts"])(T:RT K mg C R CC)(NN:NK P w K mg base C fN dN):aL P w K mg base (bc P w) 3 f fd ["formula","parts"] (yh C):=by
 refine dz F.F Kh (fun vs H Q E h=>?_) (fun cdv A outer s H vs Q E hr h=>?_)
 ·obtain⟨_,_,_,_,_,rfl,_⟩:=h
  rfl
 ·obtain⟨M,j,l,es,as,rfl,Y,hf,ac,D,J,k⟩:=h
  refine⟨_,ak (aB (dh NN.mk_ NN.ok hr rfl NN.m NN.b .nil passes (aa (eF (iB (pv 1) (fun _=>rfl)) (aW rfl T.S.CALL) (aW rfl T.P.NAME)) (aa (bL iH gJ (gk gF (by rfl) T.P.str (by decide +kernel) (aa (pv 0) aq))) (aa (pv 1) aq))))),?_⟩
  have G:=aZ _ _ _ _ D
  have z:=Paired.length J
  refine⟨_,rfl,_,.inl ⟨_,bF.of G,rfl⟩,?_⟩
  have g1:(j:Int).natAbs.log2<1920:=GZ (by lia)
  have U:(Str.ofString "g").length+(jh (j:Int)).length≤sizeLine:=by
   have:=str1 (n:=j) (by lia)
   have:(Str.ofString "g").length=1:=by decide +kernel
   lia
  have O:iV (Vbdeam.nameOf 11 j)=Str.ofString "g"++jh (j:Int):=uW "g" j
  cases es with
  | nil =>
   cases J
   refine aN ⟨_,rfl,_,rfl,g1,_,_,rfl,rfl,U,_,rfl,?_⟩
   rw[mr rfl]at k
   exact gA (e:=.name (Vbdeam.nameOf 11 j)) Y (show _=_ by rw[O];rfl) D .nil (by decide) k
  | cons x r =>
   cases J with
   | @cons _ a _ Z ha L =>
    refine bj ⟨_,rfl,_,rfl,g1,_,_,rfl,rfl,U,_,rfl,?_⟩
    rw[ml (by simp)]at k
    refine gA (e:=.use (Vbdeam.nameOf 11 j) (Vbdeam.exps (x::r))) Y (show _=_ by rw[O];rfl) D (by show Paired _ (jV (Vbdeam.exps (x::r))) _;rw[Dj];exact .cons ha L) (by rw[←z];lia) k
theorem Oq:aO ["detail","parts","last"] ["detail","parts"] (aH Bu):=⟨rfl,rfl,rfl,by decide +kernel,rfl,by decide +kernel,by decide +kernel⟩
theorem Te{f C R CC fN:Addr}{fd dN:FuncData}(F:Fn K mg "pick_node" Bu f fd ["detail","parts"])(T:RT K mg C R CC)(NN:NK P w K mg base C fN dN):aL P w K mg base (bc P w) 3 f fd ["detail","parts"] (NQ C):=by
 refine dz F.F Oq (fun vs H Q E h=>?_) (fun cdv A outer s H vs Q E hr h=>?_)
 ·obtain⟨_,_,_,_,_,_,rfl,_⟩:=h
  rfl
 ·obtain⟨M,g,l,x,y,as,rfl,hM,hl,hp,al,k⟩:=h
  refine⟨_,aj (a_ (i:=2) Oq.nd rfl (Or.inl rfl) (aQ bA (pv 1) ao (fun _ _=>rfl)))
   (aj (aR (PW.pt (gb (aD aY (aJ (pv 2) rfl) (aW rfl T.P.PICK) (aG _)) (dX (aD aY (aJ (pv 2) rfl) (pv 0) (aG _)))))
    (ak (aB (dh NN.mk_ NN.ok hr rfl NN.m NN.b .nil passes (aa (aW rfl T.P.PICK) (aa (pv 0) (aa (bL Gp (b8 (aa (aQ bA (pv 1) ao (fun _ _=>rfl)) aq)) (aJ (pv 2) rfl)) aq)))))) aF)
   (ak (aB (dh NN.mk_ NN.ok hr rfl NN.m NN.b .nil passes (aa (aW rfl T.P.PICK) (aa (pv 0) (aa (pv 1) aq))))))),?_⟩
  obtain⟨a,b,rfl,ha,hb⟩:∃a b,as=[a,b]∧aX C (off M H) x a∧aX C (off M H) y b:=by
   cases hp with
   | cons a0 b0=>cases b0 with
    | cons a1 b1=>cases b1;exact⟨_,_,rfl,a0,a1⟩
  have ac:=aZ _ _ _ _ hl
  obtain⟨dx,D,lb,bs,h1,hD,ai,L⟩:=cH hb
  have S:=aZ _ _ _ _ h1
  have N:=T.N
  have gi:∀g h:Bool,(V.int (if h=true then 1 else 0)=V.int (if g=true then 1 else 0))↔h=g:=by decide
  have two:Vbdeam.joinBest g x y=.best g (.cons x (.cons y .nil))→∀Y G,H Y=none→H G=none→G≠Y→oR C [.ref Y,.int 7,.int (if g=true then 1 else 0),.ref l] (L2.upd (L2.upd H G (.own Y)) Y (.ins C G [])) (fun v H2=>v=.non∧Q (.ref Y) H2) E:=fun J=>by
   rw[J]at k
   exact gA (e:=.best g (.cons x (.cons y .nil))) hM rfl hl (.cons ha (.cons hb .nil)) (by show 2<2000;decide) k
  refine⟨_,rfl,l,_,_,_,rfl,rfl,bF.of ac,at_of (j:=1) rfl rfl,?_⟩
  refine⟨_,rfl,b,C,dx,_,_,rfl,S,N.cl,N.nF,rfl,rfl,_,rfl,?_⟩
  refine bC (fun hc=>?_) fun hc=>?_
  ·have hf:dZ y=7:=cZ (mn hc)
   cases y with
   | best h lst =>
    obtain rfl:D=.int (if h=true then 1 else 0):=hD
    refine⟨_,rfl,b,C,dx,_,_,rfl,S,N.cl,N.nD,rfl,_,rfl,rfl,_,rfl,?_⟩
    refine bC (fun U=>?_) fun U=>?_
    ·have hg:h=g:=(gi g h).mp (mn U)
     subst hg
     have J:Vbdeam.joinBest h x (.best h lst)=.best h (.cons x lst):=by unfold Vbdeam.joinBest;simp
     rw[J]at k
     refine⟨_,rfl,_,rfl,l,_,_,_,rfl,rfl,bF.of ac,at_of (j:=0) rfl rfl,by show 1≤sizeLine;decide,fun l1 ae=>?_⟩
     have s1:=az.upd (o:=.lst [V.ref a]) ae
     have k1:=cY.of_same hM s1
     have Z:=s1 _ _ (aZ _ _ _ _ ai)
     refine⟨_,rfl,b,C,dx,_,_,rfl,s1 _ _ S,N.cl,N.nP,rfl,l1,lb,_,_,rfl,rfl,au,Z,?_,fun l2 O=>?_⟩
     ·have:=Paired.length L
      rw[ap,←this]
      show 1+_≤sizeLine
      have:(2000:Nat)≤sizeLine:=by decide
      lia
     have s2:=s1.trans (az.upd (o:=.lst ([V.ref a]++bs.map V.ref)) O)
     have k2:=cY.of_same hM s2
     have ag:∀b∈M,∃o,(L2.upd (L2.upd H l1 (.lst [V.ref a])) l2 (.lst ([V.ref a]++bs.map V.ref))) b=some o:=fun b hb=>by
      obtain⟨o,ho⟩:=hM b hb
      exact⟨o,s2 _ _ ho⟩
     have ah:l2∉M:=fun z=>by
      obtain⟨o,ho⟩:=hM l2 z
      rw[s1 _ _ ho]at O
      cases O
     refine gA (e:=.best h (.cons x lst)) (as:=a::bs) ag rfl (bU au ah) (.cons (ha.same k2.out) (bZ k2.out L)) ?_ fun z H3 hz kz nz=>k z H3 (s2.free hz) (k2.trans kz) nz
     have:=Paired.length L
     rw[io,←this]
     lia
    ·have af:h≠g:=fun z=>U (mi ((gi g h).mpr z))
     have J:Vbdeam.joinBest g x (.best h lst)=.best g (.cons x (.cons (.best h lst) .nil)):=by unfold Vbdeam.joinBest;simp[af]
     exact⟨_,rfl,_,rfl,two J⟩
   | _=>cases hf
  ·have J:Vbdeam.joinBest g x y=.best g (.cons x (.cons y .nil)):=by
    cases y with
    | best h lst=>exact absurd (by rfl) hc
    | _=>rfl
   exact⟨_,rfl,_,rfl,two J⟩
end
theorem XX(o:Un):(Vbdeaa.UNS.findIdx fun x=>x==o)=yS o:=by cases o<;>decide +kernel
theorem Xc(o:Bin):(Vbdeaa.BINS.findIdx fun x=>x==o)=eZ o:=by cases o<;>decide +kernel
noncomputable def isPlain:Ins→Prop
 | .zero _=>False
 | .jump _=>False
 | .truth=>False
 | _=>True
theorem Nu{l:List Exp}{e:Exp}(h:e∈l):Vbdeam.size e≤MX.cX l:=by
 induction l with
 | nil=>cases h
 | cons x r j =>
  simp only[MX.cX]
  rcases j'.mp h with h | h
  ·subst h;lia
  ·have:=j h;lia
theorem wL:∀(l:Exps),(jV l).length≤Vbdeam.sizeAll l
 | .nil=>i' _
 | .cons e l=>by
  have:=wL l
  have:=MX.pN e
  simp only[jV,io,Vbdeam.sizeAll]
  lia
theorem Lp(e:Exp):(kids e).length<Vbdeam.size e+3:=by
 cases e with
 | best g l=>have:=wL l;simp only[kids,Vbdeam.size];lia
 | use n l=>have:=wL l;simp only[kids,Vbdeam.size];lia
 | _=>simp[kids,Vbdeam.size]<;>omega
structure RF (P:Program) (w:World) (K:PySem.W.Frag) (mg:Str→Option Value) (base:Heap) (C R CC Cn fI:Addr) (dI:FuncData) (fN fT fO fFo fPi fNa:Addr) (dN dT dO dFo dPi dNa:FuncData):Prop where
 T:RT K mg C R CC
 X:XC P w K mg base "NoCode" Cn fI dI (-3)
 N:NK P w K mg base C fN dN
 tp:aL P w K mg base (bc P w) 4 fT dT ["self","count"] (lE C R CC Cn)
 tpm:Meth K R "take_parts" fT
 tpb:Binds K dT ["self","count"] []
 to:aL P w K mg base (bc P w) 4 fO dO ["self"] (jD C R CC Cn)
 tom:Meth K R "take_only" fO
 tob:Binds K dO ["self"] []
 fo:aL P w K mg base (bc P w) 3 fFo dFo ["formula","parts"] (yh C)
 fof:Fn K mg "formula_node" lH fFo dFo ["formula","parts"]
 pi_:aL P w K mg base (bc P w) 3 fPi dPi ["detail","parts"] (NQ C)
 pif:Fn K mg "pick_node" Bu fPi dPi ["detail","parts"]
 na:aL P w K mg base (bc P w) 1 fNa dNa ["number"] Fb
 naf:Fn K mg "name_of_read" ym fNa dNa ["number"]
noncomputable def vd(C R CC Cn:Addr):Sp:=fun vs H Q E=>∃(r t:Addr)(M:List Addr)(c:Vbdeaa.Code)(s:MS)(n:Nat)(i:Ins),vs=[.ref r,.ref t]∧Rec C R CC H r M c s∧off M H t=some (.tup (vI i.told))∧iJ n i=true∧n≤8∧isPlain i∧MX.cX s.cur≤1000 ∧
 (∀e rest,Vbdeam.plain n i s.cur=some (e::rest)→∀a H',aX C (off M H') e a→Rec C R CC H' r M c { s with cur:=rest }→az (off M H) (off M H')→Q (.ref a) H')∧(Vbdeam.plain n i s.cur=none→bJ Cn (-3) (off M H) E)
section
theorem Bo:aO ["self","row","first"] ["self","row"] (aH (cG 6)):=⟨rfl,rfl,rfl,by decide +kernel,rfl,by decide +kernel,by decide +kernel⟩
theorem KZ{f C R CC Cn fI:Addr}{fd dI:FuncData}{fN fT fO fFo fPi fNa:Addr}{dN dT dO dFo dPi dNa:FuncData}(F:kZ K "plain_node" "Recovery.plain_node" (cG 6) f fd)(G:RF P w K mg base C R CC Cn fI dI fN fT fO fFo fPi fNa dN dT dO dFo dPi dNa):aL P w K mg base (bc P w) 5 f fd ["self","row"] (vd C R CC Cn):=by
 refine dz F Bo (fun vs H Q E h=>?_) (fun cdv A outer s H vs Q E hr h=>?_)
 ·obtain⟨_,_,_,_,_,_,_,rfl,_⟩:=h
  rfl
 ·obtain⟨r,t,M,c,ms,n,i,rfl,Z,ht,hok,aC,al,hsz,k,kr⟩:=h
  obtain⟨dx,lr,lw,lc,ts,ws,cs,D⟩:=id Z
  have ay:bB 1 _:=hr.mono (by decide)
  have ah:bB 2 _:=hr.mono (by decide)
  have ax:bB 3 _:=hr.mono (by decide)
  have T:=G.T
  have NN:=G.N
  refine⟨_,aj (a_ (i:=2) Bo.nd rfl (Or.inl rfl) (aQ aU (pv 1) ao (fun _ _=>rfl)))
   (aj (aR (aD aY (pv 2) ao (aG _)) (ak (aB (dh NN.mk_ NN.ok ah rfl NN.m NN.b .nil passes (aa (aW rfl T.P.NUMBER) (aa (bw (aa (aQ aU (pv 1) ao (fun _ _=>rfl)) (aa (aQ aU (pv 1) ao (fun _ _=>rfl)) aq))) (aa (b8 aq) aq)))))) aF)
   (aj (aR (aD aY (pv 2) ao (aG _)) (ak (aB (dh NN.mk_ NN.ok ah rfl NN.m NN.b .nil passes (aa (aW rfl T.P.NAME) (aa (bL iH gJ (gk gF (by rfl) T.P.str (by decide +kernel) (aa (aQ aU (pv 1) ao (fun _ _=>rfl)) aq))) (aa (b8 aq) aq)))))) aF)
   (aj (aR (aD aY (pv 2) ao (aG _)) (ak (aB (dh NN.mk_ NN.ok ah rfl NN.m NN.b .nil passes (aa (aW rfl T.P.NAME) (aa (aK G.na ay rfl G.naf.m G.naf.F.kp G.naf.b .nil passes (aa (aQ aU (pv 1) ao (fun _ _=>rfl)) aq)) (aa (b8 aq) aq)))))) aF)
   (aj (aR (aD aY (pv 2) ao (aG _)) (ak (aB (dh NN.mk_ NN.ok ah rfl NN.m NN.b .nil passes (aa (aW rfl T.Q.ONE) (aa (aQ aU (pv 1) ao (fun _ _=>rfl)) (aa (gW (pv 0) T.R.cl G.tpm G.tp hr G.tpb .nil passes (aa ao aq)) aq)))))) aF)
   (aj (aR (aD aY (pv 2) ao (aG _)) (ak (aB (dh NN.mk_ NN.ok ah rfl NN.m NN.b .nil passes (aa (aW rfl T.Q.TWO) (aa (aQ aU (pv 1) ao (fun _ _=>rfl)) (aa (gW (pv 0) T.R.cl G.tpm G.tp hr G.tpb .nil passes (aa ao aq)) aq)))))) aF)
   (aj (aR (aD aY (pv 2) ao (aG _)) (ak (aB (dh NN.mk_ NN.ok ah rfl NN.m NN.b .nil passes (aa (aW rfl T.S.CALL) (aa (bL iH gJ (gk gF (by rfl) T.P.str (by decide +kernel) (aa (aQ aU (pv 1) ao (fun _ _=>rfl)) aq))) (aa (gW (pv 0) T.R.cl G.tpm G.tp hr G.tpb .nil passes (aa ao aq)) aq)))))) aF)
   (aj (aR (aD aY (pv 2) ao (aG _)) (ak (aB (aK G.fo ax rfl G.fof.m G.fof.F.kp G.fof.b .nil passes (aa (aQ aU (pv 1) ao (fun _ _=>rfl)) (aa (gW (pv 0) T.R.cl G.tpm G.tp hr G.tpb .nil passes (aa (aQ aU (pv 1) ao (fun _ _=>rfl)) aq)) aq))))) aF)
   (ak (aB (aK G.pi_ ax rfl G.pif.m G.pif.F.kp G.pif.b .nil passes (aa (aQ aU (pv 1) ao (fun _ _=>rfl)) (aa (gW (pv 0) T.R.cl G.tpm G.tp hr G.tpb .nil passes (aa ao aq)) aq)))))))))))),?_⟩
  have ac:=aZ _ _ _ _ ht
  have hM:=D.there
  have ag:∀{H1 H2:Hp}{s1:MS},Rec C R CC H1 r M c s1→cY M H1 H2→Rec C R CC H2 r M c s1:=fun⟨a1,a2,a3,a4,a5,a6,a7,d⟩ kp=>⟨a1,a2,a3,a4,a5,a6,a7,d.keep kp⟩
  have O:∀{H1:Hp}{s1:MS},Rec C R CC H1 r M c s1→∀b∈M,∃o,H1 b=some o:=fun⟨a1,a2,a3,a4,a5,a6,a7,d⟩=>d.there
  have fin:∀{e:Exp}{rest:List Exp}{H1:Hp},Vbdeam.plain n i ms.cur=some (e::rest)→Rec C R CC H1 r M c { ms with cur:=rest }→az (off M H) (off M H1)→∀x H2,H1 x=none→cY M H1 H2→aX C (off M H2) e x→Q (.ref x) H2:=fun hp rc sm x H2 _ kp nd=>k _ _ hp x H2 nd (ag rc kp) (sm.trans kp.out)
  have leaf:∀{e:Exp}{D:V}{H1:Hp},kids e=[]→Vbdeam.plain n i ms.cur=some (e::ms.cur)→az H H1→jz (off M H1) e D→∀L,H1 L=none→∀x dx,(L2.upd H1 L (.lst [])) x=none→(L2.upd H1 L (.lst [])) dx=none→dx≠x →
    oR C [.ref x,.int (dZ e),D,.ref L] (L2.upd (L2.upd (L2.upd H1 L (.lst [])) dx (.own x)) x (.ins C dx [])) (fun v H2=>v=.non∧Q (.ref x) H2) E:=fun{e D H1} hk hp s1 hD L hL=>by
   have s2:=s1.trans (az.upd (o:=.lst []) hL)
   have k2:=cY.of_same hM s2
   have LM:L∉M:=fun z=>by
    obtain⟨o,ho⟩:=hM L z
    rw[s1 _ _ ho]at hL
    cases hL
   have s3:=cY.of_same (M:=M) (fun b hb=>by obtain⟨o,ho⟩:=hM b hb;exact⟨o,s1 _ _ ho⟩) (az.upd (o:=.lst []) hL)
   exact gA (as:=[]) (O (ag Z k2)) (eN (fun b xs q=>s3.out b _ q) hD) (bU au LM) (by rw[hk];exact .nil) (by decide) (fin hp (ag Z k2) k2.out)
  refine⟨_,rfl,t,_,_,_,rfl,rfl,bN.of ac,at_of (j:=0) (v:=(vI i.told)[0]?.getD .non) rfl (by cases i<;>rfl),?_⟩
  cases i with
  | zero _=>exact False.elim al
  | jump _=>exact False.elim al
  | truth=>exact False.elim al
  | push q =>
   have hq:Vbdeam.plain n (.push q) ms.cur=some (.num q::ms.cur):=by
    have h:(Vbdeaa.proper q&&decide (0≤q.1))=true:=hok
    simp only[lj,mo]at h
    unfold Vbdeam.plain
    simp only
    rw[mr h]
   refine⟨_,rfl,rfl,_,rfl,bj ⟨_,rfl,t,_,_,_,rfl,rfl,bN.of ac,at_of (j:=1) rfl rfl,_,rfl,t,_,_,_,rfl,rfl,bN.of ac,at_of (j:=2) rfl rfl,by show 2≤sizeLine;decide,fun Tt hT=>⟨by decide,fun L hL=>?_⟩⟩⟩
   have TM:Tt∉M:=fun z=>by
    obtain⟨o,ho⟩:=hM Tt z
    rw[hT]at ho
    cases ho
   exact leaf (e:=.num q) rfl hq (az.upd hT) ⟨Tt,rfl,bU au TM⟩ L hL
  | arg j =>
   have hj:j<n:=mn hok
   have hq:Vbdeam.plain n (.arg j) ms.cur=some (.name (Vbdeam.argName j)::ms.cur):=by
    unfold Vbdeam.plain
    simp only
    rw[mr hj]
   refine⟨_,rfl,rfl,_,rfl,aN ⟨_,rfl,rfl,_,rfl,bj ⟨_,rfl,t,_,_,_,rfl,rfl,bN.of ac,at_of (j:=1) rfl rfl,_,rfl,GZ (by lia),_,_,rfl,rfl,?_,by decide,fun L hL=>?_⟩⟩⟩
   ·have:=str1 (n:=j) (by lia)
    have:(Str.ofString "a").length=1:=by decide +kernel
    show(Str.ofString "a").length+(jh (j:Int)).length≤sizeLine
    lia
   ·exact leaf (e:=.name (Vbdeam.argName j)) rfl hq (az.refl H) (show _=_ by rw[show Vbdeam.argName j=Vbdeam.made "a" j from rfl,uW];rfl) L hL
  | var j =>
   have hj:(Vbdeam.readName j).isSome=true:=hok
   obtain⟨nm,av⟩:=Option.isSome_iff_exists.mp hj
   have hq:Vbdeam.plain n (.var j) ms.cur=some (.name nm::ms.cur):=by
    unfold Vbdeam.plain
    simp only
    rw[av]
    rfl
   refine⟨_,rfl,rfl,_,rfl,aN ⟨_,rfl,rfl,_,rfl,aN ⟨_,rfl,rfl,_,rfl,bj ⟨_,rfl,t,_,_,_,rfl,rfl,bN.of ac,at_of (j:=1) rfl rfl,_,rfl,fun H1 s1=>⟨by decide,fun L hL=>?_⟩⟩⟩⟩⟩
   exact leaf (e:=.name nm) rfl hq s1 (show _=_ by rw[(yw av).1]) L hL
  | un o =>
   refine⟨_,rfl,rfl,_,rfl,aN ⟨_,rfl,rfl,_,rfl,aN ⟨_,rfl,rfl,_,rfl,aN ⟨_,rfl,rfl,_,rfl,bj ⟨_,rfl,t,_,_,_,rfl,rfl,bN.of ac,at_of (j:=1) rfl rfl,_,rfl,r,dx,_,rfl,D.obj,rfl,r,M,c,ms,1,rfl,Z,by decide,fun U=>?_,fun U=>kr ?_⟩⟩⟩⟩⟩
   ·cases J:ms.cur with
    | nil=>rw[J]at U;exact absurd U (by decide)
    | cons x st =>
     intro l as H' ai ae hp Y sm
     rw[XX]
     have af:Paired (aX C (off M H')) [x] as:=hp
     exact gA (e:=.un o x) (O Y) rfl ae af (by rw[←Paired.length af];show 1<2000;decide) (fin (by rw[J];rfl) Y sm)
   ·cases J:ms.cur with
    | nil=>rfl
    | cons x st=>rw[J]at U;simp at U
  | bin o =>
   refine⟨_,rfl,rfl,_,rfl,aN ⟨_,rfl,rfl,_,rfl,aN ⟨_,rfl,rfl,_,rfl,aN ⟨_,rfl,rfl,_,rfl,aN ⟨_,rfl,rfl,_,rfl,bj ⟨_,rfl,t,_,_,_,rfl,rfl,bN.of ac,at_of (j:=1) rfl rfl,_,rfl,r,dx,_,rfl,D.obj,rfl,r,M,c,ms,2,rfl,Z,by decide,fun U=>?_,fun U=>kr ?_⟩⟩⟩⟩⟩⟩
   ·match J:ms.cur with
    | []=>rw[J]at U;exact absurd U (by decide)
    | [x]=>rw[J]at U;exact absurd U (by show ¬2≤1;decide)
    | y::x::st =>
     intro l as H' ai ae hp Y sm
     rw[Xc]
     have af:Paired (aX C (off M H')) [x,y] as:=hp
     exact gA (e:=.bin o x y) (O Y) rfl ae af (by rw[←Paired.length af];show 2<2000;decide) (fin (by rw[J];rfl) Y sm)
   ·match J:ms.cur with
    | []=>rfl
    | [x]=>rfl
    | y::x::st=>rw[J]at U;simp at U;contradiction
  | table j =>
   have hj:j<64:=mn hok
   refine⟨_,rfl,rfl,_,rfl,aN ⟨_,rfl,rfl,_,rfl,aN ⟨_,rfl,rfl,_,rfl,aN ⟨_,rfl,rfl,_,rfl,aN ⟨_,rfl,rfl,_,rfl,aN ⟨_,rfl,rfl,_,rfl,bj ⟨_,rfl,t,_,_,_,rfl,rfl,bN.of ac,at_of (j:=1) rfl rfl,_,rfl,GZ (by lia),_,_,rfl,rfl,?_,_,rfl,r,dx,_,rfl,D.obj,rfl,r,M,c,ms,1,rfl,Z,by decide,fun U=>?_,fun U=>kr ?_⟩⟩⟩⟩⟩⟩⟩
   ·have:=str1 (n:=j) (by lia)
    have:(Str.ofString "t").length=1:=by decide +kernel
    show(Str.ofString "t").length+(jh (j:Int)).length≤sizeLine
    lia
   ·cases J:ms.cur with
    | nil=>rw[J]at U;exact absurd U (by decide)
    | cons x st =>
     intro l as H' ai ae hp Y sm
     have af:Paired (aX C (off M H')) [x] as:=hp
     exact gA (e:=.use (Vbdeam.nameOf 10 j) (.cons x .nil)) (O Y) (show _=_ by rw[show Vbdeam.nameOf 10 j=Vbdeam.made "t" j from rfl,uW];rfl) ae af (by rw[←Paired.length af];show 1<2000;decide) (fin (by rw[J];unfold Vbdeam.plain;simp only;rw[mr hj];rfl) Y sm)
   ·cases J:ms.cur with
    | nil=>rfl
    | cons x st=>rw[J]at U;simp at U
  | call j m =>
   have aw:j<64∧m≤8:=by
    have h:(decide (j<64)&&decide (m≤8))=true:=hok
    simpa using h
   refine⟨_,rfl,rfl,_,rfl,aN ⟨_,rfl,rfl,_,rfl,aN ⟨_,rfl,rfl,_,rfl,aN ⟨_,rfl,rfl,_,rfl,aN ⟨_,rfl,rfl,_,rfl,aN ⟨_,rfl,rfl,_,rfl,aN ⟨_,rfl,rfl,_,rfl,bj ⟨_,rfl,t,_,_,_,rfl,rfl,bN.of ac,at_of (j:=1) rfl rfl,_,rfl,r,dx,_,rfl,D.obj,rfl,_,rfl,t,_,_,_,rfl,rfl,bN.of ac,at_of (j:=2) rfl rfl,r,M,c,ms,m,rfl,Z,aw.2,fun U=>?_,fun U=>kr ?_⟩⟩⟩⟩⟩⟩⟩⟩
   ·intro l as H' ai ae hp Y sm
    refine⟨M,j,l,_,as,rfl,O Y,aw.1,?_,ae,hp,fin ?_ Y sm⟩
    ·rw[List.length_reverse,lp]
     lia
    ·unfold Vbdeam.plain
     simp only
     rw[ml (by lia)]
     by_cases hm:m=0
     ·subst hm
      simp
     ·rw[ml hm,ml]
      intro z
      have:=congrArg List.length z
      rw[List.length_reverse,lp,lT]at this
      lia
   ·unfold Vbdeam.plain
    simp only
    rw[mr (by lia)]
  | best g =>
   refine⟨_,rfl,rfl,_,rfl,aN ⟨_,rfl,rfl,_,rfl,aN ⟨_,rfl,rfl,_,rfl,aN ⟨_,rfl,rfl,_,rfl,aN ⟨_,rfl,rfl,_,rfl,aN ⟨_,rfl,rfl,_,rfl,aN ⟨_,rfl,rfl,_,rfl,aN ⟨_,rfl,t,_,_,_,rfl,rfl,bN.of ac,at_of (j:=1) rfl rfl,_,rfl,r,dx,_,rfl,D.obj,rfl,r,M,c,ms,2,rfl,Z,by decide,fun U=>?_,fun U=>kr ?_⟩⟩⟩⟩⟩⟩⟩⟩
   ·match J:ms.cur with
    | []=>rw[J]at U;exact absurd U (by decide)
    | [x]=>rw[J]at U;exact absurd U (by show ¬2≤1;decide)
    | y::x::st =>
     intro l as H' ai ae hp Y sm
     refine⟨M,g,l,x,y,as,rfl,O Y,ae,hp,?_,fin (by rw[J];rfl) Y sm⟩
     have h1:=Lp y
     have h2:=Nu (l:=ms.cur) (e:=y) (by rw[J];exact ci)
     lia
   ·match J:ms.cur with
    | []=>rfl
    | [x]=>rfl
    | y::x::st=>rw[J]at U;simp at U;contradiction
end
noncomputable def Small(s:MS):Prop:=MX.cX s.cur+MX.mK s.chs+s.chs.length≤1000
theorem Small.wait{s:MS}(h:Small s):(waitOf s).length≤1000:=by
 unfold Small at h
 unfold waitOf
 rw[jp]
 have h1:=MX.i_ s.cur
 have h2:=MX.i_ (bK s.chs)
 have j:=MX.o_ s.chs
 lia
noncomputable def u9(C R CC Cn:Addr):Sp:=fun vs H Q E=>∃(r t:Addr)(M:List Addr)(c:Vbdeaa.Code)(s:MS)(n:Nat)(i:Ins),vs=[.ref r,.ref t]∧Rec C R CC H r M c s∧off M H t=some (.tup (vI i.told))∧iJ n i=true∧n≤8∧isPlain i∧Small s ∧
 (∀st,Vbdeam.plain n i s.cur=some st→∀H',Rec C R CC H' r M c ⟨s.pos+1,st,s.chs⟩→az (off M H) (off M H')→Q .non H')∧(Vbdeam.plain n i s.cur=none→bJ Cn (-3) (off M H) E)
noncomputable def Ie(C R CC Cn:Addr):Sp:=fun vs H Q E=>∃(r:Addr)(M:List Addr)(c:Vbdeaa.Code)(s:MS)(k:Nat),vs=[.ref r,.int k]∧Rec C R CC H r M c s∧MX.WF c s∧Small s ∧
 (∀t,MX.begin_ c k s=some t→∀j H',Rec C R CC H' r j c t→az (off M H) (off j H')→Q .non H')∧(MX.begin_ c k s=none→bJ Cn (-3) (off M H) E)
noncomputable def N_(C R CC Cn:Addr):Sp:=fun vs H Q E=>∃(r:Addr)(M:List Addr)(c:Vbdeaa.Code)(s:MS),vs=[.ref r]∧Rec C R CC H r M c s∧MX.WF c s ∧
 (∀t,MX.jump s=some t→∀H',Rec C R CC H' r M c t→az (off M H) (off M H')→Q .non H')∧(MX.jump s=none→bJ Cn (-3) (off M H) E)
theorem Sw(cd:Addr)(s m e b:Int)(fp v:V):gZ "first_part" v (wR cd s m e b fp)=wR cd s m e b v:=by rfl
theorem eY.RZ{C R CC:Addr}{H:Hp}{r:Addr}{M:List Addr}{c:Vbdeaa.Code}{s:MS}{dx lr lw lc:Addr}{ts ws cs:List Addr}(D:eY C R CC H r M c s dx lr lw lc ts ws cs)(p:Nat):eY C R CC (L2.upd H r (.ins R dx (Ko lr (p:Int) lw lc))) r M c ⟨p,s.cur,s.chs⟩ dx lr lw lc ts ws cs:=by
 obtain⟨L,m2,S,U,G,F,O,J⟩:=D.rM
 have j:off M (L2.upd H r (.ins R dx (Ko lr (p:Int) lw lc)))=off M H:=gw L
 exact D.next (s':=⟨p,s.cur,s.chs⟩) (by rw[j];exact az.refl _) au (by rw[aA (Ne.symm G)];exact D.wl) (by rw[j];exact D.wn) (by rw[aA (Ne.symm F)];exact D.cl) (by rw[j];exact D.cn.mono (az.refl _) fun b z=>aA (J b z).1)
section
theorem Bl:aO ["self","row","node"] ["self","row"] (aH (cG 5)):=⟨rfl,rfl,rfl,by decide +kernel,rfl,by decide +kernel,by decide +kernel⟩
theorem KJ{f fP C R CC Cn:Addr}{fd dP:FuncData}(F:kZ K "take_plain" "Recovery.take_plain" (cG 5) f fd)(T:RT K mg C R CC)(FP:Fm K R "plain_node" "Recovery.plain_node" (cG 6) fP dP ["self","row"])(GP:aL P w K mg base (bc P w) 5 fP dP ["self","row"] (vd C R CC Cn)):aL P w K mg base (bc P w) 6 f fd ["self","row"] (u9 C R CC Cn):=by
 refine dz F Bl (fun vs H Q E h=>?_) (fun cdv A outer s H vs Q E hr h=>?_)
 ·obtain⟨_,_,_,_,_,_,_,rfl,_⟩:=h
  rfl
 ·obtain⟨r,t,M,c,J,n,i,rfl,L,ht,hok,ag,af,U,k,kr⟩:=h
  obtain⟨dx,lr,lw,lc,ts,ws,cs,D⟩:=id L
  refine⟨_,aj (a_ (i:=2) Bl.nd rfl (Or.inl rfl) (gW (pv 0) T.R.cl FP.me GP hr FP.b .nil passes (aa (pv 1) aq)))
   (aj (bQ (lR PySem.F.plainAttrs_list PySem.F.slot_list_append PySem.F.type_list_append iw (aJ (pv 0) rfl) (aa (pv 2) aq)))
   (ak (rG (pv 0) ao Hc))),?_⟩
  refine⟨_,rfl,r,dx,_,rfl,D.obj,rfl,_,rfl,r,t,M,c,J,n,i,rfl,L,ht,hok,ag,af,by unfold Small at U;lia,?_,kr⟩
  rintro e rest hp a H1 ae ⟨z,Y,j,ac,Z,G,S,O⟩ sm
  obtain⟨m1,m2,m3,m4,n1,n2,n3,n4⟩:=O.rM
  refine⟨_,rfl,r,R,z,_,_,rfl,O.obj,T.R.cl,T.R.nW,rfl,.inl ⟨rfl,_,bF.of O.wl⟩,_,rfl,j,_,_,rfl,rfl,O.wl,?_,?_⟩
  ·rw[ap,List.length_reverse,←Paired.length O.wn]
   have h1:=MX.vV hp
   have h2:=MX.i_ rest
   have h3:=MX.i_ (bK J.chs)
   have h4:=MX.o_ J.chs
   simp only[MX.cX]at h1
   unfold Small at U
   unfold waitOf
   rw[jp]
   refine l6 (?_:_≤3000) (by decide)
   show rest.length+(bK J.chs).length≤3000
   lia
  have ho:off M (L2.upd H1 j (.lst (G.reverse.map V.ref++[V.ref a])))=off M H1:=gw m2
  have D2:eY C R CC (L2.upd H1 j (.lst (G.reverse.map V.ref++[V.ref a]))) r M c ⟨J.pos,e::rest,J.chs⟩ z Y j ac Z (a::G) S :=
   O.Oh (s':=⟨J.pos,e::rest,J.chs⟩) (fun b _ hb=>aA hb) (by rw[ho];exact az.refl _) rfl rfl (by rw[au,bI]) (by rw[ho];exact .cons ae O.wn)
  refine⟨_,rfl,r,R,z,_,_,rfl,D2.obj,T.R.cl,T.R.nA,rfl,_,_,rfl,rfl,z,_,D2.obj,by show 4<1000;decide,?_⟩
  have D3:=D2.RZ (J.pos+1)
  refine k _ hp _ ⟨z,Y,j,ac,Z,a::G,S,?_⟩ ?_
  ·exact D3
  ·show az (off M H) (off M (L2.upd _ r _))
   rw[gw m1,ho]
   exact sm
end
theorem eY.row{C R CC:Addr}{H:Hp}{r:Addr}{M:List Addr}{c:Vbdeaa.Code}{s:MS}{dx lr lw lc:Addr}{ts ws cs:List Addr}(D:eY C R CC H r M c s dx lr lw lc ts ws cs){p:Nat}{i:Ins}(h:c[p]?=some i):∃t,kY (ts.map V.ref) (p:Int)=some (V.ref t)∧off M H t=some (.tup (vI i.told)):=by
 have z:(gH c)[p]?=some i.told:=by unfold gH;rw[l0,h];rfl
 obtain⟨t,F,j⟩:=cz D.told z
 exact⟨t,j7 (by rw[l0,F];rfl),j⟩
theorem eY.len{C R CC:Addr}{H:Hp}{r:Addr}{M:List Addr}{c:Vbdeaa.Code}{s:MS}{dx lr lw lc:Addr}{ts ws cs:List Addr}(D:eY C R CC H r M c s dx lr lw lc ts ws cs):(ts.map V.ref).length=c.length:=by
 rw[ap,←Paired.length D.told]
 unfold gH
 rw[ap]
noncomputable def QV:Ins→Int
 | .push _=>0 | .arg _=>1 | .var _=>2 | .un _=>3 | .bin _=>4 | .jump _=>5 | .zero _=>6 | .table _=>7 | .call _ _=>8 | .truth=>9 | .best _=>10
theorem uX(i:Ins):kY (vI i.told) 0=some (V.int (QV i)):=at_of (j:=0) rfl (by cases i<;>rfl)
theorem Ly{i:Ins}(h:QV i=5):∃m,i=.jump m:=by cases i<;>first | exact⟨_,rfl⟩ | cases h
structure ChK (P:Program) (w:World) (K:PySem.W.Frag) (mg:Str→Option Value) (base:Heap) (CC fC fL:Addr) (dC dL:FuncData):Prop where
 mk_:Mk K CC fC
 ok:aL P w K mg base (bc P w) 1 fC dC ["self","condition","start","middle","end","base"] (Og CC)
 b:Binds K dC ["self","condition","start","middle","end","base"] []
 m:mg "Choice"=some (.ref CC)
 lim:aL P w K mg base (bc P w) 1 fL dL ["self"] (zb CC)
 limm:Meth K CC "limit" fL
 limb:Binds K dL ["self"] []
section
theorem Ou:aO ["self","choice"] ["self"] (aH (cG 8)):=⟨rfl,rfl,rfl,by decide +kernel,rfl,by decide +kernel,by decide +kernel⟩
theorem Tu{f C R CC Cn fI:Addr}{fd dI:FuncData}{fN fT fO fFo fPi fNa:Addr}{dN dT dO dFo dPi dNa:FuncData}(F:kZ K "go_on_choice" "Recovery.go_on_choice" (cG 8) f fd)(G:RF P w K mg base C R CC Cn fI dI fN fT fO fFo fPi fNa dN dT dO dFo dPi dNa):aL P w K mg base (bc P w) 5 f fd ["self"] (N_ C R CC Cn):=by
 have T:=G.T
 have X:=G.X
 refine dz F Ou (fun vs H Q E h=>?_) (fun cdv A outer s H vs Q E hr h=>?_)
 ·obtain⟨_,_,_,_,rfl,_⟩:=h
  rfl
 ·obtain⟨r,M,c,j,rfl,Z,wf,k,kr⟩:=h
  obtain⟨dx,lr,lw,lc,ts,ws,cs,D⟩:=id Z
  have aC:bB 3 _:=hr.mono (by decide)
  refine⟨_,aj (aR (iC (iB (aJ (pv 0) rfl) (fun _=>rfl))) (ak (cT X.made X.cls X.ok aC rfl X.m X.b rfl b_)) aF)
   (aj (a_ (i:=1) Ou.nd rfl (Or.inl rfl) (aQ bA (aJ (pv 0) rfl) (dY cM ao) (fun _ _=>rfl)))
   (aj (aR (aD kh (aJ (pv 0) rfl) (bL ji (aJ (pv 1) rfl) ao) (aG _)) (ak (cT X.made X.cls X.ok aC rfl X.m X.b rfl b_)) aF)
   (aj (fj (pv 1) (eE (pv 0) T.R.cl G.tom G.to hr G.tob .nil passes) rfl)
   (ak (rG (pv 0) ao Hc))))),?_⟩
  have bad:MX.jump j=none→bJ Cn (-3) H E:=fun h=>(kr h).mono (aZ M H)
  refine⟨_,rfl,r,R,dx,_,_,rfl,D.obj,T.R.cl,T.R.nC,rfl,_,.inl ⟨_,bF.of D.cl,rfl⟩,?_⟩
  have S:=D.cn
  cases Y:j.chs with
  | nil =>
   rw[Y]at S
   cases S
   refine bj (bad ?_).go
   unfold MX.jump
   rw[Y]
   split<;>first | rfl | (rename_i h;cases h) | (rename_i h _;cases h)
  | cons x q =>
   rw[Y]at S
   cases S with
   | @cons _ _ a aT cd as fp h1 h2 h3 h4 =>
    have aE:=D.cl
    rw[bI]at aE ⊢
    rw[show(!(as.reverse.map V.ref++[V.ref a]).isEmpty)=true by simp]
    have ch:=wf.chain
    rw[Y]at ch
    obtain⟨c1,c2,c3,c4,c5,c6⟩:=ch
    refine aN ⟨_,rfl,r,R,dx,_,_,rfl,D.obj,T.R.cl,T.R.nC,rfl,_,rfl,lc,_,_,_,rfl,rfl,bF.of aE,qM,?_⟩
    refine⟨_,rfl,r,R,dx,_,_,rfl,D.obj,T.R.cl,T.R.nA,rfl,_,rfl,a,CC,aT,_,_,rfl,h1,T.H.cl,T.H.nM,rfl,_,_,rfl,rfl,rfl,_,rfl,bC (fun af=>?_) fun af=>?_⟩
    ·refine(bad ?_).go
     unfold MX.jump
     rw[Y]
     split
     ·rename_i J x' r' ac ay
      cases ay
      rw[ml]
      intro z
      have:¬V.int (j.pos:Nat)=V.int ((x.middle:Nat)-1):=by simpa using af
      exact this (by congr 1;lia)
     ·rfl
    have av:j.pos+1=x.middle:=by
     have:V.int (j.pos:Nat)=V.int ((x.middle:Nat)-1):=by simpa using af
     have:=cZ this
     lia
    refine⟨_,rfl,r,dx,_,rfl,D.obj,rfl,r,M,c,j,rfl,Z,?_,fun a1=>kr ?_⟩
    ·rintro e he b H1 a0 ⟨U,aw,ae,ag,ax,ah,aI,O⟩ sm
     obtain⟨m1,m2,m3,m4,n1,n2,n3,n4⟩:=O.rM
     obtain⟨ew,el,aS⟩:ae=lw∧ag=lc∧aI=a::as:=by
      have J:=O.mem
      rw[D.mem]at J
      injection J with _ J
      injection J with e2 J
      injection J with e3 J
      exact⟨e2.symm,e3.symm,J.symm⟩
     subst aS
     have al:ig C CC (off M H1) H1 (x::q) (a::as):=by
      have:=O.cn
      rw[show({ j with cur:=[] }:MS).chs=x::q from Y]at this
      exact this
     have nd:=O.nd
     rw[O.mem]at nd
     simp only[List.nodup_cons,j',not_or]at nd
     cases al with
     | @cons _ _ _ L ai _ a2 g1 g2 g3 g4 =>
      have na:=n4 a ci
      refine⟨_,rfl,a,CC,L,_,rfl,g1,T.H.cl,T.H.nF,by show 6<1000;decide,?_⟩
      rw[Sw]
      have aM:a∈M:=m4 a ci
      have ho:off M (L2.upd H1 a (.ins CC L (wR ai (x.start:Nat) (x.middle:Nat) (x.end_:Nat) ((bK (x::q)).length:Nat) (.ref b))))=off M H1:=gw aM
      have D2:eY C R CC (L2.upd H1 a (.ins CC L (wR ai (x.start:Nat) (x.middle:Nat) (x.end_:Nat) ((bK (x::q)).length:Nat) (.ref b)))) r M c ⟨j.pos,[],{ x with first:=some e }::q⟩ U aw ae ag ax ah (a::as):=by
       refine O.next (s':=⟨j.pos,[],{ x with first:=some e }::q⟩) (by rw[ho];exact az.refl _) (by rw[aA (Ne.symm na.1)];exact O.obj) (by rw[aA (Ne.symm na.2.1)];exact O.wl) ?_ (by rw[aA (Ne.symm na.2.2)];exact O.cl) ?_
       ·rw[ho]
        have:=O.wn
        unfold waitOf at this ⊢
        rw[show({ j with cur:=[] }:MS).chs=x::q from Y]at this
        exact this
       ·refine .cons (fp:=.ref b) au (by rw[ho];exact g2) ⟨b,rfl,by rw[ho];exact a0⟩ (g4.mono (by rw[ho];exact az.refl _) fun y hy=>aA fun z=>?_)
        subst z
        exact nd.2.2.2.1 hy
      refine⟨_,rfl,r,R,U,_,_,rfl,D2.obj,T.R.cl,T.R.nA,rfl,_,_,rfl,rfl,U,_,D2.obj,by show 4<1000;decide,?_⟩
      have D3:=D2.RZ (j.pos+1)
      refine k ⟨j.pos+1,[],{ x with first:=some e }::q⟩ ?_ _ ⟨U,aw,ae,ag,ax,ah,a::as,D3⟩ ?_
      ·unfold MX.jump
       rw[Y,he]
       simp only
       rw[mr av]
      ·show az (off M H) (off M (L2.upd _ r _))
       rw[gw m1,ho]
       exact sm
    ·unfold MX.jump
     rw[Y]
     split
     ·rename_i J x' r' ac ay
      exact absurd ac (a1 J)
     ·rfl
end
theorem Li{C:Addr}{G:Hp}{x:Ch}{fp:V}(h:j9 C G x.first fp)(D:x.start<x.middle):(if fp=.non then((x.middle:Nat):Int)-1 else((x.end_:Nat):Int))=((x.limit:Nat):Int):=by
 unfold Ch.limit
 cases j:x.first with
 | none =>
  rw[j]at h
  rw[mr (show fp=.non from h)]
  simp only
  lia
 | some f =>
  rw[j]at h
  obtain⟨a,rfl,_⟩:=h
  rw[ml (by intro z;cases z)]
section
theorem QC{C R CC:Addr}{H:Hp}{r:Addr}{M:List Addr}{c:Vbdeaa.Code}{s:MS}{dx lr lw lc:Addr}{ts ws cs:List Addr}(D:eY C R CC H r M c s dx lr lw lc ts ws cs)(T:RT K mg C R CC)(ch:MX.Chain c s.pos s.chs){σ:L2.St}{E:XK}(hσ:σ[0]?=some (some (.ref r))){Q:VK}(h:Q (.int (MX.limitOf c s.chs:Nat)) H) :
  Vg (fun σ H Q=>uf K (jB 0) "choices" σ H fun x H'=>∃k,Xo K x H' k∧Q k H') (pI CC "limit" (zb CC) [] E (HF (xG K) (uf K (jB 0) "choices") (tUn (rU fun i=>V.int (-i)) (tC (.int 1)))) dj)
   (Nt (fun xs H Q=>∃p ys,xs=[V.ref p]∧(bF K H p ys∨bN K H p ys)∧Q (.int ys.length) H) (bh (uf K (jB 0) "rows") dj)) σ H Q:=by
 refine⟨_,hσ,r,R,dx,_,_,rfl,D.obj,T.R.cl,T.R.nC,rfl,_,.inl ⟨_,bF.of D.cl,rfl⟩,?_⟩
 have j:=D.cn
 cases G:s.chs with
 | nil =>
  rw[G]at j h
  cases j
  refine aN ⟨_,hσ,r,R,dx,_,_,rfl,D.obj,T.R.cl,T.R.nR,rfl,lr,_,rfl,.inl (bF.of (aZ _ _ _ _ D.rows)),?_⟩
  rw[D.len]
  exact h
 | cons x q =>
  rw[G]at j h ch
  cases j with
  | @cons _ _ a F cd as fp h1 h2 J L =>
   have z:=D.cl
   rw[bI]at z ⊢
   rw[show(!(as.reverse.map V.ref++[V.ref a]).isEmpty)=true by simp]
   refine bj ⟨_,hσ,r,R,dx,_,_,rfl,D.obj,T.R.cl,T.R.nC,rfl,_,rfl,lc,_,_,_,rfl,rfl,bF.of z,qM,a,F,_,rfl,h1,rfl,a,F,cd,_,_,_,_,fp,rfl,h1,?_⟩
   rw[Li J ch.2.2.1]
   exact h
theorem pU:aO ["self","length","condition","limit","middle","end"] ["self","length"] (aH (cG 7)):=⟨rfl,rfl,rfl,by decide +kernel,rfl,by decide +kernel,by decide +kernel⟩
theorem Qu{f C R CC Cn fI fC fL:Addr}{fd dI dC dL:FuncData}{fN fT fO fFo fPi fNa:Addr}{dN dT dO dFo dPi dNa:FuncData}(F:kZ K "begin_choice" "Recovery.begin_choice" (cG 7) f fd)(G:RF P w K mg base C R CC Cn fI dI fN fT fO fFo fPi fNa dN dT dO dFo dPi dNa)(W:ChK P w K mg base CC fC fL dC dL):aL P w K mg base (bc P w) 5 f fd ["self","length"] (Ie C R CC Cn):=by
 have T:=G.T
 have X:=G.X
 refine dz F pU (fun vs H Q E h=>?_) (fun cdv A outer s H vs Q E hr h=>?_)
 ·obtain⟨_,_,_,_,_,rfl,_⟩:=h
  rfl
 ·obtain⟨r,M,c,J,n,rfl,ai,wf,a2,k,kr⟩:=h
  obtain⟨dx,lr,lw,lc,ts,ws,cs,D⟩:=id ai
  have aT:bB 3 _:=hr.mono (by decide)
  have a9:bB 2 _:=hr.mono (by decide)
  have a1:bB 1 _:=hr.mono (by decide)
  refine⟨_,aj (a_ (i:=2) pU.nd rfl (Or.inl rfl) (aQ bA (gW (pv 0) T.R.cl G.tpm G.tp hr G.tpb .nil passes (aa ao aq)) ao (fun _ _=>rfl)))
   (aj (a_ (i:=3) pU.nd rfl (Or.inl rfl) (eF (iB (aJ (pv 0) rfl) (fun _=>rfl)) (eE (aQ bA (aJ (pv 0) rfl) (dY cM ao) (fun _ _=>rfl)) T.H.cl W.limm W.lim a1 W.limb .nil passes) (bH bD (by rfl) T.P.len (by decide +kernel) (aa (aJ (pv 0) rfl) aq))))
   (aj (a_ (i:=4) pU.nd rfl (Or.inl rfl) (bL gM (bL gM (aJ (pv 0) rfl) ao) (pv 1)))
   (aj (aR (PW.pt (lL (aD km (pv 4) (pv 3) (aG _)) (jL (aD kh (aQ aU (aQ bA (aJ (pv 0) rfl) (bL ji (pv 4) ao) (fun _ _=>rfl)) ao (fun _ _=>rfl)) ao (aG _))))) (ak (cT X.made X.cls X.ok aT rfl X.m X.b rfl b_)) aF)
   (aj (a_ (i:=5) pU.nd rfl (Or.inl rfl) (bL gM (pv 4) (aQ aU (aQ bA (aJ (pv 0) rfl) (bL ji (pv 4) ao) (fun _ _=>rfl)) ao (fun _ _=>rfl))))
   (aj (aR (aD km (pv 5) (pv 3) (aG _)) (ak (cT X.made X.cls X.ok aT rfl X.m X.b rfl b_)) aF)
   (aj (bQ (lR PySem.F.plainAttrs_list PySem.F.slot_list_append PySem.F.type_list_append iw (aJ (pv 0) rfl) (aa (dh W.mk_ W.ok a9 rfl W.m W.b .nil passes (aa (pv 2) (aa (aJ (pv 0) rfl) (aa (pv 4) (aa (pv 5) (aa (bH bD (by rfl) T.P.len (by decide +kernel) (aa (aJ (pv 0) rfl) aq)) aq)))))) aq)))
   (ak (rG (pv 0) ao Hc)))))))),?_⟩
  have ay:=wf.chain
  have bd:=ay.limit
  refine⟨_,rfl,r,dx,_,rfl,D.obj,rfl,r,M,c,J,1,rfl,ai,by decide,fun hl=>?_,fun hl=>kr ?_⟩
  rotate_left
  ·unfold MX.begin_
   cases O:J.cur with
   | nil=>rfl
   | cons x st=>rw[O]at hl;simp at hl
  cases O:J.cur with
  | nil=>rw[O]at hl;exact absurd hl (by decide)
  | cons a0 st =>
   rintro l aM H1 be a3 hp ⟨S,ac,Z,U,ag,af,Y,L⟩ sm
   have L:eY C R CC H1 r M c ⟨J.pos,st,J.chs⟩ S ac Z U ag af Y:=L
   obtain⟨cd,rfl,a4⟩:∃cd,aM=[cd]∧aX C (off M H1) a0 cd:=by
    have hp:Paired (aX C (off M H1)) [a0] aM:=hp
    cases hp with
    | cons z1 z2=>cases z2;exact⟨_,rfl,z1⟩
   obtain⟨m1,m2,m3,m4,n1,n2,n3,n4⟩:=L.rM
   refine⟨l,_,_,_,rfl,rfl,bF.of (aZ _ _ _ _ a3),at_of (j:=0) rfl rfl,?_⟩
   have bad:MX.begin_ c n J=none→bJ Cn (-3) H1 E:=fun h=>(kr h).mono (sm.trans (aZ M H1))
   refine QC (E:=E) L T ay rfl ?_
   refine⟨_,rfl,r,R,S,_,_,rfl,L.obj,T.R.cl,T.R.nA,rfl,_,_,rfl,rfl,_,rfl,_,_,rfl,rfl,?_⟩
   have ax:((J.pos:Nat):Int)+1+(n:Int)=((J.pos+1+n:Nat):Int):=by lia
   refine⟨_,rfl,_,rfl,_,_,rfl,rfl,_,rfl,bC (fun h1=>bj (bad ?_).go) fun h1=>?_⟩
   ·have h1:((MX.limitOf c J.chs:Nat):Int)<(J.pos:Nat)+1+(n:Int):=mn h1
    unfold MX.begin_
    rw[O]
    simp only
    rw[mr (by lia)]
   have h1:J.pos+1+n≤MX.limitOf c J.chs:=by
    have:¬((MX.limitOf c J.chs:Nat):Int)<(J.pos:Nat)+1+(n:Int):=fun z=>h1 (mi z)
    lia
   obtain⟨ii,ah⟩:∃ii,c[J.pos+n]?=some ii:=⟨_,ln (by lia)⟩
   obtain⟨t,a8,ht⟩:=L.row ah
   have al:kY (ag.map V.ref) (((J.pos:Nat):Int)+1+(n:Int)-1)=some (V.ref t):=by
    rw[show((J.pos:Nat):Int)+1+(n:Int)-1=((J.pos+n:Nat):Int) by lia]
    exact a8
   have aE:=aZ _ _ _ _ ht
   have ae:=aZ _ _ _ _ L.rows
   refine⟨_,rfl,r,R,S,_,_,rfl,L.obj,T.R.cl,T.R.nR,rfl,_,rfl,_,_,rfl,rfl,ac,_,_,_,rfl,rfl,bF.of ae,al,t,_,_,_,rfl,rfl,bN.of aE,uX ii,rfl,_,rfl,bC (fun h2=>(bad ?_).go) fun h2=>?_⟩
   ·unfold MX.begin_
    rw[O]
    simp only
    rw[ml (by lia),ah]
    simp only[Option.bind_some]
    have aC:¬V.int (QV ii)=V.int 5:=by simpa using h2
    cases ii with
    | jump m=>exact absurd rfl aC
    | _=>rfl
   have h5:QV ii=5:=by
    have:V.int (QV ii)=V.int 5:=by simpa using h2
    exact cZ this
   obtain⟨m,rfl⟩:=Ly h5
   refine⟨_,rfl,_,rfl,r,R,S,_,_,rfl,L.obj,T.R.cl,T.R.nR,rfl,_,rfl,_,_,rfl,rfl,ac,_,_,_,rfl,rfl,bF.of ae,al,t,_,_,_,rfl,rfl,bN.of aE,at_of (j:=1) rfl rfl,_,_,rfl,rfl,?_⟩
   refine⟨_,rfl,_,rfl,_,_,rfl,rfl,_,rfl,bC (fun h3=>(bad ?_).go) fun h3=>?_⟩
   ·have h3:((MX.limitOf c J.chs:Nat):Int)<(J.pos:Nat)+1+(n:Int)+(m:Int):=mn h3
    unfold MX.begin_
    rw[O]
    simp only
    rw[ml (by lia),ah]
    simp only[Option.bind_some,Vbdeam.jumpOf]
    rw[mr (by lia)]
   have h3:J.pos+1+n+m≤MX.limitOf c J.chs:=by
    have:¬((MX.limitOf c J.chs:Nat):Int)<(J.pos:Nat)+1+(n:Int)+(m:Int):=fun z=>h3 (mi z)
    lia
   have aw:MX.begin_ c n J=some ⟨J.pos+1,[],⟨a0,J.pos,J.pos+1+n,J.pos+1+n+m,none,st⟩::J.chs⟩:=by
    unfold MX.begin_
    rw[O]
    simp only
    rw[ml (by lia),ah]
    simp only[Option.bind_some,Vbdeam.jumpOf]
    rw[ml (by lia)]
   refine⟨_,rfl,r,R,S,_,_,rfl,L.obj,T.R.cl,T.R.nC,rfl,.inl ⟨rfl,_,bF.of L.cl⟩,_,rfl,_,rfl,r,R,S,_,_,rfl,L.obj,T.R.cl,T.R.nA,rfl,_,rfl,_,rfl,_,rfl,r,R,S,_,_,rfl,L.obj,T.R.cl,T.R.nW,rfl,Z,_,rfl,.inl (bF.of L.wl),fun x aS hx a6 aC=>?_⟩
   have av:(af.reverse.map V.ref).length=(bK (⟨a0,J.pos,J.pos+1+n,J.pos+1+n+m,none,st⟩::J.chs)).length:=by
    rw[ap,List.length_reverse,←Paired.length L.wn]
    rfl
   rw[av]
   refine⟨x,aS,cd,_,_,_,_,rfl,au,fun H2 sx a7=>⟨rfl,?_⟩⟩
   have aI:az H1 H2:=fun b o q=>sx b o (by rw[aA (aP q hx),aA (aP q a6)];exact q) (aP q hx)
   have K2:=cY.of_same L.there aI
   have D2:=L.keep K2
   have xM:x∉M:=fun z=>by
    obtain⟨o,ho⟩:=L.there x z
    rw[hx]at ho
    cases ho
   refine⟨U,_,_,rfl,rfl,D2.cl,?_,?_⟩
   ·have bb:Y.length=J.chs.length:=by
     have:∀{chs:List Ch}{as:List Addr},ig C CC (off M H1) H1 chs as→as.length=chs.length:=by
      intro chs as h
      induction h with
      | nil=>rfl
      | cons _ _ _ _ ih=>rw[io,io,ih]
     exact this L.cn
    rw[ap,List.length_reverse,bb]
    unfold Small at a2
    exact l6 (by lia:_≤1000) (by decide)
   have ba:U≠x:=fun z=>xM (z▸m3)
   have out:az (off M H1) (off (r::Z::U::x::Y) (L2.upd H2 U (.lst (Y.reverse.map V.ref++[V.ref x])))):=fun b o q=>by
    have bM:=jP q
    have q1:=aZ _ _ _ _ q
    have bx:b≠x:=aP q1 hx
    refine bU ?_ ?_
    ·rw[aA (show b≠U from fun z=>bM (z▸m3))]
     exact aI _ _ q1
    ·rw[L.mem]at bM
     simp only[j',not_or]at bM ⊢
     exact⟨bM.1,bM.2.1,bM.2.2.1,bx,bM.2.2.2⟩
   have a5:H2 x=some (.ins CC aS (wR cd (J.pos:Nat) ((J.pos+1+n:Nat):Int) ((J.pos+1+n+m:Nat):Int) ((bK (⟨a0,J.pos,J.pos+1+n,J.pos+1+n+m,none,st⟩::J.chs)).length:Nat) .non)):=by
    rw[a7,←ax,show((J.pos+1+n+m:Nat):Int)=(J.pos:Nat)+1+(n:Int)+(m:Int) by lia]
   have D3:eY C R CC (L2.upd H2 U (.lst (Y.reverse.map V.ref++[V.ref x]))) r (r::Z::U::x::Y) c ⟨J.pos,[],⟨a0,J.pos,J.pos+1+n,J.pos+1+n+m,none,st⟩::J.chs⟩ S ac Z U ag af (x::Y):=by
    refine⟨rfl,?_,by rw[aA n2];exact D2.obj,out _ _ L.rows,L.told.same out,by rw[aA n3];exact D2.wl,bZ out L.wn,by rw[au,bI],?_⟩
    ·have nd:=L.nd
     rw[L.mem]at nd xM
     simp only[List.nodup_cons,j',not_or]at nd xM ⊢
     obtain⟨⟨z1,z2,z3⟩,⟨z4,z5⟩,z6,z7⟩:=nd
     obtain⟨y1,y2,y3,y4⟩:=xM
     exact⟨⟨z1,z2,Ne.symm y1,z3⟩,⟨z4,Ne.symm y2,z5⟩,⟨Ne.symm y3,z6⟩,y4,z7⟩
    ·refine .cons (fp:=.non) (by rw[aA (Ne.symm ba)];exact a5) (a4.same out) rfl (L.cn.mono out fun b hb=>?_)
     rw[aA (n4 b hb).2.2]
     exact K2.ins b (m4 b hb)
   refine⟨_,rfl,r,R,S,_,_,rfl,D3.obj,T.R.cl,T.R.nA,rfl,_,_,rfl,rfl,S,_,D3.obj,by show 4<1000;decide,?_⟩
   refine k _ aw _ _ ⟨S,ac,Z,U,ag,af,x::Y,D3.RZ (J.pos+1)⟩ ?_
   show az (off M H) (off (r::Z::U::x::Y) (L2.upd _ r _))
   rw[gw ci]
   exact sm.trans out
end
theorem ud:∀ns j:List Int,PyData.eqvAll (ns.map PyData.int) (j.map PyData.int)=decide (ns=j)
 | [],[]=>by simp[PyData.eqvAll]
 | [],m::j=>by simp[PyData.eqvAll]
 | n::ns,[]=>by simp[PyData.eqvAll]
 | n::ns,m::j=>by
  simp only[mf,PyData.eqvAll,ud ns j]
  simp[PyData.eqv,Bool.beq_eq_decide_eq]
theorem wN(ns j:List Int):PyData.eqv (.tuple (ns.map PyData.int)) (.tuple (j.map PyData.int))=decide (ns=j):=by
 rw[←ud]
 rfl
theorem jW{K:PySem.W.Frag}{H:Hp}:∀l:List Int,xm K H (vI l) (l.map PyData.int)
 | []=>.nil
 | n::r=>.cons (.int n) (jW r)
theorem Ig(a b c:Int):SeqAt.shaped (.tuple ([a,b,c].map PyData.int))=true:=by rfl
theorem tH(i:Ins):SeqAt.shaped (.tuple (i.told.map PyData.int))=true:=by cases i<;>rfl
noncomputable def v8(c:Vbdeaa.Code)(x:Ch):Int:=match x.first with
 | none=>if MX.isAnd c x=true then(x.middle:Int)-2 else -1
 | some _=>if MX.xJ c x=true then(x.end_:Int)-1 else -1
noncomputable def V2(C R CC:Addr):Sp:=fun vs H Q _=>∃(r dx lr lw lc a j cd:Addr)(i b:Int)(ts:List Addr)(c:Vbdeaa.Code)(x:Ch)(fp:V)(G:Hp),vs=[.ref r,.ref a]∧H r=some (.ins R dx (Ko lr i lw lc))∧H lr=some (.lst (ts.map V.ref))∧cJ H c ts ∧
 H a=some (.ins CC j (wR cd (x.start:Nat) (x.middle:Nat) (x.end_:Nat) b fp))∧j9 C G x.first fp∧x.middle≤x.end_∧x.end_≤c.length∧Q (.int (v8 c x)) H
theorem Pb{H:Hp}{c:Vbdeaa.Code}{ts:List Addr}(h:cJ H c ts){p:Nat}{i:Ins}(hi:c[p]?=some i):∃t,kY (ts.map V.ref) (p:Int)=some (V.ref t)∧H t=some (.tup (vI i.told)):=by
 have D:(gH c)[p]?=some i.told:=by unfold gH;rw[l0,hi];rfl
 obtain⟨t,j,z⟩:=cz h D
 exact⟨t,j7 (by rw[l0,j];rfl),z⟩
theorem JV(i:Ins):decide (i.told=[0,0,1])=Vbdeam.isZeroIns i:=by
 cases i with
 | push q =>
  obtain⟨a,b⟩:=q
  show decide ([0,a,(b:Int)]=[0,0,1])=((a,b)==((0,1):Vbdeaa.Q))
  rw[l9]
  simp only[mo,beq_iff_eq,List.cons.injEq,and_true,true_and,Prod.mk.injEq]
  exact⟨fun⟨h1,h2⟩=>⟨h1,by lia⟩,fun⟨h1,h2⟩=>⟨h1,by lia⟩⟩
 | _=>rfl
theorem Kz(i:Ins):decide (i.told=[0,1,1])=Vbdeam.isOne i:=by
 cases i with
 | push q =>
  obtain⟨a,b⟩:=q
  show decide ([0,a,(b:Int)]=[0,1,1])=((a,b)==((1,1):Vbdeaa.Q))
  rw[l9]
  simp only[mo,beq_iff_eq,List.cons.injEq,and_true,true_and,Prod.mk.injEq]
  exact⟨fun⟨h1,h2⟩=>⟨h1,by lia⟩,fun⟨h1,h2⟩=>⟨h1,by lia⟩⟩
 | _=>rfl
section
theorem Fl:aO ["self","choice","is_and","is_or"] ["self","choice"] (aH (cG 10)):=⟨rfl,rfl,rfl,by decide +kernel,rfl,by decide +kernel,by decide +kernel⟩
theorem Ti{f C R CC:Addr}{fd:FuncData}(F:kZ K "place_of_nine" "Recovery.place_of_nine" (cG 10) f fd)(T:RT K mg C R CC):aL P w K mg base (bc P w) 1 f fd ["self","choice"] (V2 C R CC):=by
 refine dz F Fl (fun vs H Q E h=>?_) (fun cdv A outer s H vs Q E hr h=>?_)
 ·obtain⟨_,_,_,_,_,_,_,_,_,_,_,_,_,_,_,rfl,_⟩:=h
  rfl
 ·obtain⟨r,dx,lr,lw,lc,a,j,cd,i,b,ts,c,x,fp,G,rfl,af,ag,ah,U,J,ai,al,k⟩:=h
  refine⟨_,aj (aR (jM (lU (aJ (pv 1) rfl)))
    (aj (a_ (i:=2) Fl.nd rfl (Or.inl rfl) (rK (bW aY (aJ (pv 1) rfl) (bL gM (aJ (pv 1) rfl) ao) (aG _)) (oV (bW (Gn hr.units) (aQ bA (aJ (pv 0) rfl) (aJ (pv 1) rfl) (fun _ _=>rfl)) (Ys rfl T.S.Z) (aG _)))))
    (ak (aB (eF (fc (pv 2)) (bL ji (aJ (pv 1) rfl) ao) (dY cM ao))))) aF)
   (aj (a_ (i:=3) Fl.nd rfl (Or.inl rfl) (rK (bW aY (aJ (pv 1) rfl) (bL gM (aJ (pv 1) rfl) ao) (aG _)) (oV (bW (Gn hr.units) (aQ bA (aJ (pv 0) rfl) (bL gM (aJ (pv 1) rfl) ao) (fun _ _=>rfl)) (Ys rfl T.S.O) (aG _)))))
   (ak (aB (eF (fc (pv 3)) (bL ji (aJ (pv 1) rfl) ao) (dY cM ao))))),?_⟩
  refine⟨_,rfl,a,CC,j,_,_,rfl,U,T.H.cl,T.H.nF,rfl,_,rfl,?_⟩
  unfold v8 at k
  cases hf:x.first with
  | none =>
   rw[hf]at J k
   obtain rfl:fp=.non:=J
   simp only at k
   refine bj ?_
   refine⟨_,rfl,a,CC,j,_,_,rfl,U,T.H.cl,T.H.nE,rfl,_,rfl,a,CC,j,_,_,rfl,U,T.H.cl,T.H.nM,rfl,_,_,rfl,rfl,rfl,_,rfl,bC (fun h1=>?_) fun h1=>?_⟩
   ·have h1:x.end_=x.middle+1:=by
     have:=cZ (mn h1)
     lia
    obtain⟨ii,D⟩:∃ii,c[x.middle]?=some ii:=⟨_,ln (by lia)⟩
    obtain⟨t,ac,ht⟩:=Pb ah D
    refine⟨_,rfl,r,R,dx,_,_,rfl,af,T.R.cl,T.R.nR,rfl,_,rfl,a,CC,j,_,_,rfl,U,T.H.cl,T.H.nM,rfl,lr,_,_,_,rfl,rfl,bF.of ag,ac,fun v hv=>?_⟩
    obtain⟨z,zs,rfl,ae,Y⟩:=hv.tup
    have ez:=ju Y
    subst ez
    refine⟨_,_,.tup (bN.of ht) (jW _),.tup (ae H) (jW [0,0,1]),tH ii,Ig 0 0 1,_,rfl,_,rfl,?_⟩
    rw[wN,JV]
    have L:MX.isAnd c x=Vbdeam.isZeroIns ii:=by
     unfold MX.isAnd
     rw[D,mi h1]
     rfl
    cases hz:Vbdeam.isZeroIns ii with
    | true =>
     rw[L,hz,mr rfl]at k
     exact bj ⟨_,rfl,a,CC,j,_,_,rfl,U,T.H.cl,T.H.nM,rfl,_,_,rfl,rfl,k⟩
    | false =>
     rw[L,hz,ml (by decide)]at k
     exact aN ⟨_,rfl,k⟩
   ·have L:MX.isAnd c x=false:=by
     unfold MX.isAnd
     rw[mu (fun z=>h1 (mi (by rw[z];rfl))),Bool.false_and]
    rw[L,ml (by decide)]at k
    exact⟨_,rfl,_,rfl,aN ⟨_,rfl,k⟩⟩
  | some f0 =>
   rw[hf]at J k
   obtain⟨fa,rfl,_⟩:=J
   simp only at k
   refine aN ?_
   refine⟨_,rfl,a,CC,j,_,_,rfl,U,T.H.cl,T.H.nM,rfl,_,rfl,a,CC,j,_,_,rfl,U,T.H.cl,T.H.nS,rfl,_,_,rfl,rfl,rfl,_,rfl,bC (fun h1=>?_) fun h1=>?_⟩
   ·have h1:x.middle=x.start+3:=by
     have:=cZ (mn h1)
     lia
    obtain⟨ii,D⟩:∃ii,c[x.start+1]?=some ii:=⟨_,ln (by lia)⟩
    obtain⟨t,ac,ht⟩:=Pb ah D
    refine⟨_,rfl,r,R,dx,_,_,rfl,af,T.R.cl,T.R.nR,rfl,_,rfl,a,CC,j,_,_,rfl,U,T.H.cl,T.H.nS,rfl,_,_,rfl,rfl,lr,_,_,_,rfl,rfl,bF.of ag,ac,fun v hv=>?_⟩
    obtain⟨z,zs,rfl,ae,Y⟩:=hv.tup
    have ez:=ju Y
    subst ez
    refine⟨_,_,.tup (bN.of ht) (jW _),.tup (ae H) (jW [0,1,1]),tH ii,Ig 0 1 1,_,rfl,_,rfl,?_⟩
    rw[wN,Kz]
    have L:MX.xJ c x=Vbdeam.isOne ii:=by
     unfold MX.xJ
     rw[D,mi h1]
     rfl
    cases hz:Vbdeam.isOne ii with
    | true =>
     rw[L,hz,mr rfl]at k
     exact bj ⟨_,rfl,a,CC,j,_,_,rfl,U,T.H.cl,T.H.nE,rfl,_,_,rfl,rfl,k⟩
    | false =>
     rw[L,hz,ml (by decide)]at k
     exact aN ⟨_,rfl,k⟩
   ·have L:MX.xJ c x=false:=by
     unfold MX.xJ
     rw[mu (fun z=>h1 (mi (by rw[z];rfl))),Bool.false_and]
    rw[L,ml (by decide)]at k
    exact⟨_,rfl,_,rfl,aN ⟨_,rfl,k⟩⟩
end
theorem eY.pop{C R CC:Addr}{H:Hp}{r:Addr}{M:List Addr}{c:Vbdeaa.Code}{p:Nat}{x:Ch}{q:List Ch}{dx lr lw lc a:Addr}{ts ws as:List Addr}(D:eY C R CC H r M c ⟨p,[],x::q⟩ dx lr lw lc ts ws (a::as)) :
  az (off M H) (off (r::lw::lc::as) (L2.upd H lc (.lst (as.reverse.map V.ref))))∧eY C R CC (L2.upd H lc (.lst (as.reverse.map V.ref))) r (r::lw::lc::as) c ⟨p,x.below,q⟩ dx lr lw lc ts ws as∧a∉(r::lw::lc::as) ∧
  ∃F cd fp,(L2.upd H lc (.lst (as.reverse.map V.ref))) a=some (.ins CC F (wR cd (x.start:Nat) (x.middle:Nat) (x.end_:Nat) ((bK (x::q)).length:Nat) fp))∧aX C (off M H) x.cond cd∧j9 C (off M H) x.first fp:=by
 obtain⟨m1,m2,m3,m4,n1,n2,n3,n4⟩:=D.rM
 have nd:=D.nd
 rw[D.mem]at nd
 simp only[List.nodup_cons,j',not_or]at nd
 obtain⟨⟨z1,z2,U,Z⟩,⟨z5,z6,z7⟩,⟨O,S⟩,G,L⟩:=nd
 have out:az (off M H) (off (r::lw::lc::as) (L2.upd H lc (.lst (as.reverse.map V.ref)))):=fun b o e=>by
  have j:=jP e
  refine bU ?_ ?_
  ·rw[aA (show b≠lc from fun z=>j (z▸m3))]
   exact aZ _ _ _ _ e
  ·rw[D.mem]at j
   simp only[j',not_or]at j ⊢
   exact⟨j.1,j.2.1,j.2.2.1,j.2.2.2.2⟩
 have J:ig C CC (off M H) H (x::q) (a::as):=D.cn
 cases J with
 | @cons _ _ _ F cd _ fp g1 g2 g3 Y =>
  have ea:(L2.upd H lc (.lst (as.reverse.map V.ref))) a=H a:=aA (Ne.symm O)
  refine⟨out,⟨rfl,?_,by rw[aA n2];exact D.obj,out _ _ D.rows,D.told.same out,by rw[aA n3];exact D.wl,bZ out D.wn,au,Y.mono out fun b hb=>aA fun z=>?_⟩,?_,F,cd,fp,by rw[ea];exact g1,g2,g3⟩
  ·simp only[List.nodup_cons,j',not_or]
   exact⟨⟨z1,z2,Z⟩,⟨z5,z7⟩,S,L⟩
  ·subst z
   exact S hb
  ·simp only[j',not_or]
   exact⟨Ne.symm U,Ne.symm z6,Ne.symm O,G⟩
theorem CG{C:Addr}{M:List Addr}{H1:Hp}{e:Exp}{D:V}{l:Addr}{as:List Addr}{E:XK}(hM:∀b∈M,∃o,H1 b=some o)(hD:jz (off M H1) e D)(U:off M H1 l=some (.lst (as.map V.ref)))(hp:Paired (aX C (off M H1)) (kids e) as)(j:as.length<2000)
  {x dx:Addr} (hx:H1 x=none) (G:H1 dx=none) (J:dx≠x) {R:Hp→Prop} (k:∀H2,cY M H1 H2→aX C (off M H2) e x→R H2) :
  oR C [.ref x,.int (dZ e),D,.ref l] (L2.upd (L2.upd H1 dx (.own x)) x (.ins C dx [])) (fun v H2=>v=.non∧R H2) E:=by
 have:=gA (C:=C) (E:=E) (Q:=fun v H2=>v=.ref x→R H2) hM hD U hp j (fun y H2 _ kp nd=>fun z=>by cases z;exact k H2 kp nd) x dx hx G J
 obtain⟨x',L,Z,S,Y,F,h1,h2,h3,h4,h5,h6,O⟩:=this
 exact⟨x',L,Z,S,Y,F,h1,h2,h3,h4,h5,h6,fun H' a b=>⟨(O H' a b).1,(O H' a b).2 rfl⟩⟩
theorem X8{c:Bool}{a b v:V}{σ:L2.St}{H:Hp}{Q:VK}(h:(if c=true then a else b)=v)(q:Q v H):if c=true then tC a σ H Q else tC b σ H Q:=by
 cases c with
 | true=>rw[mr rfl]at h;subst h;exact bj q
 | false=>rw[ml (by decide)]at h;subst h;exact aN q
noncomputable def Oc(C R CC Cn:Addr):Sp:=fun vs H Q E=>∃(r:Addr)(M:List Addr)(c:Vbdeaa.Code)(s:MS),vs=[.ref r]∧Rec C R CC H r M c s∧MX.WF c s∧Small s ∧
 (∀t,MX.nine c s=some t→∀j H',Rec C R CC H' r j c t→az (off M H) (off j H')→Q .non H')∧(MX.nine c s=none→bJ Cn (-3) (off M H) E)
noncomputable def Ff(C R CC Cn:Addr):Sp:=fun vs H Q E=>∃(r:Addr)(M:List Addr)(c:Vbdeaa.Code)(s:MS),vs=[.ref r]∧Rec C R CC H r M c s∧MX.Chain c s.pos s.chs∧Small s ∧
 (∀t,MX.settle s.pos s.cur s.chs=some t→∀j H',Rec C R CC H' r j c t→az (off M H) (off j H')→Q .non H')∧(MX.settle s.pos s.cur s.chs=none→bJ Cn (-3) (off M H) E)
theorem ig.cons_inv{C CC:Addr}{G H:Hp}{chs:List Ch}{as:List Addr}(h:ig C CC G H chs as):(chs=[]∧as=[])∨∃x q a j,chs=x::q∧as=a::j:=by
 cases h with
 | nil=>exact .inl ⟨rfl,rfl⟩
 | cons _ _ _ _=>exact .inr ⟨_,_,_,_,rfl,rfl⟩
section
theorem zu:aO ["self","second","choice","form"] ["self"] (aH (cG 9)):=⟨rfl,rfl,rfl,by decide +kernel,rfl,by decide +kernel,by decide +kernel⟩
theorem Tv{f a1 C R CC Cn fI:Addr}{fd a0 dI:FuncData}{fN fT fO fFo fPi fNa:Addr}{dN dT dO dFo dPi dNa:FuncData}(F:kZ K "end_joining" "Recovery.end_joining" (cG 9) f fd)(G:RF P w K mg base C R CC Cn fI dI fN fT fO fFo fPi fNa dN dT dO dFo dPi dNa)(al:Fm K R "place_of_nine" "Recovery.place_of_nine" (cG 10) a1 a0 ["self","choice"]):aL P w K mg base (bc P w) 5 f fd ["self"] (Oc C R CC Cn):=by
 have T:=G.T
 have X:=G.X
 have NN:=G.N
 have GN:aL P w K mg base (bc P w) 1 a1 a0 _ _:=Ti al.F T
 refine dz F zu (fun vs H Q E h=>?_) (fun cdv A outer s H vs Q E hr h=>?_)
 ·obtain⟨_,_,_,_,rfl,_⟩:=h
  rfl
 ·obtain⟨r,M,c,Y,rfl,ai,wf,a5,k,kr⟩:=h
  obtain⟨dx,lr,lw,lc,ts,ws,cs,D⟩:=id ai
  have a2:bB 3 _:=hr.mono (by decide)
  have ba:bB 2 _:=hr.mono (by decide)
  have a4:bB 1 _:=hr.mono (by decide)
  refine⟨_,aj (aR (iC (iB (aJ (pv 0) rfl) (fun _=>rfl))) (ak (cT X.made X.cls X.ok a2 rfl X.m X.b rfl b_)) aF)
   (aj (a_ (i:=1) zu.nd rfl (Or.inl rfl) (eE (pv 0) T.R.cl G.tom G.to hr G.tob .nil passes))
   (aj (a_ (i:=2) zu.nd rfl (Or.inl rfl) (rJ PySem.F.plainAttrs_list PySem.F.slot_list_pop PySem.F.type_list_pop zR (aJ (pv 0) rfl)))
   (aj (aR (aD kh (aJ (pv 0) rfl) (gW (pv 0) T.R.cl al.me GN a4 al.b .nil passes (aa (pv 2) aq)) (aG _)) (ak (cT X.made X.cls X.ok a2 rfl X.m X.b rfl b_)) aF)
   (aj (a_ (i:=3) zu.nd rfl (Or.inl rfl) (eF (jM (lU (aJ (pv 2) rfl))) (aW rfl T.Q.AND) (aW rfl T.Q.OR)))
   (aj (bQ (lR PySem.F.plainAttrs_list PySem.F.slot_list_append PySem.F.type_list_append iw (aJ (pv 0) rfl) (aa (dh NN.mk_ NN.ok ba rfl NN.m NN.b .nil passes (aa (pv 3) (aa ao (aa (b8 (aa (aJ (pv 2) rfl) (aa (pv 1) aq))) aq)))) aq)))
   (ak (fj (pv 0) (aJ (pv 2) rfl) rfl))))))),?_⟩
  refine⟨_,rfl,r,R,dx,_,_,rfl,D.obj,T.R.cl,T.R.nC,rfl,_,.inl ⟨_,bF.of D.cl,rfl⟩,?_⟩
  rcases D.cn.cons_inv with⟨hs,rfl⟩ | ⟨x,q,a,as,hs,rfl⟩
  ·refine bj ((kr ?_).mono (aZ M H)).go
   unfold MX.nine
   rw[hs]
   split<;>first | rfl | (rename_i h;cases h) | (rename_i h _;cases h)
  have ay:(∀e,Y.cur≠[e])→MX.nine c Y=none:=fun aC=>by
   unfold MX.nine
   rw[hs]
   split
   ·rename_i e1 x' r' aT bo
    exact absurd aT (aC e1)
   ·rfl
  have be:=D.cl
  rw[bI]at be ⊢
  rw[show(!(as.reverse.map V.ref++[V.ref a]).isEmpty)=true by simp]
  refine aN ⟨_,rfl,r,dx,_,rfl,D.obj,rfl,r,M,c,Y,rfl,ai,?_,fun aC=>kr (ay aC)⟩
  rintro e he b H1 bi ⟨O,ag,j,S,ah,U,a3,D1⟩ sm
  obtain⟨ew,el,a6⟩:j=lw∧S=lc∧a3=a::as:=by
   have e1:=D1.mem
   rw[D.mem]at e1
   injection e1 with _ e1
   injection e1 with e2 e1
   injection e1 with e3 e1
   exact⟨e2.symm,e3.symm,e1.symm⟩
  subst ew el a6
  have D1:eY C R CC H1 r M c ⟨Y.pos,[],x::q⟩ O ag j S ah U (a::as):=by
   have:=D1
   rw[show({ Y with cur:=[] }:MS)=⟨Y.pos,[],x::q⟩ by rw[←hs]]at this
   exact this
  have af:=D1.cl
  rw[bI]at af
  refine⟨_,rfl,r,R,O,_,_,rfl,D1.obj,T.R.cl,T.R.nC,rfl,.inl ⟨rfl,_,bF.of af⟩,S,_,_,rfl,rfl,af,qi,?_⟩
  rw[List.dropLast_concat]
  obtain⟨out,D2,aM,ae,cd,fp,ha,a8,Z⟩:=D1.pop
  generalize bn:L2.upd H1 S (.lst (as.reverse.map V.ref))=H2 at *
  generalize bp:(r::j::S::as)=M2 at *
  have aS:=wf.chain
  rw[hs]at aS
  obtain⟨c1,c2,c3,c4,c5,c6⟩:=aS
  have aE:=sm.trans out
  have bad:MX.nine c Y=none→bJ Cn (-3) H2 E:=fun h=>(kr h).mono (aE.trans (aZ M2 H2))
  refine⟨_,rfl,r,R,O,_,_,rfl,D2.obj,T.R.cl,T.R.nA,rfl,_,rfl,r,O,_,rfl,D2.obj,rfl,_,rfl,r,O,ag,j,S,a,ae,cd,_,_,ah,c,x,fp,_,rfl,D2.obj,aZ _ _ _ _ D2.rows,D2.told.same (aZ _ _),ha,Z,c4,c6.le,rfl,_,rfl,bC (fun h1=>(bad ?_).go) fun h1=>?_⟩
  ·have J:¬V.int (Y.pos:Nat)=V.int (v8 c x):=by simpa using h1
   unfold MX.nine
   rw[hs,he]
   simp only
   unfold v8 at J
   cases hf:x.first with
   | none =>
    rw[hf]at J
    simp only at J ⊢
    rw[ml]
    rintro⟨h2,h3⟩
    rw[h2,mr rfl]at J
    exact J (by congr 1;lia)
   | some f0 =>
    rw[hf]at J
    simp only at J ⊢
    rw[ml]
    rintro⟨h2,h3⟩
    rw[h2,mr rfl]at J
    exact J (by congr 1;lia)
  have heq:(Y.pos:Int)=v8 c x:=by
   have:V.int (Y.pos:Nat)=V.int (v8 c x):=by simpa using h1
   exact cZ this
  obtain⟨nd,fo,aw,av,ax,ac⟩:∃(nd:Exp)(fo:Int),MX.nine c Y=some ⟨x.end_,nd::x.below,q⟩∧dZ nd=fo∧kids nd=[x.cond,e]∧(∀H',jz H' nd (.int 0))∧fo=(if fp=.non then 4 else 5):=by
   unfold v8 at heq
   unfold MX.nine
   rw[hs,he]
   simp only
   cases hf:x.first with
   | none =>
    rw[hf]at heq Z
    obtain rfl:fp=.non:=Z
    simp only at heq ⊢
    cases hz:MX.isAnd c x with
    | false=>rw[hz,ml (by decide)]at heq;contradiction
    | true =>
     rw[hz,mr rfl]at heq
     rw[mr ⟨rfl,by lia⟩]
     exact⟨_,4,rfl,rfl,rfl,fun _=>rfl,rfl⟩
   | some f0 =>
    rw[hf]at heq Z
    obtain⟨fa,rfl,_⟩:=Z
    simp only at heq ⊢
    cases hz:MX.xJ c x with
    | false=>rw[hz,ml (by decide)]at heq;contradiction
    | true =>
     rw[hz,mr rfl]at heq
     rw[mr ⟨rfl,by lia⟩]
     exact⟨_,5,rfl,rfl,rfl,fun _=>rfl,rfl⟩
  obtain⟨ac,bd⟩:=ac
  refine⟨_,rfl,a,CC,ae,_,_,rfl,ha,T.H.cl,T.H.nF,rfl,_,rfl,X8 (v:=.int (dZ nd)) ?_ ?_⟩
  ·rw[av,bd]
   by_cases z:fp=.non
   ·rw[mr z,mi z];rfl
   ·rw[ml z,mu z];rfl
  refine⟨_,rfl,r,R,O,_,_,rfl,D2.obj,T.R.cl,T.R.nW,rfl,.inl ⟨rfl,_,bF.of D2.wl⟩,_,rfl,_,rfl,a,CC,ae,_,_,rfl,ha,T.H.cl,T.H.nC,rfl,_,rfl,by show 2≤sizeLine;decide,fun L hL=>?_⟩
  have s3:=az.upd (o:=.lst [V.ref cd,V.ref b]) hL
  have K3:=cY.of_same D2.there s3
  have D3:=D2.keep K3
  have LM:L∉M2:=fun z=>by
   obtain⟨o,ho⟩:=D2.there L z
   rw[hL]at ho
   cases ho
  have o3:=out.trans K3.out
  refine fun y dy hy a9 aI=>CG (e:=nd) (as:=[cd,b]) D3.there (ac _) (bU au LM) (by rw[ax];exact .cons (a8.same o3) (.cons (bi.same o3) .nil)) (by show 2<2000;decide) hy a9 aI fun H4 K4 a7=>?_
  have D4:=D3.keep K4
  obtain⟨m1,m2,m3,m4,n1,n2,n3,n4⟩:=D4.rM
  refine⟨j,_,_,rfl,rfl,D4.wl,?_,?_⟩
  ·rw[ap,List.length_reverse,←Paired.length D4.wn]
   have h0:=a5.wait
   unfold waitOf at h0 ⊢
   rw[hs,he]at h0
   simp only[bK,jp,io]at h0 ⊢
   exact l6 (by lia:_≤1000) (by decide)
  have ho:off M2 (L2.upd H4 j (.lst (U.reverse.map V.ref++[V.ref y])))=off M2 H4:=gw m2
  have D5:eY C R CC (L2.upd H4 j (.lst (U.reverse.map V.ref++[V.ref y]))) r M2 c ⟨Y.pos,nd::x.below,q⟩ O ag j S ah (y::U) as :=
   D4.Oh (s':=⟨Y.pos,nd::x.below,q⟩) (fun z _ hz=>aA hz) (by rw[ho];exact az.refl _) rfl rfl (by rw[au,bI]) (by rw[ho];exact .cons a7 D4.wn)
  have bb:(L2.upd H4 j (.lst (U.reverse.map V.ref++[V.ref y]))) a=some (.ins CC ae (wR cd (x.start:Nat) (x.middle:Nat) (x.end_:Nat) ((bK (x::q)).length:Nat) fp)):=by
   rw[aA (show a≠j from fun z=>aM (z▸m2))]
   exact aZ _ _ _ _ (K4.out _ _ (K3.out _ _ (bU ha aM)))
  refine⟨_,rfl,a,CC,ae,_,_,rfl,bb,T.H.cl,T.H.nE,rfl,_,rfl,r,R,O,_,rfl,D5.obj,T.R.cl,T.R.nA,by show 4<1000;decide,?_⟩
  refine k _ aw M2 _ ⟨O,ag,j,S,ah,y::U,as,D5.RZ x.end_⟩ ?_
  show az (off M H) (off M2 (L2.upd _ r _))
  rw[gw m1,ho]
  exact aE.trans (K3.out.trans K4.out)
end
section
theorem Fq:aO ["self","second","choice"] ["self"] (aH (cG 11)):=⟨rfl,rfl,rfl,by decide +kernel,rfl,by decide +kernel,by decide +kernel⟩
theorem Tw{f C R CC Cn fI:Addr}{fd dI:FuncData}{fN fT fO fFo fPi fNa:Addr}{dN dT dO dFo dPi dNa:FuncData}(F:kZ K "end_ifs" "Recovery.end_ifs" (cG 11) f fd)(G:RF P w K mg base C R CC Cn fI dI fN fT fO fFo fPi fNa dN dT dO dFo dPi dNa):aL P w K mg base (bc P w) 5 f fd ["self"] (Ff C R CC Cn):=by
 have T:=G.T
 have X:=G.X
 have NN:=G.N
 refine dz F Fq (fun vs H Q E h=>?_) (fun cdv A outer s H vs Q E hr h=>?_)
 ·obtain⟨_,_,_,_,rfl,_⟩:=h
  rfl
 ·obtain⟨r,M,c,U,rfl,aS,bb,a5,k,kr⟩:=h
  have bn:bB 2 _:=hr.mono (by decide)
  refine⟨_,ak (lM rH (PW.pt (gb (iB (aJ (pv 0) rfl) (fun _=>rfl)) (dX (aD aY (aJ (pv 0) rfl) (aJ (aQ bA (aJ (pv 0) rfl) (dY cM ao) (fun _ _=>rfl)) rfl) (aG _)))))
   (aj (a_ (i:=1) Fq.nd rfl (Or.inl rfl) (eE (pv 0) T.R.cl G.tom G.to hr G.tob .nil passes))
   (aj (a_ (i:=2) Fq.nd rfl (Or.inl rfl) (rJ PySem.F.plainAttrs_list PySem.F.slot_list_pop PySem.F.type_list_pop zR (aJ (pv 0) rfl)))
   (ak (bQ (lR PySem.F.plainAttrs_list PySem.F.slot_list_append PySem.F.type_list_append iw (aJ (pv 0) rfl) (aa (dh NN.mk_ NN.ok bn rfl NN.m NN.b .nil passes (aa (aW rfl T.Q.IF) (aa ao (aa (b8 (aa (aJ (pv 2) rfl) (aa (aJ (pv 2) rfl) (aa (pv 1) aq)))) aq)))) aq))))))),?_⟩
  refine⟨fun m σ H'=>∃(v1 v2:Option V)(M':List Addr)(s':MS),σ=[some (.ref r),v1,v2]∧m=s'.chs.length∧Rec C R CC H' r M' c s'∧s'.pos=U.pos∧MX.Chain c s'.pos s'.chs∧Small s'∧MX.settle U.pos U.cur U.chs=MX.settle s'.pos s'.cur s'.chs∧az (off M H) (off M' H'),
   ⟨_,none,none,M,U,rfl,rfl,aS,rfl,bb,a5,rfl,az.refl _⟩,?_⟩
  rintro m σ H' ⟨v1,v2,M',s',rfl,rfl,J,a1,a3,Y,j,sm⟩
  obtain⟨dx,lr,lw,lc,ts,ws,cs,D⟩:=id J
  refine⟨_,rfl,r,R,dx,_,_,rfl,D.obj,T.R.cl,T.R.nC,rfl,_,.inl ⟨_,bF.of D.cl,rfl⟩,?_⟩
  rcases D.cn.cons_inv with⟨Z,rfl⟩ | ⟨x,q,a,as,Z,rfl⟩
  ·refine aN (aN ?_)
   rw[Z]at j
   have j:MX.settle U.pos U.cur U.chs=some ⟨s'.pos,s'.cur,[]⟩:=j
   have:=k _ j M' H' (by rw[←Z];exact J) sm
   exact this
  have a2:=D.cl
  rw[bI]at a2 ⊢
  rw[show(!(as.reverse.map V.ref++[V.ref a]).isEmpty)=true by simp]
  have aE:=D.cn
  rw[Z]at aE
  cases aE with
  | @cons _ _ _ a7 cd _ fp g1 g2 g3 g4 =>
   refine bj ⟨_,rfl,r,R,dx,_,_,rfl,D.obj,T.R.cl,T.R.nA,rfl,_,rfl,r,R,dx,_,_,rfl,D.obj,T.R.cl,T.R.nC,rfl,_,rfl,lc,_,_,_,rfl,rfl,bF.of a2,qM,a,CC,a7,_,_,rfl,g1,T.H.cl,T.H.nE,rfl,rfl,_,rfl,bC (fun h1=>?_) fun h1=>?_⟩
   ·have h1:s'.pos=x.end_:=by
     have:=cZ (mn h1)
     lia
    have ch:=a3
    rw[Z]at ch
    obtain⟨c1,c2,c3,c4,c5,c6⟩:=ch
    obtain⟨f0,hf⟩:∃f0,x.first=some f0:=by
     cases hf:x.first with
     | none=>rw[hf]at c2;simp only at c2;lia
     | some f0=>exact⟨f0,rfl⟩
    have ah:∀e,s'.cur=[e]→MX.settle s'.pos s'.cur s'.chs=MX.settle s'.pos (.cond x.cond f0 e::x.below) q:=fun e he=>by
     rw[Z,he]
     conv=>lhs;unfold MX.settle
     rw[mr h1,hf]
    have ax:(∀e,s'.cur≠[e])→MX.settle s'.pos s'.cur s'.chs=none:=fun ay=>by
     rw[Z]
     unfold MX.settle
     rw[mr h1]
     split
     ·rename_i e1 f1 a0 _
      exact absurd a0 (ay e1)
     ·rfl
    refine⟨fun σ' al=>∃m',m'<s'.chs.length∧∃(v1 v2:Option V)(M':List Addr)(s':MS),σ'=[some (.ref r),v1,v2]∧m'=s'.chs.length∧Rec C R CC al r M' c s'∧s'.pos=U.pos∧MX.Chain c s'.pos s'.chs∧Small s'∧MX.settle U.pos U.cur U.chs=MX.settle s'.pos s'.cur s'.chs∧az (off M H) (off M' al),fun σ' al h=>h,?_⟩
    refine⟨_,rfl,r,dx,_,rfl,D.obj,rfl,r,M',c,s',rfl,J,?_,fun ay=>(kr (by rw[j];exact ax ay)).mono sm⟩
    rintro e he b H1 bo ⟨ae,ai,O,S,av,ac,a4,D1⟩ a9
    obtain⟨ew,el,a6⟩:O=lw∧S=lc∧a4=a::as:=by
     have e1:=D1.mem
     rw[D.mem]at e1
     injection e1 with _ e1
     injection e1 with e2 e1
     injection e1 with e3 e1
     exact⟨e2.symm,e3.symm,e1.symm⟩
    subst ew el a6
    have D1:eY C R CC H1 r M' c ⟨s'.pos,[],x::q⟩ ae ai O S av ac (a::as):=by
     have:=D1
     rw[show({ s' with cur:=[] }:MS)=⟨s'.pos,[],x::q⟩ by rw[←Z]]at this
     exact this
    have af:=D1.cl
    rw[bI]at af
    refine⟨_,rfl,r,R,ae,_,_,rfl,D1.obj,T.R.cl,T.R.nC,rfl,.inl ⟨rfl,_,bF.of af⟩,S,_,_,rfl,rfl,af,qi,?_⟩
    rw[List.dropLast_concat]
    obtain⟨out,D2,aM,ag,aI,bq,ha,ba,aC⟩:=D1.pop
    rw[hf]at aC
    obtain⟨fa,rfl,bd⟩:=aC
    generalize bp:L2.upd H1 S (.lst (as.reverse.map V.ref))=H2 at *
    generalize br:(r::O::S::as)=M2 at *
    refine⟨_,rfl,r,R,ae,_,_,rfl,D2.obj,T.R.cl,T.R.nW,rfl,.inl ⟨rfl,_,bF.of D2.wl⟩,_,rfl,a,CC,ag,_,_,rfl,ha,T.H.cl,T.H.nC,rfl,_,rfl,a,CC,ag,_,_,rfl,ha,T.H.cl,T.H.nF,rfl,_,rfl,by show 3≤sizeLine;decide,fun L hL=>?_⟩
    have s3:=az.upd (o:=.lst [V.ref aI,V.ref fa,V.ref b]) hL
    have K3:=cY.of_same D2.there s3
    have D3:=D2.keep K3
    have LM:L∉M2:=fun z=>by
     obtain⟨o,ho⟩:=D2.there L z
     rw[hL]at ho
     cases ho
    have o3:=out.trans K3.out
    refine fun y dy hy be aT=>CG (e:=.cond x.cond f0 e) (as:=[aI,fa,b]) D3.there rfl (bU au LM) (.cons (ba.same o3) (.cons (bd.same o3) (.cons (bo.same o3) .nil))) (by show 3<2000;decide) hy be aT fun H4 K4 a8=>?_
    have D4:=D3.keep K4
    obtain⟨m1,m2,m3,m4,n1,n2,n3,n4⟩:=D4.rM
    refine⟨O,_,_,rfl,rfl,D4.wl,?_,?_⟩
    ·rw[ap,List.length_reverse,←Paired.length D4.wn]
     have h0:=Y.wait
     unfold waitOf at h0 ⊢
     rw[Z,he]at h0
     simp only[bK,jp,io]at h0 ⊢
     exact l6 (by lia:_≤1000) (by decide)
    have ho:off M2 (L2.upd H4 O (.lst (ac.reverse.map V.ref++[V.ref y])))=off M2 H4:=gw m2
    have D5:eY C R CC (L2.upd H4 O (.lst (ac.reverse.map V.ref++[V.ref y]))) r M2 c ⟨s'.pos,.cond x.cond f0 e::x.below,q⟩ ae ai O S av (y::ac) as :=
     D4.Oh (s':=⟨s'.pos,.cond x.cond f0 e::x.below,q⟩) (fun z _ hz=>aA hz) (by rw[ho];exact az.refl _) rfl rfl (by rw[au,bI]) (by rw[ho];exact .cons a8 D4.wn)
    refine⟨q.length,by rw[Z,io];lia,_,_,M2,⟨s'.pos,.cond x.cond f0 e::x.below,q⟩,rfl,rfl,⟨ae,ai,O,S,av,y::ac,as,D5⟩,a1,by rw[h1];exact c6,?_,by rw[j];exact ah e he,?_⟩
    ·unfold Small at Y ⊢
     rw[Z,he]at Y
     simp only[MX.cX,MX.mK,MX.Xb,hf,io,Vbdeam.size]at Y ⊢
     lia
    ·rw[ho]
     exact(sm.trans a9).trans (o3.trans K4.out)
   ·have bi:s'.pos≠x.end_:=fun z=>h1 (mi (by rw[z]))
    have aw:MX.settle U.pos U.cur U.chs=some s':=by
     rw[j,Z]
     conv=>lhs;unfold MX.settle
     rw[ml bi,←Z]
    exact k _ aw M' H' J sm
end
theorem uP{n:Nat}:∀(m:Nat){l:List Int}{c:Vbdeaa.Code},l.length≤m→Cut n l c→c.length≤l.length
 | 0,l,c,F,h=>by
  have:l=[]:=List.length_eq_zero_iff.mp (by lia)
  subst this
  have:c=[]:=by
   have:=h.1
   rw[Vbdeaa.codeOf]at this
   cases this
   rfl
  subst this
  exact i' _
 | m+1,l,c,F,h=>by
  by_cases j:l=[]
  ·subst j
   exact uP m (Nat.zero_le _) h
  ·obtain⟨i,r,G,h1,_,D,rfl⟩:=MX.JG j h
   have z:=MX.Jq h1
   have J:=MX.Az i
   have L:l.length=i.told.length+r.length:=by rw[z,jp]
   have:=uP m (l:=r) (by lia) D
   rw[io]
   lia
noncomputable def Ey(C R CC Cn:Addr):Sp:=fun vs H Q E=>∃(r:Addr)(M:List Addr)(c:Vbdeaa.Code)(s:MS)(n:Nat),vs=[.ref r]∧Rec C R CC H r M c s∧MX.WF c s∧MX.RG s∧c.length≤900∧s.pos<c.length∧n≤8∧(∀i∈c,iJ n i=true) ∧
 (∀t,MX.step n c s=some t→∀j H',Rec C R CC H' r j c t→az (off M H) (off j H')→Q .non H')∧(MX.step n c s=none→bJ Cn (-3) (off M H) E)
structure SF (P:Program) (w:World) (K:PySem.W.Frag) (mg:Str→Option Value) (base:Heap) (C R CC Cn:Addr) (f1 f2 f3 f4 f5:Addr) (d1 d2 d3 d4 d5:FuncData):Prop where
 T:RT K mg C R CC
 bg:aL P w K mg base (bc P w) 5 f1 d1 ["self","length"] (Ie C R CC Cn)
 bgm:Meth K R "begin_choice" f1
 bgb:Binds K d1 ["self","length"] []
 go:aL P w K mg base (bc P w) 5 f2 d2 ["self"] (N_ C R CC Cn)
 gom:Meth K R "go_on_choice" f2
 gob:Binds K d2 ["self"] []
 ej:aL P w K mg base (bc P w) 5 f3 d3 ["self"] (Oc C R CC Cn)
 ejm:Meth K R "end_joining" f3
 ejb:Binds K d3 ["self"] []
 tp:aL P w K mg base (bc P w) 6 f4 d4 ["self","row"] (u9 C R CC Cn)
 tpm:Meth K R "take_plain" f4
 tpb:Binds K d4 ["self","row"] []
 ei:aL P w K mg base (bc P w) 5 f5 d5 ["self"] (Ff C R CC Cn)
 eim:Meth K R "end_ifs" f5
 eib:Binds K d5 ["self"] []
section
theorem Om:aO ["self","row"] ["self"] (aH (cG 1)):=⟨rfl,rfl,rfl,by decide +kernel,rfl,by decide +kernel,by decide +kernel⟩
theorem S9{f C R CC Cn f1 f2 f3 f4 f5:Addr}{fd d1 d2 d3 d4 d5:FuncData}(F:kZ K "step" "Recovery.step" (cG 1) f fd)(G:SF P w K mg base C R CC Cn f1 f2 f3 f4 f5 d1 d2 d3 d4 d5):aL P w K mg base (bc P w) 7 f fd ["self"] (Ey C R CC Cn):=by
 have T:=G.T
 refine dz F Om (fun vs H Q E h=>?_) (fun cdv A outer s H vs Q E hr h=>?_)
 ·obtain⟨_,_,_,_,_,rfl,_⟩:=h
  rfl
 ·obtain⟨r,M,c,ms,n,rfl,Z,wf,hsz,a5,av,ay,aw,k,kr⟩:=h
  obtain⟨dx,lr,lw,lc,ts,ws,cs,D⟩:=id Z
  have ag:bB 5 _:=hr.mono (by decide)
  refine⟨_,aj (a_ (i:=1) Om.nd rfl (Or.inl rfl) (aQ bA (aJ (pv 0) rfl) (aJ (pv 0) rfl) (fun _ _=>rfl)))
   (aj (aR (aD aY (aQ aU (pv 1) ao (fun _ _=>rfl)) ao (aG _)) (ak (bQ (gW (pv 0) T.R.cl G.bgm G.bg ag G.bgb .nil passes (aa (aQ aU (pv 1) ao (fun _ _=>rfl)) aq))))
    (ak (aR (aD aY (aQ aU (pv 1) ao (fun _ _=>rfl)) ao (aG _)) (ak (bQ (eE (pv 0) T.R.cl G.gom G.go ag G.gob .nil passes)))
     (ak (aR (aD aY (aQ aU (pv 1) ao (fun _ _=>rfl)) ao (aG _)) (ak (bQ (eE (pv 0) T.R.cl G.ejm G.ej ag G.ejb .nil passes)))
      (ak (bQ (gW (pv 0) T.R.cl G.tpm G.tp hr G.tpb .nil passes (aa (pv 1) aq)))))))))
   (ak (bQ (eE (pv 0) T.R.cl G.eim G.ei ag G.eib .nil passes)))),?_⟩
  obtain⟨i,hi⟩:∃i,c[ms.pos]?=some i:=⟨_,ln av⟩
  obtain⟨t,aE,ht⟩:=D.row hi
  have af:=aZ _ _ _ _ ht
  have hok:=aw i (mw hi)
  have ah:Small ms:=by
   unfold Small
   have:MX.cX ms.cur+MX.mK ms.chs+ms.chs.length≤ms.pos:=hsz
   lia
  refine⟨_,rfl,r,R,dx,_,_,rfl,D.obj,T.R.cl,T.R.nR,rfl,_,rfl,r,R,dx,_,_,rfl,D.obj,T.R.cl,T.R.nA,rfl,lr,_,_,_,rfl,rfl,bF.of (aZ _ _ _ _ D.rows),aE,?_⟩
  have Y:MX.step n c ms=(MX.core n c i ms).bind fun u=>MX.settle u.pos u.cur u.chs:=by
   unfold MX.step
   rw[hi]
  have fin:∀(u:MS)(M1:List Addr)(H1:Hp),MX.core n c i ms=some u→Rec C R CC H1 r M1 c u→az (off M H) (off M1 H1)→Ff C R CC Cn [.ref r] H1 (fun _ H2=>Q .non H2) E:=fun u M1 H1 hu z O=>by
   have al:=MX.jZ wf hi hu
   have hz:=MX.Dq wf hsz hu
   have a4:=al.le
   refine⟨r,M1,c,u,rfl,z,al,by unfold Small;lia,fun t2 aI M2 H2 ai ax=>?_,fun aM=>(kr ?_).mono O⟩
   ·exact k t2 (by rw[Y,hu];exact aI) M2 H2 ai (O.trans ax)
   ·rw[Y,hu]
    exact aM
  have U:MX.core n c i ms=none→bJ Cn (-3) (off M H) E:=fun h=>kr (by rw[Y,h];rfl)
  refine⟨_,rfl,t,_,_,_,rfl,rfl,bN.of af,uX i,rfl,_,rfl,?_⟩
  have J:∀{M1:List Addr}{H1:Hp}{u:MS},Rec C R CC H1 r M1 c u→∃L S,H1 r=some (.ins R L S)∧S.lookup ("end_ifs" : Str)=none:=fun⟨L,a1,a0,a3,a2,aT,aS,D1⟩=>⟨L,_,D1.obj,rfl⟩
  cases i with
  | zero m =>
   refine bj ⟨_,rfl,r,dx,_,rfl,D.obj,rfl,_,rfl,t,_,_,_,rfl,rfl,bN.of af,at_of (j:=1) rfl rfl,r,M,c,ms,m,rfl,Z,wf,ah,fun u hu M1 H1 z O=>?_,fun h=>U h⟩
   obtain⟨L,S,ae,ac⟩:=J z
   exact⟨_,rfl,r,L,S,rfl,ae,ac,fin u M1 H1 hu z O⟩
  | jump m =>
   refine aN ⟨_,rfl,t,_,_,_,rfl,rfl,bN.of af,uX _,rfl,_,rfl,bj ⟨_,rfl,r,dx,_,rfl,D.obj,rfl,r,M,c,ms,rfl,Z,wf,fun u hu H1 z O=>?_,fun h=>U h⟩⟩
   obtain⟨L,S,ae,ac⟩:=J z
   exact⟨_,rfl,r,L,S,rfl,ae,ac,fin u M H1 hu z O⟩
  | truth =>
   refine aN ⟨_,rfl,t,_,_,_,rfl,rfl,bN.of af,uX _,rfl,_,rfl,aN ⟨_,rfl,t,_,_,_,rfl,rfl,bN.of af,uX _,rfl,_,rfl,bj ⟨_,rfl,r,dx,_,rfl,D.obj,rfl,r,M,c,ms,rfl,Z,wf,ah,fun u hu M1 H1 z O=>?_,fun h=>U h⟩⟩⟩
   obtain⟨L,S,ae,ac⟩:=J z
   exact⟨_,rfl,r,L,S,rfl,ae,ac,fin u M1 H1 hu z O⟩
  | _ =>
   refine aN ⟨_,rfl,t,_,_,_,rfl,rfl,bN.of af,uX _,rfl,_,rfl,aN ⟨_,rfl,t,_,_,_,rfl,rfl,bN.of af,uX _,rfl,_,rfl,aN ⟨_,rfl,r,dx,_,rfl,D.obj,rfl,_,rfl,r,t,M,c,ms,n,_,rfl,Z,ht,hok,ay,trivial,ah,fun st aC H1 z O=>?_,fun h=>U (by unfold MX.core;simp only;rw[h];rfl)⟩⟩⟩
   obtain⟨L,S,ae,ac⟩:=J z
   exact⟨_,rfl,r,L,S,rfl,ae,ac,fin ⟨ms.pos+1,st,ms.chs⟩ M H1 (by unfold MX.core;simp only;rw[aC];rfl) z O⟩
end
noncomputable def u_(K:PySem.W.Frag)(C Cn:Addr):Sp:=fun vs H Q E=>∃(l:Addr)(n:Nat)(code:List Int),vs=[.ref l,.int n]∧bF K H l (vI code)∧code.length≤500∧n≤8 ∧
 (∀e,Vbdeam.expOf n code=some e→∀a H',az H H'→aX C H' e a→Q (.ref a) H')∧(Vbdeam.expOf n code=none→bJ Cn (-3) H E)
noncomputable abbrev pX:Stmt:=top 118
structure ZF (P:Program) (w:World) (K:PySem.W.Frag) (mg:Str→Option Value) (base:Heap) (C R CC Cn:Addr) (f1 f2 f3 f4:Addr) (d1 d2 d3 d4:FuncData):Prop where
 T:RT K mg C R CC
 inf:Fn K mg "instructions_in" O5 f1 d1 ["code","n"]
 ino:aL P w K mg base (bc P w) 4 f1 d1 ["code","n"] (N8 K Cn)
 rmk:Mk K R f2
 ro:aL P w K mg base (bc P w) 1 f2 d2 ["self","rows"] (NB R)
 rb:Binds K d2 ["self","rows"] []
 rm:mg "Recovery"=some (.ref R)
 st:aL P w K mg base (bc P w) 7 f3 d3 ["self"] (Ey C R CC Cn)
 stm:Meth K R "step" f3
 stb:Binds K d3 ["self"] []
 to:aL P w K mg base (bc P w) 4 f4 d4 ["self"] (jD C R CC Cn)
 tom:Meth K R "take_only" f4
 tob:Binds K d4 ["self"] []
section
theorem Bm:aO ["code","n","recovery"] ["code","n"] (aH pX):=⟨rfl,rfl,rfl,by decide +kernel,rfl,by decide +kernel,by decide +kernel⟩
theorem KQ{f C R CC Cn f1 f2 f3 f4:Addr}{fd d1 d2 d3 d4:FuncData}(F:Fn K mg "simple_expression_of" pX f fd ["code","n"])(G:ZF P w K mg base C R CC Cn f1 f2 f3 f4 d1 d2 d3 d4):aL P w K mg base (bc P w) 8 f fd ["code","n"] (u_ K C Cn):=by
 have T:=G.T
 refine dz F.F Bm (fun vs H Q E h=>?_) (fun cdv A outer s H vs Q E hr h=>?_)
 ·obtain⟨_,_,_,rfl,_⟩:=h
  rfl
 ·obtain⟨l,n,code,rfl,hl,ai,aE,k,kr⟩:=h
  have al:bB 4 _:=hr.mono (by decide)
  have aT:bB 2 _:=hr.mono (by decide)
  refine⟨_,aj (a_ (i:=2) Bm.nd rfl (Or.inl rfl) (dh G.rmk G.ro aT rfl G.rm G.rb .nil passes (aa (aK G.ino al rfl G.inf.m G.inf.F.kp G.inf.b .nil passes (aa (pv 0) (aa (pv 1) aq))) aq)))
   (aj (lM rH (aD iG (aJ (pv 2) rfl) (bH bD (by rfl) T.P.len (by decide +kernel) (aa (aJ (pv 2) rfl) aq)) (aG _)) (ak (bQ (eE (pv 2) T.R.cl G.stm G.st hr G.stb .nil passes))))
   (ak (aB (eE (pv 2) T.R.cl G.tom G.to al G.tob .nil passes)))),?_⟩
  refine⟨_,rfl,_,rfl,l,n,code,rfl,hl,by lia,fun c hc R0 ts H1 a8 s1 aC aM a4=>?_,fun U=>kr (MX.Hk U)⟩
  have bb:c.length≤500:=lS (uP _ (i' _) hc) ai
  have S:=MX.Mh hc
  intro x Y hx ay a7
  refine⟨x,Y,R0,rfl,au,fun H2 lw lc sx J j ax aS a1 aI=>⟨rfl,?_⟩⟩
  have ac:lw≠x:=fun z=>by rw[z,au]at J;cases J
  have af:lc≠x:=fun z=>by rw[z,au]at j;cases j
  have a2:lw≠Y:=fun z=>by rw[aA ac,z,au]at J;cases J
  have a0:lc≠Y:=fun z=>by rw[aA af,z,au]at j;cases j
  rw[aA ac,aA a2]at J
  rw[aA af,aA a0]at j
  have out:az H1 (off [x,lw,lc] H2):=fun b o q=>by
   have bx:=aP q hx
   refine bU (sx b o (by rw[aA bx,aA (aP q ay)];exact q) bx) ?_
   simp only[j',l5,or_false,not_or]
   exact⟨bx,aP q J,aP q j⟩
  have D0:eY C R CC H2 x [x,lw,lc] c ⟨0,[],[]⟩ Y R0 lw lc ts [] [] :=
   ⟨rfl,by simp only[List.nodup_cons,j',l5,or_false,not_or,List.nodup_nil,not_false_eq_true,and_true];exact⟨⟨Ne.symm ac,Ne.symm af⟩,ax⟩,aI,out _ _ aC,aM.same out,aS,.nil,a1,.nil⟩
  refine⟨fun m σ H'=>∃(Z:List Addr)(s':MS),σ=[some (.ref l),some (.int n),some (.ref x)]∧m=c.length-s'.pos∧Rec C R CC H' x Z c s'∧MX.WF c s'∧MX.RG s'∧MX.nY n c (c.length+1) s'=Vbdeam.tree n c∧az H (off Z H'),
   ⟨_,[x,lw,lc],⟨0,[],[]⟩,rfl,rfl,⟨_,_,_,_,_,_,_,D0⟩,MX.uA c,MX.Bk,MX.Lf,s1.trans out⟩,?_⟩
  rintro m σ H' ⟨Z,s',rfl,rfl,L,wf,hsz,O,sm⟩
  obtain⟨dx,lr,a6,a9,ba,ws',a5,D⟩:=id L
  refine⟨_,rfl,x,R,dx,_,_,rfl,D.obj,T.R.cl,T.R.nA,rfl,_,rfl,x,R,dx,_,_,rfl,D.obj,T.R.cl,T.R.nR,rfl,lr,_,rfl,.inl (bF.of (aZ _ _ _ _ D.rows)),_,_,rfl,rfl,_,rfl,?_⟩
  rw[D.len]
  refine bC (fun h1=>?_) fun h1=>?_
  ·have h1:s'.pos<c.length:=by
    have:=mn h1
    lia
   refine⟨fun σ' ae=>∃m',m'<c.length-s'.pos∧∃(Z:List Addr)(s':MS),σ'=[some (.ref l),some (.int n),some (.ref x)]∧m'=c.length-s'.pos∧Rec C R CC ae x Z c s'∧MX.WF c s'∧MX.RG s'∧MX.nY n c (c.length+1) s'=Vbdeam.tree n c∧az H (off Z ae),fun σ' ae h=>h,?_⟩
   refine⟨_,rfl,x,dx,_,rfl,D.obj,rfl,x,Z,c,s',n,rfl,L,wf,hsz,by lia,h1,aE,hc.2,fun t ht M2 bd ag aw=>?_,fun U=>(kr ?_).mono sm⟩
   ·obtain⟨p1,p2,_⟩:=MX.jC wf ht
    refine⟨c.length-t.pos,by lia,M2,t,rfl,rfl,ag,p2,MX.Bg wf hsz ht,?_,sm.trans aw⟩
    rw[←O]
    conv=>rhs;unfold MX.nY
    rw[mr h1,ht]
    exact MX.tR _ _ t p2 (by lia) (by lia)
   ·rw[S,←O]
    unfold MX.nY
    rw[mr h1,U]
    rfl
  ·have h1:¬s'.pos<c.length:=fun z=>h1 (mi (by lia))
   have ah:MX.only s'.cur=Vbdeam.tree n c:=by
    rw[←O]
    unfold MX.nY
    rw[ml h1]
   refine⟨_,rfl,x,dx,_,rfl,D.obj,rfl,x,Z,c,s',rfl,L,fun e he a H3 av _ a3=>?_,fun U=>(kr ?_).mono sm⟩
   ·refine k e ?_ a H3 (sm.trans (a3.trans (aZ _ _))) (av.same (aZ _ _))
    rw[S,←ah,he]
    rfl
   ·rw[S,←ah]
    unfold MX.only
    split
    ·rename_i e he
     exact absurd he (U e)
    ·rfl
end
end SB
end
section
namespace SB
open PySem PySem.Spec PyProof.Rows L2 XL
open Vbdeaa (Text Exp Exps Un Bin Ins)
variable {P:Program} {w:World} {K:PySem.W.Frag} {mg:Str→Option Value} {base:Heap}
structure CS (K:PySem.W.Frag) (mg:Str→Option Value):Prop where
 MP:GC K mg "MOST_PARAMETERS" (.i 8)
 LC:GC K mg "LONGEST_CODE" (.i 500)
 HI:GC K mg "HIGHEST" (.i 32)
 DE:GC K mg "DEEPEST" (.i 32)
 len:mg "len"=none
noncomputable def mD(e:Exp):Prop:=e.height≤32∧cP e≤32
noncomputable def NT(j:Addr):Sp:=fun vs H Q E=>∃n:Int,vs=[.int n]∧((0≤n∧n≤8)→Q .non H)∧(¬(0≤n∧n≤8)→bJ j (-1) H E)
noncomputable def N6(K:PySem.W.Frag)(Cl:Addr):Sp:=fun vs H Q E=>∃(l:Addr)(xs:List V),vs=[.ref l]∧bF K H l xs∧(xs.length≤500→Q .non H)∧(¬xs.length≤500→bJ Cl (-2) H E)
noncomputable def zm(C j:Addr):Sp:=fun vs H Q E=>∃(a:Addr)(e:Exp),vs=[.ref a]∧aX C H e a∧(mD e→∀H',az H H'→Q .non H')∧(¬mD e→bJ j (-4) H E)
noncomputable def yW(K:PySem.W.Frag)(C Cl Cn j:Addr):Sp:=fun vs H Q E=>∃(l:Addr)(n:Nat)(code:List Int),vs=[.int n,.ref l]∧bF K H l (vI code)∧n≤8 ∧
 (¬code.length≤500→bJ Cl (-2) H E)∧(code.length≤500→Vbdeam.expOf n code=none→bJ Cn (-3) H E) ∧
 (∀e,code.length≤500→Vbdeam.expOf n code=some e→(¬mD e→bJ j (-4) H E)∧(mD e→∀a H',az H H'→aX C H' e a→Q (.ref a) H'))
noncomputable def Od:Sp:=fun vs H Q _=>∃(l:Addr)(xs:List V),vs=[.ref l]∧H l=some (.lst xs)∧xs.length≤1000000∧Ry H Q (.int 0 :: .int (xs.length:Nat)::xs)
noncomputable abbrev OJ:Stmt:=top 122
noncomputable abbrev O3:Stmt:=top 123
noncomputable abbrev vN:Stmt:=top 124
noncomputable abbrev vC:Stmt:=top 125
noncomputable abbrev BR:Stmt:=top 126
section
theorem Yc:aO ["n"] ["n"] (aH OJ):=⟨rfl,rfl,rfl,by decide +kernel,rfl,by decide +kernel,by decide +kernel⟩
theorem WM{f j fI:Addr}{fd dI:FuncData}(F:Fn K mg "check_parameters" OJ f fd ["n"])(X:XC P w K mg base "WrongParameterCount" j fI dI (-1))(S:CS K mg):aL P w K mg base (bc P w) 4 f fd ["n"] (NT j):=by
 refine dz F.F Yc (fun vs H Q E h=>?_) (fun cdv A outer s H vs Q E G h=>?_)
 ·obtain⟨_,rfl,_⟩:=h
  rfl
 ·obtain⟨n,rfl,k,D⟩:=h
  refine⟨_,ak (aR (iC (vR kj kj ao (pv 0) (aW rfl S.MP))) (ak (cT X.made X.cls X.ok G rfl X.m X.b rfl b_)) aF),?_⟩
  refine⟨_,rfl,0,n,rfl,rfl,_,rfl,bC (fun h1=>?_) fun h1=>?_⟩
  ·have h1:0≤n:=mn h1
   refine⟨n,8,rfl,rfl,_,rfl,?_⟩
   by_cases h2:n≤8
   ·rw[mi h2]
    exact aN (k ⟨h1,h2⟩)
   ·rw[mu h2]
    exact bj (D fun z=>h2 z.2).go
  ·refine⟨_,rfl,bj ?_⟩
   exact(D fun z=>h1 (mi z.1)).go
theorem Yh:aO ["numbers"] ["numbers"] (aH O3):=⟨rfl,rfl,rfl,by decide +kernel,rfl,by decide +kernel,by decide +kernel⟩
theorem WQ{f Cl fI:Addr}{fd dI:FuncData}(F:Fn K mg "check_length" O3 f fd ["numbers"])(X:XC P w K mg base "CodeTooLong" Cl fI dI (-2))(S:CS K mg):aL P w K mg base (bc P w) 4 f fd ["numbers"] (N6 K Cl):=by
 refine dz F.F Yh (fun vs H Q E h=>?_) (fun cdv A outer s H vs Q E G h=>?_)
 ·obtain⟨_,_,rfl,_⟩:=h
  rfl
 ·obtain⟨l,xs,rfl,j,k,D⟩:=h
  refine⟨_,ak (aR (aD km (bH bD (by rfl) S.len (by decide +kernel) (aa (pv 0) aq)) (aW rfl S.LC) (aG _)) (ak (cT X.made X.cls X.ok G rfl X.m X.b rfl b_)) aF),?_⟩
  refine⟨_,rfl,l,xs,rfl,.inl j,_,_,rfl,rfl,_,rfl,bC (fun h1=>?_) fun h1=>?_⟩
  ·have h1:(500:Int)<xs.length:=mn h1
   exact(D (by lia)).go
  ·have h1:¬(500:Int)<xs.length:=fun z=>h1 (mi z)
   exact k (by lia)
theorem Sg:aO ["node"] ["node"] (aH vN):=⟨rfl,rfl,rfl,by decide +kernel,rfl,by decide +kernel,by decide +kernel⟩
theorem Qt{f C O fI fN:Addr}{fd dI dN:FuncData}(F:Fn K mg "check_depth" vN f fd ["node"])(J:Fn K mg "nesting_of" Bx fN dN ["node"])(Z:aL P w K mg base (bc P w) 35 fN dN ["node"] (E_ C 32))(N:oK K C)(X:XC P w K mg base "CodeTooDeep" O fI dI (-4))(S:CS K mg):aL P w K mg base (bc P w) 36 f fd ["node"] (zm C O):=by
 refine dz F.F Sg (fun vs H Q E h=>?_) (fun cdv A outer s H vs Q E Y h=>?_)
 ·obtain⟨_,_,rfl,_⟩:=h
  rfl
 ·obtain⟨a,e,rfl,L,k,U⟩:=h
  obtain⟨dx,D,l,as,h1,hD,hl,hp⟩:=cH L
  have G:bB 3 _:=Y.mono (by decide)
  refine⟨_,ak (aR (PW.pt (lL (aD km (aJ (pv 0) rfl) (aW rfl S.HI) (aG _)) (jL (aD km (aK Z Y rfl J.m J.F.kp J.b .nil passes (aa (pv 0) aq)) (aW rfl S.DE) (aG _))))) (ak (cT X.made X.cls X.ok G rfl X.m X.b rfl b_)) aF),?_⟩
  refine⟨_,rfl,a,C,dx,_,_,rfl,h1,N.cl,N.nH,rfl,_,_,rfl,rfl,_,rfl,bC (fun h2=>?_) fun h2=>?_⟩
  ·have h2:(32:Int)<e.height:=mn h2
   exact bj (U fun z=>by have:=z.1;lia).go
  ·have h2:¬(32:Int)<e.height:=fun z=>h2 (mi z)
   refine⟨_,rfl,a,e,rfl,L,by lia,fun H' s'=>⟨_,_,rfl,rfl,_,rfl,bC (fun j=>?_) fun j=>?_⟩⟩
   ·have j:(32:Int)<cP e:=mn j
    exact((U fun z=>by have:=z.2;lia).mono s').go
   ·have j:¬(32:Int)<cP e:=fun z=>j (mi z)
    exact k ⟨by lia,by lia⟩ H' s'
theorem Ij:aO ["n","numbers","node"] ["n","numbers"] (aH vC):=⟨rfl,rfl,rfl,by decide +kernel,rfl,by decide +kernel,by decide +kernel⟩
theorem Qc{f C Cl Cn Cd f1 f2 f3:Addr}{fd d1 d2 d3:FuncData}(F:Fn K mg "taken_code" vC f fd ["n","numbers"])(S:Fn K mg "check_length" O3 f1 d1 ["numbers"])(G1:aL P w K mg base (bc P w) 4 f1 d1 ["numbers"] (N6 K Cl))(G:Fn K mg "simple_expression_of" pX f2 d2 ["code","n"])(G2:aL P w K mg base (bc P w) 8 f2 d2 ["code","n"] (u_ K C Cn))(D:Fn K mg "check_depth" vN f3 d3 ["node"])(G3:aL P w K mg base (bc P w) 36 f3 d3 ["node"] (zm C Cd)) :
  aL P w K mg base (bc P w) 37 f fd ["n","numbers"] (yW K C Cl Cn Cd):=by
 refine dz F.F Ij (fun vs H Q E h=>?_) (fun cdv A outer s H vs Q E Y h=>?_)
 ·obtain⟨_,_,_,rfl,_⟩:=h
  rfl
 ·obtain⟨l,n,code,rfl,Z,L,kl,kn,kk⟩:=h
  have U:bB 4 _:=Y.mono (by decide)
  have J:bB 8 _:=Y.mono (by decide)
  refine⟨_,aj (bQ (aK G1 U rfl S.m S.F.kp S.b .nil passes (aa (pv 1) aq)))
   (aj (a_ (i:=2) Ij.nd rfl (Or.inl rfl) (aK G2 J rfl G.m G.F.kp G.b .nil passes (aa (pv 1) (aa (pv 0) aq))))
   (aj (bQ (aK G3 Y rfl D.m D.F.kp D.b .nil passes (aa (pv 2) aq))) (ak (aB (pv 2))))),?_⟩
  refine⟨_,rfl,l,vI code,rfl,Z,fun j=>?_,fun j=>kl (by rw[eO]at j;exact j)⟩
  rw[eO]at j
  refine⟨_,rfl,_,rfl,l,n,code,rfl,Z,j,L,fun e O a H1 s1 z=>?_,fun O=>kn j O⟩
  obtain⟨kd,kq⟩:=kk e j O
  refine⟨_,rfl,a,e,rfl,z,fun hd H2 s2=>?_,fun hd=>(kd hd).mono s1⟩
  exact⟨_,rfl,kq hd a H2 (s1.trans s2) (z.same s2)⟩
theorem Wg:aO ["row"] ["row"] (aH BR):=⟨rfl,rfl,rfl,by decide +kernel,rfl,by decide +kernel,by decide +kernel⟩
theorem TJ{f:Addr}{fd:FuncData}(F:Fn K mg "done" BR f fd ["row"])(S:CS K mg):aL P w K mg base (bc P w) 1 f fd ["row"] Od:=by
  refine dz F.F Wg (fun vs H Q E h=>?_) (fun cdv A outer s H vs Q E L h=>?_)
  · obtain⟨_,_,rfl,_⟩:=h
    rfl
  · obtain⟨l,xs,rfl,G,J,k⟩:=h
    refine⟨_,ak (aB (bL Gp (b8 (aa ao (aa (bH bD (by rfl) S.len (by decide +kernel) (aa (pv 0) aq)) aq))) (pv 0))),?_⟩
    refine⟨_,rfl,l,xs,rfl,.inl (bF.of G),(by show 2≤sizeLine;decide),fun r D=>?_⟩
    have ne:l≠r:=fun z=>by rw[z,D]at G;cases G
    refine⟨_,rfl,r,l,_,xs,rfl,rfl,au,(by rw[aA ne];exact G),?_,fun r2 j=>?_⟩
    · show _≤sizeLine
      have:sizeLine=16777216:=rfl
      simp only[io,lT]
      lia
    · exact k r2 _ (by by_cases z : r2 = r; · rw [z, au] at j; cases j
                       · rw[aA z]at j;exact j) ((az.upd D).trans (az.upd j)) au
end
theorem bG{e p:Exp}{i:Nat}{acc:Int}{ar need:Nat}(j:qW f9 1 e.level i=(ar:Nat))(F:qW iR 0 e.level i=(need:Nat)){m:Nat}(D:cP p=(m:Nat)):bz e cP acc (p,i)=max acc ((ar+MX.na p.level need m:Nat):Int):=by
 unfold bz uV MX.na
 simp only
 rw[j,F,D]
 by_cases c:p.level<need
 ·rw[mr c,mi (by lia),mr rfl]
  split<;>lia
 ·have z:decide ((p.level:Int)<(need:Int))=false:=mu (by lia)
  simp only[z,Bool.false_eq_true,if_false,ml c]
  split<;>lia
theorem ni(j m:Nat):MX.na j 0 m=m:=by unfold MX.na;rw[ml (by lia)]
theorem m0(x:Nat):max (0:Int) (x:Int)=x:=Int.max_eq_right (Int.natCast_nonneg x)
theorem m2(x y:Nat):max (x:Int) (y:Int)=((max x y:Nat):Int):=by omega
theorem ZZ(x:Nat):max (0:Int) ((1+x:Nat):Int)=((x+1:Nat):Int):=by rw[m0,Nat.add_comm]
theorem T_(x y:Nat):max (max (0:Int) ((0+x:Nat):Int)) ((0+y:Nat):Int)=((max x (y+0):Nat):Int):=by rw[m0,m2,Nat.zero_add,Nat.zero_add];rfl
theorem mxP(x y:Nat):max (max (0:Int) ((0+x:Nat):Int)) ((1+y:Nat):Int)=((max x (y+1):Nat):Int):=by rw[m0,m2,Nat.zero_add,Nat.add_comm]
theorem mxC(x y z:Nat):max (max (max (0:Int) ((1+x:Nat):Int)) ((1+y:Nat):Int)) ((1+z:Nat):Int)=((max x (max y z)+1:Nat):Int):=by rw[m0,m2,m2,Nat.add_max_add_left,Nat.add_max_add_left,Nat.max_assoc,Nat.add_comm]
mutual
theorem cD:∀(e:Exp),MX.iy e→cP e=(MX.nest e:Nat)
 | .num q,_=>by rw[fQ];rfl
 | .name n,_=>by rw[fQ];rfl
 | .un o a,h=>by
  have F:=cD a h
  rw[fQ]
  show bz (.un o a) cP 0 (a,0)=_
  cases o with
  | neg=>rw[bG (ar:=1) (need:=7) rfl rfl F];show _=((MX.na a.level 7 (MX.nest a)+1:Nat):Int);exact ZZ _
  | not=>rw[bG (ar:=1) (need:=3) rfl rfl F];show _=((MX.na a.level 3 (MX.nest a)+1:Nat):Int);exact ZZ _
  | _=>rw[bG (ar:=1) (need:=0) rfl rfl F,ni];show _=((MX.nest a+1:Nat):Int);exact ZZ _
 | .bin o a b,h=>by
  have j:=cD a h.1
  have z:=cD b h.2
  rw[fQ]
  show bz (.bin o a b) cP (bz (.bin o a b) cP 0 (a,0)) (b,1)=_
  cases o with
  | pow =>
   rw[bG (ar:=1) (need:=7) rfl rfl z,bG (ar:=0) (need:=9) rfl rfl j]
   show _=((max (MX.na a.level 9 (MX.nest a)) (MX.na b.level 7 (MX.nest b)+1):Nat):Int)
   exact mxP _ _
  | add =>
   rw[bG (ar:=0) (need:=6) rfl rfl z,bG (ar:=0) (need:=5) rfl rfl j]
   show _=((max (MX.na a.level 5 (MX.nest a)) (MX.na b.level 6 (MX.nest b)+0):Nat):Int)
   exact T_ _ _
  | sub =>
   rw[bG (ar:=0) (need:=6) rfl rfl z,bG (ar:=0) (need:=5) rfl rfl j]
   show _=((max (MX.na a.level 5 (MX.nest a)) (MX.na b.level 6 (MX.nest b)+0):Nat):Int)
   exact T_ _ _
  | mul =>
   rw[bG (ar:=0) (need:=7) rfl rfl z,bG (ar:=0) (need:=6) rfl rfl j]
   show _=((max (MX.na a.level 6 (MX.nest a)) (MX.na b.level 7 (MX.nest b)+0):Nat):Int)
   exact T_ _ _
  | div =>
   rw[bG (ar:=0) (need:=7) rfl rfl z,bG (ar:=0) (need:=6) rfl rfl j]
   show _=((max (MX.na a.level 6 (MX.nest a)) (MX.na b.level 7 (MX.nest b)+0):Nat):Int)
   exact T_ _ _
  | quo =>
   rw[bG (ar:=0) (need:=7) rfl rfl z,bG (ar:=0) (need:=6) rfl rfl j]
   show _=((max (MX.na a.level 6 (MX.nest a)) (MX.na b.level 7 (MX.nest b)+0):Nat):Int)
   exact T_ _ _
  | rem =>
   rw[bG (ar:=0) (need:=7) rfl rfl z,bG (ar:=0) (need:=6) rfl rfl j]
   show _=((max (MX.na a.level 6 (MX.nest a)) (MX.na b.level 7 (MX.nest b)+0):Nat):Int)
   exact T_ _ _
  | _ =>
   rw[bG (ar:=0) (need:=5) rfl rfl z,bG (ar:=0) (need:=5) rfl rfl j]
   show _=((max (MX.na a.level 5 (MX.nest a)) (MX.na b.level 5 (MX.nest b)+0):Nat):Int)
   exact T_ _ _
 | .and a b,h=>by
  have j:=cD a h.1
  have z:=cD b h.2
  rw[fQ]
  show bz (.and a b) cP (bz (.and a b) cP 0 (a,0)) (b,1)=_
  rw[bG (ar:=0) (need:=3) rfl rfl z,bG (ar:=0) (need:=2) rfl rfl j]
  show _=((max (MX.na a.level 2 (MX.nest a)) (MX.na b.level 3 (MX.nest b)):Nat):Int)
  exact T_ _ _
 | .or a b,h=>by
  have j:=cD a h.1
  have z:=cD b h.2
  rw[fQ]
  show bz (.or a b) cP (bz (.or a b) cP 0 (a,0)) (b,1)=_
  rw[bG (ar:=0) (need:=2) rfl rfl z,bG (ar:=0) (need:=1) rfl rfl j]
  show _=((max (MX.na a.level 1 (MX.nest a)) (MX.na b.level 2 (MX.nest b)):Nat):Int)
  exact T_ _ _
 | .cond c a b,h=>by
  have D:=cD c h.1
  have j:=cD a h.2.1
  have z:=cD b h.2.2
  rw[fQ]
  show bz (.cond c a b) cP (bz (.cond c a b) cP (bz (.cond c a b) cP 0 (c,0)) (a,1)) (b,2)=_
  rw[bG (ar:=1) (need:=0) rfl rfl z,bG (ar:=1) (need:=0) rfl rfl j,bG (ar:=1) (need:=0) rfl rfl D,ni,ni,ni]
  show _=((max (MX.nest c) (max (MX.nest a) (MX.nest b))+1:Nat):Int)
  exact mxC _ _ _
 | .best g l,h=>by
  rw[fQ]
  show((jV l).zipIdx 0).foldl (bz (.best g l) cP) 0=((MX.kE l+1:Nat):Int)
  rw[zP l h.1 h.2 (.best g l) rfl 0 0 (by omega)]
  exact m0 _
 | .use n l,h=>by
  rw[fQ]
  show((jV l).zipIdx 0).foldl (bz (.use n l) cP) 0=((MX.kE l+1:Nat):Int)
  rw[zP l h.2.1 h.2.2 (.use n l) rfl 0 0 (by omega)]
  exact m0 _
theorem zP:∀(l:Exps),MX.xj l→l≠.nil→∀(e:Exp),e.level=9→∀(i:Nat)(acc:Int),0≤acc→((jV l).zipIdx i).foldl (bz e cP) acc=max acc ((MX.kE l+1:Nat):Int)
 | .nil,_,D,e,j,i,acc,h0=>absurd rfl D
 | .cons x .nil,h,_,e,j,i,acc,h0=>by
  have z:=cD x h.1
  show bz e cP acc (x,i)=max acc ((max (MX.nest x) 0+1:Nat):Int)
  rw[bG (ar:=1) (need:=0) (by rw[j];rfl) (by rw[j];rfl) z,ni]
  omega
 | .cons x (.cons y s),h,_,e,j,i,acc,h0=>by
  have z:=cD x h.1
  show((jV (.cons y s)).zipIdx (i+1)).foldl (bz e cP) (bz e cP acc (x,i))=max acc ((max (MX.nest x) (MX.kE (.cons y s))+1:Nat):Int)
  rw[bG (ar:=1) (need:=0) (by rw[j];rfl) (by rw[j];rfl) z,ni,zP (.cons y s) h.2 (by simp) e j (i+1) _ (by omega)]
  omega
end
theorem sI{n:Nat}{code:List Int}{e:Exp}(F:n≤8)(h:Vbdeam.expOf n code=some e):MX.iy e∧Vbdeam.size e≤code.length:=by
 unfold Vbdeam.expOf at h
 obtain⟨c,D,z⟩:=lI.mp h
 have j:=MX.lu.mp z
 refine⟨MX.Ss F (fun k t G=>(yw G).2) j (fun x hx=>by cases hx),lS (MX.O8 j) ?_⟩
 exact uP _ (i' _) ⟨D,MX.O9 j⟩
theorem yK{e:Exp}(h:MX.iy e):Vbdeam.readable e=true↔mD e:=by
 rw[MX.zG h]
 unfold mD
 rw[cD e h]
 refine and_congr Iff.rfl ?_
 lia
theorem same_none{H H':Hp}{l:Addr}(s:az H H')(h:H' l=none):H l=none:=by
 cases q:H l with
 | none=>rfl
 | some o=>rw[s _ _ q]at h;cases h
section
theorem caught{Rc C:Addr}{n:Int}{H:Hp}{D:Ends}{xs:List V}(z:ux K C)(hx:PySem.W.exmOne K (.ref C) (.ref Rc)=some true)(G:Ry H D.rt xs)(F:xs=[.int n]):bJ C n H (yR K Rc D):=by
 subst F
 intro e d H' s h1 h2
 exact⟨C,d,n,rfl,rfl,z,hx,h2,fun l j=>G l _ (same_none s j) (s.trans (az.upd j)) au⟩
end
noncomputable abbrev fdOf(x qual:Str)(st:Stmt)(kV doc pm:Value)(an:Option Addr)(cdv ct:Value):FuncData:=PySem.W.fnOf x qual (nG st) (jX st) (aH st) .none kV doc pm an cdv ct
noncomputable def aV(x qual:Str)(st:Stmt)(ps:List Str):Prop:=∀(kV doc pm:Value)(an:Option Addr)(cdv ct:Value)(us:List Value),us.length=ps.length→bindArgs (PySem.W.fnOf x qual (nG st) (jX st) (aH st) .none kV doc pm an cdv ct) ⟨us,[]⟩=pure (ps.zip us)
section
variable {K:PySem.W.Frag} {h:Heap} {mg:Str→Option Value} {x qual:Str} {st:Stmt} {ps:List Str} {f C:Addr} {oc kV doc pm cdv ct:Value} {od an:Option Addr} {osl:Array (Option Value)}
theorem gG(j:aV x x st ps)(X:K.In h)(G:h.Ns mainGlobals mg)(a:PySem.W.nsIn K mainGlobals x=some (some (.ref f)))(l:K.lookup f=some ⟨oc,od,.func (fdOf x x st kV doc pm an cdv ct),osl⟩)(c:PySem.W.codeIn K cdv x=true)(k:PySem.W.keepIn K (.ref f)=true):∃f fd,Fn K mg x st f fd ps :=
 have F:=rW l c k
 ⟨f,_,F,PySem.W.mg_of X G a,F.binds j⟩
theorem M7(j:aV x qual st ps)(a:PySem.W.findIn K (.ref C) x=some (some (.ref f)))(i:PySem.W.isFn K (.ref f)=true)(l:K.lookup f=some ⟨oc,od,.func (fdOf x qual st kV doc pm an cdv ct),osl⟩)(c:PySem.W.codeIn K cdv qual=true)(k:PySem.W.keepIn K (.ref f)=true):∃f fd,Fm K C x qual st f fd ps :=
 have F:=rW l c k
 ⟨f,_,F,F.binds j,a,i,k⟩
structure Vb (K:PySem.W.Frag) (mg:Str→Option Value) (x qual:Str) (st:Stmt) (ps:List Str) (C f:Addr) (fd:FuncData):Prop where
 cl:JR K C
 m:mg x=some (.ref C)
 mk_:Mk K C f
 F:kZ K "__init__" qual st f fd
 b:Binds K fd ps []
theorem Z7(D:aV "__init__" qual st ps)(X:K.In h)(G:h.Ns mainGlobals mg)(j:PySem.W.nsIn K mainGlobals x=some (some (.ref C)))(pg:PySem.W.plainGet K C Str.empty=true)(hd:PySem.W.hasDictIn K C=true)(po:PySem.W.plainOver K C=true)(sa:PySem.W.findIn K (.ref C) "__setattr__"=some (some (.builtin "object.__setattr__")))
  (mk:PySem.W.makesIn K C=true) (z:PySem.W.keepIn K (.ref C)=true) (a:PySem.W.findIn K (.ref C) "__init__"=some (some (.ref f))) (i:PySem.W.isFn K (.ref f)=true) (l:K.lookup f=some ⟨oc,od,.func (fdOf "__init__" qual st kV doc pm an cdv ct),osl⟩) (c:PySem.W.codeIn K cdv qual=true) (k:PySem.W.keepIn K (.ref f)=true) :
  ∃f fd,Vb K mg x qual st ps C f fd :=
 have F:=rW l c k
 ⟨f,_,⟨pg,hd,po,sa⟩,PySem.W.mg_of X G j,⟨mk,a,i,z⟩,F,F.binds D⟩
theorem XR{nm q:Str}{N:Addr}{bs bm:List Value}{hdct:Bool}{sn:List Str}{sub:List Value}{ab:Bool}{col:Option Bool}{dd:Option Addr}{k0 k1 k2 k3 k5:Option Value}(G:K.lookup C=some (excClassObj nm q C N bs bm hdct sn sub ab col dd k0 k1 k2 k3 k5 "Exception.__new__"))(j:bm.contains (.type "Exception")=true)(F:bm.contains (.type "AttributeError")=false)(D:bm.contains (.type "NameError")=false)(z:bm.contains (.type "BaseException")=true) :
  ∃nm q N bs bm hdct sn sub ab col dd k0 k1 k2 k3 k5,K.lookup C=some (excClassObj nm q C N bs bm hdct sn sub ab col dd k0 k1 k2 k3 k5 "Exception.__new__")∧bm.contains (.type "Exception")=true∧bm.contains (.type "AttributeError")=false∧bm.contains (.type "NameError")=false∧bm.contains (.type "BaseException")=true :=
 ⟨_,_,_,_,_,_,_,_,_,_,_,_,_,_,_,_,G,j,F,D,z⟩
structure M3 (K:PySem.W.Frag) (mg:Str→Option Value) (x qual:Str) (st:Stmt) (Rc C f:Addr) (fd:FuncData):Prop where
 made:XMk K C f
 cls:ux K C
 m:mg x=some (.ref C)
 F:kZ K "__init__" qual st f fd
 b:Binds K fd ["self"] []
 ex:PySem.W.exmOne K (.ref C) (.ref Rc)=some true
theorem Yo{Rc:Addr}(j:aV "__init__" qual st ["self"])(X:K.In h)(G:h.Ns mainGlobals mg)(D:PySem.W.nsIn K mainGlobals x=some (some (.ref C)))
  (cls:∃nm q N bs bm hdct sn sub ab col dd k0 k1 k2 k3 k5,K.lookup C=some (excClassObj nm q C N bs bm hdct sn sub ab col dd k0 k1 k2 k3 k5 "Exception.__new__")∧bm.contains (.type "Exception")=true∧bm.contains (.type "AttributeError")=false∧bm.contains (.type "NameError")=false∧bm.contains (.type "BaseException")=true)
  (z:PySem.W.keepIn K (.ref C)=true) (a:PySem.W.findIn K (.ref C) "__init__"=some (some (.ref f))) (i:PySem.W.isFn K (.ref f)=true) (l:K.lookup f=some ⟨oc,od,.func (fdOf "__init__" qual st kV doc pm an cdv ct),osl⟩) (c:PySem.W.codeIn K cdv qual=true) (k:PySem.W.keepIn K (.ref f)=true)
  (over:jd K C=true) (sa:PySem.W.findIn K (.ref C) "__setattr__"=some (some (.builtin "object.__setattr__"))) (tk:PySem.W.takerIn K C "number"=some none) (hd:PySem.W.hasDictIn K C=true) (ga:PySem.W.findIn K (.ref C) "__getattribute__"=some (some (.builtin "BaseException.__getattribute__"))) (gh:PySem.W.findIn K (.ref C) "__getattr__"=some none) (nn:PySem.W.findIn K (.ref C) "number"=some none)
  (ex:PySem.W.exmOne K (.ref C) (.ref Rc)=some true):∃C f fd,M3 K mg x qual st Rc C f fd :=
 have F:=rW l c k
 ⟨C,f,_,⟨cls,a,i,z⟩,⟨over,sa,tk,hd,ga,gh,nn⟩,PySem.W.mg_of X G D,F,F.binds j,ex⟩
end
noncomputable def isAbsent(K:PySem.W.Frag)(x:Str):Bool:=match PySem.W.nsIn K mainGlobals x with
 | some none=>true
 | _=>false
noncomputable def Jx(H:Str→Int):List (Str×Int)→List DictEntry→Prop
 | [],[]=>True
 | p::r,e::s=>(∃t t',e.key=.str p.1 t∧e.val=.int p.2 t')∧e.hash=H p.1∧Jx H r s
 | _,_=>False
theorem Jw{H:Str→Int}:∀{l:List (Str×Int)}{es:List DictEntry},Jx H l es→es.length=l.length
 | [],[],_=>rfl
 | p::r,e::s,h=>by simp only[io];rw[Jw h.2.2]
 | [],e::s,h=>h.elim
 | p::r,[],h=>h.elim
theorem Dl{P:Program}{w:World}:∀{l:List (Str×Int)}{es:List DictEntry},Jx (hashStr w) l es→∃vs:List (Key×Value),KV (l.map fun p=>(Sum.inr p.1,V.int p.2)) vs∧Pairs (du P w) es vs∧vs.map (·.1)=l.map (fun p=>(Sum.inr p.1:Key))∧∀e∈es,∃k,(du P w).is k e.key=true∧e.hash=(du P w).hash k
 | [],[],_=>⟨[],.nil,.nil,rfl,fun e h=>by cases h⟩
 | p::r,e::s,h=>by
  obtain⟨vs,h1,h2,G,F⟩:=Dl (P:=P) h.2.2
  obtain⟨t,t',z,J⟩:=h.1
  refine⟨(Sum.inr p.1,e.val)::vs,.cons ⟨rfl,by rw[J];exact⟨t',rfl⟩⟩ h1,.cons (by show(du P w).is (Sum.inr p.1) e.key=true;rw[z];exact lZ P w _ t) rfl h2,by rw[mf,mf,G],fun D j=>?_⟩
  rcases j'.mp j with rfl | j
  ·exact⟨Sum.inr p.1,by rw[z];exact lZ P w _ t,h.2.1⟩
  ·exact F D j
 | [],e::s,h=>h.elim
 | p::r,[],h=>h.elim
theorem DX:(ALONE.map fun p=>(Sum.inr p.1:Key)).Nodup:=by decide +kernel
theorem kdx{K:PySem.W.Frag}{w:World}{h:Heap}{mg:Str→Option Value}{d:Addr}{es:List DictEntry}{ep:Nat}(X:K.In h)(G:h.Ns mainGlobals mg)(a:PySem.W.nsIn K mainGlobals "READ_ALONE"=some (some (.ref d)))(l:K.lookup d=some ⟨.type "dict",none,.dict es.toArray ep,#[]⟩)(F:(d==sysModules)=false)(z:Jx (hashStr w) ALONE es) :
  ∃d,mg "READ_ALONE"=some (.ref d)∧KDict K w d jf:=by
 refine⟨d,PySem.W.mg_of X G a,F,fun P=>?_⟩
 obtain⟨vs,h1,h2,J,D⟩:=Dl (P:=P) z
 refine⟨_,es.toArray,ep,vs,l,⟨rfl,rfl,rfl⟩,rfl,?_,h1,fun e j=>D e (by simpa using j),by simpa using h2,by rw[J];exact DX⟩
 rw[ll,Jw z]
 unfold jf
 rw[ap]
end SB
end
end
section
namespace SB
open PySem PySem.Spec PyProof.Rows L2 XL
open Vbdeaa (Text Exp Exps Un Bin Ins)
variable {P:Program} {w:World} {K:PySem.W.Frag} {mg:Str→Option Value} {base:Heap}
theorem KDict.of{X:Cx}{pins:List (Addr×Obj)}{σ:L2.St}{H:Hp}{s:Shared}{d:Addr}{kvs:List (Key×V)}(D:KDict X.K X.w d kvs)(I:Inv X pins σ H s):∃vs,KV kvs vs∧s.heap.DictOf (du X.prog X.w) d vs:=by
 obtain⟨o,es,ep,vs,h1,h2,J,L,G,F,z,j⟩:=D.ex X.prog
 exact⟨vs,G,o,es,ep,I.o5 _ _ h1,h2,J,F,z,j⟩
noncomputable def Zt(kvs:List (Key×V))(ty:TE):TE:=fun σ H Q=>ty σ H fun y H1=>∃k,y=kV k∧Q (.bl (xr kvs k).isSome) H1
noncomputable def Zr(kvs:List (Key×V))(ty:TE):TE:=fun σ H Q=>ty σ H fun y H1=>∃k v,y=kV k∧xr kvs k=some v∧Q v H1
theorem Wx{X:Cx}{x:Str}{i:Expr}{p:Pos}{d:Addr}{kvs:List (Key×V)}{ty:TE}(U:Gl X x)(J:X.mg x=some (.ref d))(D:KDict X.K X.w d kvs)(hi:PE X i ty)(j:(x==("__debug__" : Str))=false:=by decide):PC X .In i (.Name x p) (Zt kvs ty):=by
 intro pins s σ H Q I h
 refine cW (hi pins s σ H _ I h) fun Z s1 ⟨y,H1,O,Y,k,F,q⟩=>cW (eU (v:=.ref d) U J rfl j pins s1 σ H1 (fun v H2=>v=.ref d∧H2=H1) O ⟨rfl,rfl⟩) fun u s2 ⟨v,H2,z,S,G,L⟩=>?_
 subst F G L
 obtain rfl:u=Value.ref d:=S
 obtain⟨vs,rel,dd⟩:=D.of z
 refine wpAny_in_of (Vu Y) D.ns dd.mapOf ?_
 rw[←(rel.val k).Lw]
 exact⟨.bl _,H2,z.tok _,rfl,q⟩
theorem Wv{X:Cx}{x:Str}{i:Expr}{p pos:Pos}{d:Addr}{kvs:List (Key×V)}{ty:TE}(hg:Gl X x)(L:X.mg x=some (.ref d))(O:KDict X.K X.w d kvs)(hi:PE X i ty)(S:Y6 i)(z:(x==("__debug__" : Str))=false:=by decide):PE X (.Subscript (.Name x p) i pos) (Zr kvs ty):=by
 intro pins s σ H Q I h
 refine RQ PySem.F.slot_dict_getitem.lookup S (cW (eU (v:=.ref d) hg L rfl z pins s σ H (fun v H2=>v=.ref d∧H2=H) I ⟨rfl,rfl⟩) fun u s1 ⟨v,H1,Y,Z,J,U⟩=>?_)
 subst J U
 obtain rfl:u=Value.ref d:=Z
 refine cW (hi pins s1 σ H1 _ Y h) fun iv s2 hz=>?_
 obtain⟨y,H2,D,ry,k,v,G,hv,q⟩:=hz
 subst G
 obtain⟨vs,rel,dd⟩:=O.of D
 obtain⟨w',hw,j⟩:=pF.some_of (v:=v) (o:=valueAt vs k) (by rw[←hv];exact rel.val k)
 exact⟨dd.typeIs,wpAny_getItem_of (Vu ry) dd.mapOf hw ⟨v,H2,D.tok _,j,q⟩⟩
noncomputable def Eb(a h t:Str):Str:=Ux a (some (h.length:Nat)) (some ((a.length:Nat)-(t.length:Nat)))
noncomputable def Ve(a h t:Str):Bool:=Txt.startswith a h&&Txt.endswith a t
noncomputable def jg(a h t:Str)(c:Int):Int:=if Ve a h t=true then(if Txt.isdigit (Eb a h t)=true then(match PySem.intText? (Eb a h t)with
 | none=>-1
 | some m=>if jh m=Eb a h t then(if c≤m then -1 else m)else -1)else -1)else -1
noncomputable def VD(a h t:Str):Bool:=decide (a.length≤100)&&(decide (h.length≤100)&&(decide (t.length≤100)&&(!(Ve a h t&&Txt.isdigit (Eb a h t))||(match PySem.intText? (Eb a h t)with
 | none=>false
 | some m=>decide (m.natAbs<2 ^ 1900)))))
noncomputable def lD:Sp:=fun vs H Q _=>∃(a h t:Str)(c:Int),vs=[.str a,.str h,.str t,.int c]∧VD a h t=true∧Q (.int (jg a h t c)) H
noncomputable abbrev jJ:Stmt:=top 58
section
theorem vq:aO ["name","head","tail","count","digits","number"] ["name","head","tail","count"] (aH jJ):=⟨rfl,rfl,rfl,by decide +kernel,rfl,by decide +kernel,by decide +kernel⟩
theorem KH{f:Addr}{fd:FuncData}(F:Fn K mg "number_within" jJ f fd ["name","head","tail","count"])(j:mg "len"=none)(hint:mg "int"=none)(G:mg "str"=none):aL P w K mg base (bc P w) 1 f fd ["name","head","tail","count"] lD:=by
 refine dz F.F vq (fun vs H Q E h=>?_) (fun cdv A outer s H vs Q E hr h=>?_)
 ·obtain⟨_,_,_,_,rfl,_⟩:=h
  rfl
 ·obtain⟨a,h,t,c,rfl,Y,k⟩:=h
  unfold VD at Y
  simp only[lj,mo]at Y
  obtain⟨g1,g2,g3,D⟩:=Y
  refine⟨_,aj (aR (PW.pt (lL (iC (fc (lR PySem.F.plainAttrs_str PySem.F.slot_str_startswith PySem.F.type_str_startswith xH (pv 0) (aa (pv 1) aq)))) (jL (iC (fc (lR PySem.F.plainAttrs_str PySem.F.slot_str_endswith PySem.F.type_str_endswith Cz (pv 0) (aa (pv 2) aq))))))) (ak (aB (dY cM ao))) aF)
   (aj (a_ (i:=4) vq.nd rfl (Or.inl rfl) (lQ V6 (pv 0) (jN (bH j0 (by rfl) j (by decide +kernel) (aa (pv 1) aq))) (jN (bL ji (bH j0 (by rfl) j (by decide +kernel) (aa (pv 0) aq)) (bH j0 (by rfl) j (by decide +kernel) (aa (pv 2) aq))))))
   (aj (aR (iC (fc (rJ PySem.F.plainAttrs_str PySem.F.slot_str_isdigit PySem.F.type_str_isdigit Gy (pv 4)))) (ak (aB (dY cM ao))) aF)
   (aj (a_ (i:=5) vq.nd rfl (Or.inl rfl) (gk Ad (by rfl) hint (by decide +kernel) (aa (pv 4) aq)))
   (aj (aR (PW.pt (lL (aD kh (gk gF (by rfl) G (by decide +kernel) (aa (pv 5) aq)) (pv 4) (aG _)) (jL (aD lV (pv 5) (pv 3) (aG _))))) (ak (aB (dY cM ao))) aF)
   (ak (aB (pv 5))))))),?_⟩
  have out:jg a h t c=-1→Q (.int (-1)) H:=fun e=>by rw[←e];exact k
  have hsz:(1000:Nat)≤sizeLine:=by decide
  refine⟨_,rfl,rfl,_,rfl,a,h,rfl,rfl,Txt.startswith a h,rfl,?_⟩
  cases J:Txt.startswith a h with
  | false=>exact bj (bj ⟨1,rfl,out (by unfold jg Ve;rw[J];rfl)⟩)
  | true =>
   refine aN ⟨_,rfl,rfl,_,rfl,a,t,rfl,rfl,Txt.endswith a t,rfl,?_⟩
   cases e2:Txt.endswith a t with
   | false=>exact bj ⟨1,rfl,out (by unfold jg Ve;rw[J,e2];rfl)⟩
   | true =>
    have eb:Ve a h t=true:=by unfold Ve;rw[J,e2];rfl
    refine aN ⟨_,rfl,_,rfl,h,rfl,by lia,_,rfl,_,rfl,a,rfl,by lia,_,rfl,t,rfl,by lia,_,_,rfl,rfl,_,rfl,a,rfl,by lia,?_⟩
    refine⟨_,rfl,rfl,_,rfl,rfl,trivial,Txt.isdigit (Eb a h t),rfl,?_⟩
    cases O:Txt.isdigit (Eb a h t)with
    | false=>exact bj ⟨1,rfl,out (by unfold jg;rw[eb,O];rfl)⟩
    | true =>
     rw[eb,O]at D
     obtain⟨m,hm,Z⟩:∃m,PySem.intText? (Eb a h t)=some m∧m.natAbs<2 ^ 1900:=by
      cases hq:PySem.intText? (Eb a h t)with
      | none=>rw[hq]at D;cases D
      | some m=>rw[hq]at D;exact⟨m,rfl,mn D⟩
     have U:(Eb a h t).length≤100:=lS (ue _ _ _) g1
     have S:jg a h t c=if jh m=Eb a h t then(if c≤m then -1 else m)else -1:=by
      unfold jg
      rw[mr eb,mr O,hm]
     have L:m.natAbs.log2<1920:=by
      by_cases z:m.natAbs=0
      ·rw[z];decide
      ·exact Nat.lt_trans ((Nat.log2_lt z).mpr Z) (by decide)
     refine aN ⟨_,rfl,_,m,rfl,hm,lS U (by decide),?_⟩
     refine⟨_,rfl,m,rfl,L,_,rfl,rfl,_,rfl,?_⟩
     refine bC (fun h1=>?_) fun h1=>?_
     ·refine bj ⟨1,rfl,out ?_⟩
      rw[S,ml]
      intro z
      have h1:(!decide (V.str (jh m)=V.str (Eb a h t)))=true:=h1
      rw[z,mi rfl]at h1
      cases h1
     ·have hz:jh m=Eb a h t:=by
       apply Classical.byContradiction
       intro z
       have h1:¬(!decide (V.str (jh m)=V.str (Eb a h t)))=true:=h1
       exact h1 (by rw[mu (fun y=>z (V.str.inj y))];rfl)
      refine⟨_,rfl,_,rfl,_,_,rfl,rfl,_,rfl,bC (fun h2=>?_) fun h2=>?_⟩
      ·have h2:c≤m:=mn h2
       exact⟨1,rfl,out (by rw[S,mr hz,mr h2])⟩
      ·have h2:¬c≤m:=fun z=>h2 (mi z)
       refine⟨_,rfl,?_⟩
       rw[S,mr hz,ml h2]at k
       exact k
end
noncomputable def Vm(a:Str)(r:Str×Str×Int×Int):Bool:=decide (0≤jg a r.1 r.2.1 r.2.2.2)
noncomputable def qp(a:Str):Int:=match ALONE.find? (fun p=>decide (p.1=a))with
 | some p=>p.2
 | none=>match ROWS.find? (Vm a)with
  | some r=>r.2.2.1+jg a r.1 r.2.1 r.2.2.2
  | none=>-1
noncomputable def Yz(a:Str):Bool:=ROWS.all fun r=>VD a r.1 r.2.1
theorem xZ(a:Str):xr jf (Sum.inr a)=(ALONE.find? (fun p=>decide (p.1=a))).map fun p=>V.int p.2:=by
 unfold xr jf
 rw[List.find?_map,Option.map_map]
 have:((fun j:Key×V=>decide (j.1=Sum.inr a)) ∘ fun p:Str×Int=>((Sum.inr p.1:Key),V.int p.2))=fun p=>decide (p.1=a):=by
  funext p
  show decide ((Sum.inr p.1:Key)=Sum.inr a)=decide (p.1=a)
  exact QJ _ _
 rw[this]
 rfl
noncomputable def N5:Sp:=fun vs H Q _=>∃a:Str,vs=[.str a]∧Yz a=true∧Q (.int (qp a)) H
noncomputable abbrev O2:Stmt:=top 59
section
theorem yl:aO ["name","head","tail","first","count","number"] ["name"] (aH O2):=⟨rfl,rfl,rfl,by decide +kernel,rfl,by decide +kernel,by decide +kernel⟩
theorem WP{f fW:Addr}{fd dW:FuncData}(F:Fn K mg "number_of_read" O2 f fd ["name"])(T:CM K w mg)(FW:Fn K mg "number_within" jJ fW dW ["name","head","tail","count"])(GW:aL P w K mg base (bc P w) 1 fW dW ["name","head","tail","count"] lD):aL P w K mg base (bc P w) 2 f fd ["name"] N5:=by
 obtain⟨d,hd,KD⟩:=T.RA
 obtain⟨ur,vr,af,rr,ac⟩:=T.RR
 obtain⟨ra,G,rfl,U,j⟩:=ac.tup
 refine dz F.F yl (fun vs H Q E h=>?_) (fun cdv A outer s H vs Q E hr h=>?_)
 ·obtain⟨_,rfl,_⟩:=h
  rfl
 ·obtain⟨a,rfl,hg,k⟩:=h
  refine⟨_,aj (aR (jM (Wx rfl hd KD (pv 0))) (ak (aB (Wv rfl hd KD (pv 0) (fun _ _=>rfl)))) aF)
   (aj (lN rH rfl (Px (eU rfl af rr)) (vX rfl (dg (bT (i:=1) yl.nd rfl (Or.inl rfl)) (dg (bT (i:=2) yl.nd rfl (Or.inl rfl)) (dg (bT (i:=3) yl.nd rfl (Or.inl rfl)) (dg (bT (i:=4) yl.nd rfl (Or.inl rfl)) qj)))))
    (aj (a_ (i:=5) yl.nd rfl (Or.inl rfl) (aK GW hr rfl FW.m FW.F.kp FW.b .nil passes (aa (pv 0) (aa (pv 1) (aa (pv 2) (aa (pv 4) aq))))))
     (ak (aR (aD lV (pv 5) ao (aG _)) (ak (aB (bL gM (pv 3) (pv 5)))) aF))))
   (ak (aB (dY cM ao)))),?_⟩
  refine⟨_,rfl,Sum.inr a,rfl,_,rfl,?_⟩
  rw[xZ]
  cases J:ALONE.find? (fun p=>decide (p.1=a))with
  | some p =>
   have S:qp a=p.2:=by unfold qp;rw[J]
   refine bj ⟨_,rfl,Sum.inr a,.int p.2,rfl,by rw[xZ,J];rfl,?_⟩
   rw[S]at k
   exact k
  | none =>
   refine aN ⟨ra,rfl,⟨_,U H⟩,Ju (K:=K) (a:=ra) (xs:=G) (fun i σ H'=>∃w1 w2 Y w4 w5:Option V,σ=[some (.str a),w1,w2,Y,w4,w5]∧H'=H∧(ROWS.take i).find? (Vm a)=none) ⟨none,none,none,none,none,rfl,rfl,rfl⟩ (fun i σ H' _ _=>U H') ?_ ?_⟩
   ·rintro i x σ H' hi ⟨w1,w2,Y,w4,w5,rfl,rfl,O⟩
    have D:G.length=ROWS.length:=by
     have:=Paired.length j
     rw[ap]at this
     exact this.symm
    have il:i<G.length:=(lf.mp hi).1
    obtain⟨r,L⟩:∃r,ROWS[i]?=some r:=⟨_,ln (by rw[D]at il;exact il)⟩
    obtain⟨y,hy,hc⟩:=cz j (i:=i) (a:=Iu r) (by rw[l0,L];rfl)
    rw[hi]at hy
    cases hy
    obtain⟨a2,ys,rfl,ae,Z⟩:=tD.tup hc
    have ey:ys=[V.str r.1,V.str r.2.1,V.int r.2.2.1,V.int r.2.2.2]:=by
     cases Z with
     | cons a b=>cases b with
      | cons c d=>cases d with
       | cons e f=>cases f with
        | cons g h' =>
         cases h'
         rw[tD.str a,tD.str c,tD.int e,tD.int g]
    subst ey
    have ag:VD a r.1 r.2.1=true:=mv.mp hg r (mw L)
    refine⟨a2,_,rfl,ae _,rfl,_,_,rfl,_,_,rfl,_,_,rfl,_,_,rfl,rfl,?_⟩
    refine⟨_,rfl,_,rfl,_,rfl,_,rfl,a,r.1,r.2.1,r.2.2.2,rfl,ag,?_⟩
    refine⟨_,rfl,_,_,rfl,rfl,_,rfl,bC (fun h1=>?_) fun h1=>?_⟩
    ·have h1:0≤jg a r.1 r.2.1 r.2.2.2:=mn h1
     have S:qp a=r.2.2.1+jg a r.1 r.2.1 r.2.2.2:=by
      unfold qp
      rw[J,gB L O (mi h1)]
     rw[S]at k
     exact⟨_,rfl,_,rfl,_,_,rfl,rfl,k⟩
    ·exact⟨_,_,_,_,_,rfl,rfl,gC L O (mu fun z=>h1 (mi z))⟩
   ·rintro σ H1 ⟨w1,w2,Y,w4,w5,rfl,rfl,O⟩
    have D:G.length=ROWS.length:=by
     have:=Paired.length j
     rw[ap]at this
     exact this.symm
    rw[D,List.take_length]at O
    have S:qp a=-1:=by unfold qp;rw[J,O]
    rw[S]at k
    exact⟨1,rfl,k⟩
end
noncomputable abbrev zA:Stmt:=inClass (top 51) 0
noncomputable def Xy(H:Hp)(Q:VK)(row:List Int):Prop:=∀t H',H t=none→az H H'→H' t=some (.tup (vI row))→Q (.ref t) H'
noncomputable def oH(n:Int)(a:Str):Option (List Int) :=
 if 0≤jg a "a" "" n then some [1,jg a "a" "" n]else if 0≤jg a "g" "" 64 then some [8,jg a "g" "" 64,0]else if 0≤qp a then some [2,qp a]else none
noncomputable def gY(n:Int)(a:Str):Option (List Int) :=
 if 0≤jg a "g" "" 64∧n≤8 then some [8,jg a "g" "" 64,n]else if 0≤jg a "t" "" 64∧n=1 then some [7,jg a "t" "" 64]else none
noncomputable def iZ(a:Str):Bool:=VD a "a" "" && (VD a "g" "" && (VD a "t" "" && Yz a))
noncomputable def Fg(Cx:Addr):Sp:=fun vs H Q E=>∃(a:Str)(n:Int),vs=[.str a,.int n]∧iZ a=true∧(∀row,oH n a=some row→Xy H Q row)∧(oH n a=none→bJ Cx (-8) H E)
noncomputable def vh(Cx:Addr):Sp:=fun vs H Q E=>∃(a:Str)(n:Int),vs=[.str a,.int n]∧iZ a=true∧(∀row,gY n a=some row→Xy H Q row)∧(gY n a=none→bJ Cx (-8) H E)
noncomputable abbrev BW:Stmt:=top 61
noncomputable abbrev qd:Stmt:=top 62
section
theorem Oi:aO ["self"] ["self"] (aH zA):=⟨rfl,rfl,rfl,by decide +kernel,rfl,by decide +kernel,by decide +kernel⟩
theorem P0{f fR R:Addr}{fd j:FuncData}(F:kZ K "__init__" "WrongName.__init__" zA f fd)(J:kZ K "__init__" "Refusal.__init__" zB fR j)(D:Binds K j ["self","number"] [])(G:mg "Refusal"=some (.ref R))(CR:j_ K R "__init__" fR)(hex:mg "Exception"=none):aL P w K mg base (bc P w) 2 f fd ["self"] (Vj K (-8)):=by
 have GR:aL P w K mg base (bc P w) 1 fR j _ _:=vY J hex
 refine dz F Oi (fun vs H Q E h=>?_) (fun cdv A outer s H vs Q E L h=>?_)
 ·obtain⟨_,_,rfl,_⟩:=h
  rfl
 ·obtain⟨x,C,rfl,hx,z,k⟩:=h
  refine⟨_,ak (bQ (ql (eU rfl G rfl) CR GR L D .nil passes (aa (pv 0) (aa (dY cM ao) aq)))),?_⟩
  exact⟨_,rfl,_,rfl,x,C,-8,rfl,hx,z,k⟩
theorem m_{H:Hp}{Q:VK}{row:List Int}(h:Xy H Q row):∀t,H t=none→Q (.ref t) (L2.upd H t (.tup (vI row))):=fun t j=>h t _ j (az.upd j) au
theorem zy:aO ["name","n","parameter","formula","read"] ["name","n"] (aH BW):=⟨rfl,rfl,rfl,by decide +kernel,rfl,by decide +kernel,by decide +kernel⟩
theorem T6{f U fN Cx fI:Addr}{fd Y dN dI:FuncData}(F:Fn K mg "bare_name_instruction" BW f fd ["name","n"])(D:Fn K mg "number_within" jJ U Y ["name","head","tail","count"])(Z:aL P w K mg base (bc P w) 1 U Y ["name","head","tail","count"] lD)
  (L:Fn K mg "number_of_read" O2 fN dN ["name"]) (GN:aL P w K mg base (bc P w) 2 fN dN ["name"] N5) (X:XC P w K mg base "WrongName" Cx fI dI (-8)) (R:CR K mg):aL P w K mg base (bc P w) 4 f fd ["name","n"] (Fg Cx):=by
 refine dz F.F zy (fun vs H Q E h=>?_) (fun cdv A outer s H vs Q E S h=>?_)
 ·obtain⟨_,_,rfl,_⟩:=h
  rfl
 ·obtain⟨a,n,rfl,O,k,kr⟩:=h
  unfold iZ at O
  simp only[lj]at O
  obtain⟨g1,g2,g3,g4⟩:=O
  have G:bB 1 _:=S.mono (by decide)
  have J:bB 2 _:=S.mono (by decide)
  refine⟨_,aj (a_ (i:=2) zy.nd rfl (Or.inl rfl) (aK Z G rfl D.m D.F.kp D.b .nil passes (aa (pv 0) (aa gJ (aa gJ (aa (pv 1) aq))))))
   (aj (aR (aD lV (pv 2) ao (aG _)) (ak (aB (bw (aa ao (aa (pv 2) aq))))) aF)
   (aj (a_ (i:=3) zy.nd rfl (Or.inl rfl) (aK Z G rfl D.m D.F.kp D.b .nil passes (aa (pv 0) (aa gJ (aa gJ (aa (aW rfl R.FO) aq))))))
   (aj (aR (aD lV (pv 3) ao (aG _)) (ak (aB (bw (aa ao (aa (pv 3) (aa ao aq)))))) aF)
   (aj (a_ (i:=4) zy.nd rfl (Or.inl rfl) (aK GN J rfl L.m L.F.kp L.b .nil passes (aa (pv 0) aq)))
   (aj (aR (aD lV (pv 4) ao (aG _)) (ak (aB (bw (aa ao (aa (pv 4) aq))))) aF)
   (ak (cT X.made X.cls X.ok S rfl X.m X.b rfl b_))))))),?_⟩
  refine⟨_,rfl,_,rfl,a,"a","",n,rfl,g1,?_⟩
  refine⟨_,rfl,_,_,rfl,rfl,_,rfl,bC (fun h1=>?_) fun h1=>?_⟩
  ·have h1:0≤jg a "a" "" n:=mn h1
   exact⟨_,rfl,(by show 2≤sizeLine;decide),m_ (k [1,jg a "a" "" n] (by unfold oH;rw[mr h1]))⟩
  have h1:¬0≤jg a "a" "" n:=fun z=>h1 (mi z)
  refine⟨_,rfl,a,"g","",64,rfl,g2,?_⟩
  refine⟨_,rfl,_,_,rfl,rfl,_,rfl,bC (fun h2=>?_) fun h2=>?_⟩
  ·have h2:0≤jg a "g" "" 64:=mn h2
   exact⟨_,rfl,(by show 3≤sizeLine;decide),m_ (k [8,jg a "g" "" 64,0] (by unfold oH;rw[ml h1,mr h2]))⟩
  have h2:¬0≤jg a "g" "" 64:=fun z=>h2 (mi z)
  refine⟨_,rfl,a,rfl,g4,?_⟩
  refine⟨_,rfl,_,_,rfl,rfl,_,rfl,bC (fun j=>?_) fun j=>?_⟩
  ·have j:0≤qp a:=mn j
   exact⟨_,rfl,(by show 2≤sizeLine;decide),m_ (k [2,qp a] (by unfold oH;rw[ml h1,ml h2,mr j]))⟩
  have j:¬0≤qp a:=fun z=>j (mi z)
  have bad:bJ Cx (-8) H E:=kr (by unfold oH;rw[ml h1,ml h2,ml j])
  exact fun e d H' s' x1 x2=>bad e d H' s' x1 x2
theorem vz:aO ["name","count","formula","table"] ["name","count"] (aH qd):=⟨rfl,rfl,rfl,by decide +kernel,rfl,by decide +kernel,by decide +kernel⟩
theorem K_{f L Cx fI:Addr}{fd O dI:FuncData}(F:Fn K mg "called_name_instruction" qd f fd ["name","count"])(D:Fn K mg "number_within" jJ L O ["name","head","tail","count"])(Y:aL P w K mg base (bc P w) 1 L O ["name","head","tail","count"] lD)
  (X:XC P w K mg base "WrongName" Cx fI dI (-8)) (R:CR K mg):aL P w K mg base (bc P w) 4 f fd ["name","count"] (vh Cx):=by
 refine dz F.F vz (fun vs H Q E h=>?_) (fun cdv A outer s H vs Q E U h=>?_)
 ·obtain⟨_,_,rfl,_⟩:=h
  rfl
 ·obtain⟨a,n,rfl,J,k,S⟩:=h
  unfold iZ at J
  simp only[lj]at J
  obtain⟨g1,g2,g3,Z⟩:=J
  have G:bB 1 _:=U.mono (by decide)
  refine⟨_,aj (a_ (i:=2) vz.nd rfl (Or.inl rfl) (aK Y G rfl D.m D.F.kp D.b .nil passes (aa (pv 0) (aa gJ (aa gJ (aa (aW rfl R.FO) aq))))))
   (aj (aR (PW.pt (gb (aD lV (pv 2) ao (aG _)) (dX (aD kj (pv 1) (aW rfl R.MA) (aG _))))) (ak (aB (bw (aa ao (aa (pv 2) (aa (pv 1) aq)))))) aF)
   (aj (a_ (i:=3) vz.nd rfl (Or.inl rfl) (aK Y G rfl D.m D.F.kp D.b .nil passes (aa (pv 0) (aa gJ (aa gJ (aa (aW rfl R.TA) aq))))))
   (aj (aR (PW.pt (gb (aD lV (pv 3) ao (aG _)) (dX (aD aY (pv 1) ao (aG _))))) (ak (aB (bw (aa ao (aa (pv 3) aq))))) aF)
   (ak (cT X.made X.cls X.ok U rfl X.m X.b rfl b_))))),?_⟩
  refine⟨_,rfl,a,"g","",64,rfl,g2,?_⟩
  by_cases h1:0≤jg a "g" "" 64∧n≤8
  ·refine⟨_,rfl,_,_,rfl,rfl,_,rfl,bC (fun z=>?_) fun z=>absurd (mi h1.1) z⟩
   refine⟨_,rfl,_,_,rfl,rfl,_,rfl,bC (fun j=>?_) fun j=>absurd (mi h1.2) j⟩
   exact⟨_,rfl,_,rfl,(by show 3≤sizeLine;decide),m_ (k [8,jg a "g" "" 64,n] (by unfold gY;rw[mr h1]))⟩
  ·refine⟨_,rfl,_,_,rfl,rfl,_,rfl,bC (fun z=>?_) fun z=>aN ?_⟩
   ·refine⟨_,rfl,_,_,rfl,rfl,_,rfl,bC (fun j=>absurd ⟨mn z,mn j⟩ h1) fun j=>?_⟩
    refine⟨_,rfl,a,"t","",64,rfl,g3,?_⟩
    by_cases h2:0≤jg a "t" "" 64∧n=1
    ·refine⟨_,rfl,_,_,rfl,rfl,_,rfl,bC (fun z=>?_) fun z=>absurd (mi h2.1) z⟩
     refine⟨_,rfl,rfl,_,rfl,bC (fun j=>?_) fun j=>absurd (mi (by rw[h2.2])) j⟩
     exact⟨_,rfl,(by show 2≤sizeLine;decide),m_ (k [7,jg a "t" "" 64] (by unfold gY;rw[ml h1,mr h2]))⟩
    ·have bad:bJ Cx (-8) H E:=S (by unfold gY;rw[ml h1,ml h2])
     refine⟨_,rfl,_,_,rfl,rfl,_,rfl,bC (fun z=>?_) fun z=>aN (fun e d H' s' x1 x2=>bad e d H' s' x1 x2)⟩
     exact⟨_,rfl,rfl,_,rfl,bC (fun j=>absurd ⟨mn z,V.int.inj (mn j)⟩ h2) fun j=>fun e d H' s' x1 x2=>bad e d H' s' x1 x2⟩
   ·refine⟨_,rfl,a,"t","",64,rfl,g3,?_⟩
    by_cases h2:0≤jg a "t" "" 64∧n=1
    ·refine⟨_,rfl,_,_,rfl,rfl,_,rfl,bC (fun z=>?_) fun z=>absurd (mi h2.1) z⟩
     refine⟨_,rfl,rfl,_,rfl,bC (fun j=>?_) fun j=>absurd (mi (by rw[h2.2])) j⟩
     exact⟨_,rfl,(by show 2≤sizeLine;decide),m_ (k [7,jg a "t" "" 64] (by unfold gY;rw[ml h1,mr h2]))⟩
    ·have bad:bJ Cx (-8) H E:=S (by unfold gY;rw[ml h1,ml h2])
     refine⟨_,rfl,_,_,rfl,rfl,_,rfl,bC (fun z=>?_) fun z=>aN (fun e d H' s' x1 x2=>bad e d H' s' x1 x2)⟩
     exact⟨_,rfl,rfl,_,rfl,bC (fun j=>absurd ⟨mn z,V.int.inj (mn j)⟩ h2) fun j=>fun e d H' s' x1 x2=>bad e d H' s' x1 x2⟩
end
end SB
end
section
namespace SB
open PySem PySem.Spec PyProof.Rows L2 XL
open Vbdeaa (Text Exp Exps Un Bin Ins Q)
variable {P:Program} {w:World} {K:PySem.W.Frag} {mg:Str→Option Value} {base:Heap}
noncomputable def VA(H:Hp)(q:Vbdeaa.Q)(t:Addr):Prop:=H t=some (.tup [.int q.1,.int (q.2:Nat)])
noncomputable def gQ(H:Hp)(Q:VK)(q:Vbdeaa.Q):Prop:=∀t H',az H H'→VA H' q t→Q (.ref t) H'
theorem gQ.mono{H H1:Hp}{Q:VK}{q:Vbdeaa.Q}(h:gQ H Q q)(s:az H H1):gQ H1 Q q:=fun t H' s' v=>h t H' (s.trans s') v
theorem dH{H:Hp}{Q:VK}{q:Vbdeaa.Q}(h:gQ H Q q){a b:Int}(h1:a=q.1)(h2:b=(q.2:Nat)):∀t,H t=none→Q (.ref t) (L2.upd H t (.tup [.int a,.int b])):=fun t j=>by
 subst h1 h2
 exact h t _ (az.upd j) au
theorem VA.same{H H':Hp}{q:Vbdeaa.Q}{t:Addr}(s:az H H')(h:VA H q t):VA H' q t:=s _ _ h
noncomputable def Bd(q:Vbdeaa.Q):Prop:=q.1.natAbs<2 ^ 64∧q.2<2 ^ 64
theorem iM{q:Vbdeaa.Q}(h:FM.Small q):Bd q:=⟨l6 h.1 (by decide),l6 h.2 (by decide)⟩
theorem Bd.n{q:Vbdeaa.Q}(h:Bd q):-(2 ^ 64)<q.1∧q.1<2 ^ 64:=by have:=h.1;lia
theorem Bd.d{q:Vbdeaa.Q}(h:Bd q):-(2 ^ 64)<((q.2:Nat):Int)∧((q.2:Nat):Int)<2 ^ 64:=by have:=h.2;lia
structure CF (K:PySem.W.Frag) (mg:Str→Option Value):Prop where
 L:GC K mg "LARGEST" (.i 1000000000000000000)
 abs:mg "abs"=none
noncomputable def zp(q:Vbdeaa.Q):Bool:=decide (q.1.natAbs≤10 ^ 18)&&decide (q.2≤10 ^ 18)
theorem pM{q:Vbdeaa.Q}:zp q=true↔FM.Small q:=by unfold zp FM.Small;simp only[lj,mo]
noncomputable def uC:Sp:=fun vs H Q _=>∃(t:Addr)(q:Vbdeaa.Q),vs=[.ref t]∧VA H q t∧Q (.bl (zp q)) H
noncomputable def uB:Sp:=fun vs H Q _=>∃b:Bool,vs=[.bl b]∧gQ H Q (Vbdeaa.truth b)
noncomputable def Bj:Sp:=fun vs H Q _=>∃n:Int,vs=[.int n]∧Q (.int (if n<0 then -1 else if n=0 then 0 else 1)) H
noncomputable def y_:Sp:=fun vs H Q _=>∃(t u:Addr)(q r:Vbdeaa.Q),vs=[.ref t,.ref u]∧VA H q t∧VA H r u∧Bd q∧Bd r∧Q (.int (q.1*(r.2:Nat)-r.1*(q.2:Nat))) H
noncomputable def H_:Sp:=fun vs H Q _=>∃(t:Addr)(q:Vbdeaa.Q),vs=[.ref t]∧VA H q t∧gQ H Q (-q.1,q.2)
noncomputable def pL:Sp:=fun vs H Q _=>∃(n:Int)(d:Nat),vs=[.int n,.int d]∧0<d∧d<2 ^ 1000∧gQ H Q (Vbdeaa.frac n d)
noncomputable def uE:Sp:=fun vs H Q _=>∃(t u:Addr)(q r:Vbdeaa.Q),vs=[.ref t,.ref u]∧VA H q t∧VA H r u∧Bd q∧1≤q.2∧1≤r.2∧r.2<2 ^ 900∧gQ H Q (Vbdeaa.add q r)
noncomputable def vf:Sp:=fun vs H Q _=>∃(t u:Addr)(q r:Vbdeaa.Q),vs=[.ref t,.ref u]∧VA H q t∧VA H r u∧Bd q∧1≤q.2∧1≤r.2∧r.2<2 ^ 900∧gQ H Q (Vbdeaa.mul q r)
noncomputable def Ia:Sp:=fun vs H Q _=>∃(t:Addr)(q:Vbdeaa.Q),vs=[.ref t]∧VA H q t∧gQ H Q (FM.inv q)
noncomputable def zj:Sp:=fun vs H Q _=>∃(t u:Addr)(q r:Vbdeaa.Q),vs=[.ref t,.ref u]∧VA H q t∧VA H r u∧Bd q∧Bd r∧1≤q.2∧1≤r.2∧r.1≠0∧gQ H Q (Vbdeaa.whole (Vbdeaa.floor (Vbdeaa.div q r)))
noncomputable def Ez:Sp:=fun vs H Q _=>∃(t u:Addr)(q r:Vbdeaa.Q),vs=[.ref t,.ref u]∧VA H q t∧VA H r u∧Bd q∧Bd r∧1≤q.2∧1≤r.2∧r.1≠0∧gQ H Q (Vbdeaa.sub q (Vbdeaa.mul r (Vbdeaa.whole (Vbdeaa.floor (Vbdeaa.div q r)))))
noncomputable def oh(H:Hp)(Q:VK):Option Vbdeaa.Q→Prop
 | some q=>gQ H Q q
 | none=>∀H',az H H'→Q .non H'
theorem oh.mono{H H1:Hp}{Q:VK}{o:Option Vbdeaa.Q}(h:oh H Q o)(s:az H H1):oh H1 Q o:=by
 cases o with
 | none=>exact fun H' s'=>h H' (s.trans s')
 | some q=>exact gQ.mono (show gQ H Q q from h) s
noncomputable def iI(q:Vbdeaa.Q)(k:Nat):Option Vbdeaa.Q:=if zp (FM.pw q k)=true then some (FM.pw q k)else none
noncomputable def za:Sp:=fun vs H Q _=>∃(t:Addr)(q:Vbdeaa.Q)(k:Nat),vs=[.ref t,.int k]∧VA H q t∧Bd q∧1≤q.2∧k≤64∧oh H Q (iI q k)
noncomputable abbrev rB:Stmt:=top 76
noncomputable abbrev rA:Stmt:=top 77
noncomputable abbrev pY:Stmt:=top 78
noncomputable abbrev rD:Stmt:=top 79
noncomputable abbrev Ft:Stmt:=top 80
noncomputable abbrev m8:Stmt:=top 72
noncomputable abbrev rE:Stmt:=top 81
noncomputable abbrev vK:Stmt:=top 82
noncomputable abbrev Fv:Stmt:=top 83
noncomputable abbrev yp:Stmt:=top 84
noncomputable abbrev Bt:Stmt:=top 85
noncomputable abbrev vJ:Stmt:=top 86
theorem zT{g:Nat}(h:g<2 ^ 1000):((g:Nat):Int).natAbs.log2<9000:=by
 rw[l4]
 by_cases z:g=0
 ·rw[z];decide
 ·exact Nat.lt_trans ((Nat.log2_lt z).mpr h) (by decide)
theorem at0(a b:V):kY [a,b] 0=some a:=rfl
theorem at1(a b:V):kY [a,b] 1=some b:=rfl
section
theorem R7:aO ["value"] ["value"] (aH rB):=⟨rfl,rfl,rfl,by decide +kernel,rfl,by decide +kernel,by decide +kernel⟩
theorem Qi{f:Addr}{fd:FuncData}(F:Fn K mg "is_small" rB f fd ["value"])(T:CF K mg):aL P w K mg base (bc P w) 1 f fd ["value"] uC:=by
 refine dz F.F R7 (fun vs H Q E h=>?_) (fun cdv A outer s H vs Q E J h=>?_)
 ·obtain⟨_,_,rfl,_⟩:=h
  rfl
 ·obtain⟨t,q,rfl,G,k⟩:=h
  refine⟨_,ak (aB (rK (bW kj (bH qF (by rfl) T.abs (by decide +kernel) (aa (aQ aU (pv 0) ao (fun _ _=>rfl)) aq)) (aW rfl T.L) (aG _)) (oV (bW kj (aQ aU (pv 0) ao (fun _ _=>rfl)) (aW rfl T.L) (aG _))))),?_⟩
  refine⟨_,rfl,t,_,_,_,rfl,rfl,bN.of G,at0 _ _,q.1,rfl,_,_,rfl,rfl,_,rfl,?_⟩
  have D:((if q.1<0 then -q.1 else q.1)≤1000000000000000000)↔q.1.natAbs≤10 ^ 18:=by split<;>lia
  refine bC (fun h1=>?_) fun h1=>?_
  ·have h1:=D.mp (mn h1)
   refine⟨_,rfl,t,_,_,_,rfl,rfl,bN.of G,at1 _ _,_,_,rfl,rfl,?_⟩
   have j:zp q=decide (((q.2:Nat):Int)≤1000000000000000000):=by
    unfold zp
    rw[mi h1,Bool.true_and,l9,mo,mo]
    lia
   rw[j]at k
   exact k
  ·have h1:¬q.1.natAbs≤10 ^ 18:=fun z=>h1 (mi (D.mpr z))
   have j:zp q=false:=by unfold zp;rw[mu h1];rfl
   rw[j]at k
   exact k
theorem R5:aO ["holds"] ["holds"] (aH rA):=⟨rfl,rfl,rfl,by decide +kernel,rfl,by decide +kernel,by decide +kernel⟩
theorem Cm{f:Addr}{fd:FuncData}(F:Fn K mg "truth" rA f fd ["holds"]):aL P w K mg base (bc P w) 1 f fd ["holds"] uB:=by
 refine dz F.F R5 (fun vs H Q E h=>?_) (fun cdv A outer s H vs Q E j h=>?_)
 ·obtain⟨_,rfl,_⟩:=h
  rfl
 ·obtain⟨b,rfl,k⟩:=h
  refine⟨_,ak (aB (eF (fc (pv 0)) (bw (aa ao (aa ao aq))) (bw (aa ao (aa ao aq))))),?_⟩
  refine⟨_,rfl,b,rfl,?_⟩
  cases b with
  | true=>exact bj ⟨(by show 2≤sizeLine;decide),dH k rfl rfl⟩
  | false=>exact aN ⟨(by show 2≤sizeLine;decide),dH k rfl rfl⟩
theorem Oo:aO ["number"] ["number"] (aH pY):=⟨rfl,rfl,rfl,by decide +kernel,rfl,by decide +kernel,by decide +kernel⟩
theorem KY{f:Addr}{fd:FuncData}(F:Fn K mg "sign_of" pY f fd ["number"]):aL P w K mg base (bc P w) 1 f fd ["number"] Bj:=by
 refine dz F.F Oo (fun vs H Q E h=>?_) (fun cdv A outer s H vs Q E j h=>?_)
 ·obtain⟨_,rfl,_⟩:=h
  rfl
 ·obtain⟨n,rfl,k⟩:=h
  refine⟨_,aj (aR (aD aY (pv 0) ao (aG _)) (ak (aB ao)) aF) (ak (aB (eF (aD km (pv 0) ao (aG _)) ao (dY cM ao)))),?_⟩
  refine⟨_,rfl,rfl,_,rfl,bC (fun h1=>?_) fun h1=>?_⟩
  ·have h1:n=0:=V.int.inj (mn h1)
   subst h1
   exact k
  ·have h1:n≠0:=fun z=>h1 (mi (by rw[z]))
   refine⟨_,rfl,_,_,rfl,rfl,_,rfl,bC (fun h2=>?_) fun h2=>?_⟩
   ·have h2:0<n:=mn h2
    rw[ml (by lia),ml h1]at k
    exact k
   ·have h2:¬0<n:=fun z=>h2 (mi z)
    rw[mr (by lia)]at k
    exact⟨1,rfl,k⟩
theorem R9:aO ["left","right"] ["left","right"] (aH rD):=⟨rfl,rfl,rfl,by decide +kernel,rfl,by decide +kernel,by decide +kernel⟩
theorem Cp{f:Addr}{fd:FuncData}(F:Fn K mg "order_of" rD f fd ["left","right"]):aL P w K mg base (bc P w) 1 f fd ["left","right"] y_:=by
 refine dz F.F R9 (fun vs H Q E h=>?_) (fun cdv A outer s H vs Q E J h=>?_)
 ·obtain⟨_,_,_,_,rfl,_⟩:=h
  rfl
 ·obtain⟨t,u,q,r,rfl,z,j,G,D,k⟩:=h
  refine⟨_,ak (aB (bL ji (bL oY (aQ aU (pv 0) ao (fun _ _=>rfl)) (aQ aU (pv 1) ao (fun _ _=>rfl))) (bL oY (aQ aU (pv 1) ao (fun _ _=>rfl)) (aQ aU (pv 0) ao (fun _ _=>rfl))))),?_⟩
  exact⟨_,rfl,t,_,_,_,rfl,rfl,bN.of z,at0 _ _,_,rfl,u,_,_,_,rfl,rfl,bN.of j,at1 _ _,_,_,rfl,rfl,.inl G.n,_,rfl,u,_,_,_,rfl,rfl,bN.of j,at0 _ _,_,rfl,t,_,_,_,rfl,rfl,bN.of z,at1 _ _,_,_,rfl,rfl,.inl D.n,_,_,rfl,rfl,k⟩
theorem Ye:aO ["value"] ["value"] (aH Ft):=⟨rfl,rfl,rfl,by decide +kernel,rfl,by decide +kernel,by decide +kernel⟩
theorem Gr{f:Addr}{fd:FuncData}(F:Fn K mg "opposite" Ft f fd ["value"]):aL P w K mg base (bc P w) 1 f fd ["value"] H_:=by
 refine dz F.F Ye (fun vs H Q E h=>?_) (fun cdv A outer s H vs Q E z h=>?_)
 ·obtain⟨_,_,rfl,_⟩:=h
  rfl
 ·obtain⟨t,q,rfl,j,k⟩:=h
  refine⟨_,ak (aB (bw (aa (dY cM (aQ aU (pv 0) ao (fun _ _=>rfl))) (aa (aQ aU (pv 0) ao (fun _ _=>rfl)) aq)))),?_⟩
  exact⟨_,rfl,t,_,_,_,rfl,rfl,bN.of j,at0 _ _,q.1,rfl,_,rfl,t,_,_,_,rfl,rfl,bN.of j,at1 _ _,(by show 2≤sizeLine;decide),dH k rfl rfl⟩
theorem Bp:aO ["numerator","denominator","divisor"] ["numerator","denominator"] (aH m8):=⟨rfl,rfl,rfl,by decide +kernel,rfl,by decide +kernel,by decide +kernel⟩
theorem K6{f J:Addr}{fd L:FuncData}(F:Fn K mg "lowest_terms" m8 f fd ["numerator","denominator"])(T:CF K mg)(j:Fn K mg "common_divisor" Fw J L ["a","b"]):aL P w K mg base (bc P w) 2 f fd ["numerator","denominator"] pL:=by
 have S:aL P w K mg base (bc P w) 1 J L ["a","b"] Oa:=Qq j
 refine dz F.F Bp (fun vs H Q E h=>?_) (fun cdv A outer s H vs Q E U h=>?_)
 ·obtain⟨_,_,rfl,_⟩:=h
  rfl
 ·obtain⟨n,d,rfl,hd,O,k⟩:=h
  refine⟨_,aj (a_ (i:=2) Bp.nd rfl (Or.inl rfl) (aK S U rfl j.m j.F.kp j.b .nil passes (aa (bH qF (by rfl) T.abs (by decide +kernel) (aa (pv 0) aq)) (aa (pv 1) aq))))
   (ak (aB (bw (aa (bL lW (pv 0) (pv 2)) (aa (bL lW (pv 1) (pv 2)) aq))))),?_⟩
  have Y:0<Nat.gcd n.natAbs d:=Nat.gcd_pos_of_pos_right _ hd
  have z:Nat.gcd n.natAbs d≤d:=Nat.le_of_dvd hd (Nat.gcd_dvd_right _ _)
  have G:JT n ((Nat.gcd n.natAbs d:Nat):Int):=⟨by lia,zT (l6 z O)⟩
  have D:JT (d:Int) ((Nat.gcd n.natAbs d:Nat):Int):=G
  refine⟨_,rfl,n,rfl,_,rfl,n.natAbs,d,?_,?_⟩
  ·have:(if n<0 then -n else n)=(n.natAbs:Int):=by split<;>lia
   rw[this]
   rfl
  ·exact⟨_,rfl,_,rfl,_,_,rfl,rfl,G,_,rfl,_,rfl,_,_,rfl,rfl,D,(by show 2≤sizeLine;decide),dH k rfl (by show(d:Int) / ((Nat.gcd n.natAbs d:Nat):Int)=((d / Nat.gcd n.natAbs d:Nat):Int);rw[Int.natCast_ediv])⟩
theorem Pq{a b:Nat}(h1:a<2 ^ 64)(h2:b<2 ^ 900):a*b<2 ^ 1000:=by
 have:a*b≤2 ^ 64*2 ^ 900:=Nat.mul_le_mul (Nat.le_of_lt h1) (Nat.le_of_lt h2)
 have:2 ^ 64*2 ^ 900<2 ^ 1000:=by decide +kernel
 lia
theorem Sh:aO ["left","right"] ["left","right"] (aH rE):=⟨rfl,rfl,rfl,by decide +kernel,rfl,by decide +kernel,by decide +kernel⟩
theorem Qv{f fL:Addr}{fd dL:FuncData}(F:Fn K mg "added" rE f fd ["left","right"])(D:Fn K mg "lowest_terms" m8 fL dL ["numerator","denominator"])(J:aL P w K mg base (bc P w) 2 fL dL ["numerator","denominator"] pL):aL P w K mg base (bc P w) 3 f fd ["left","right"] uE:=by
 refine dz F.F Sh (fun vs H Q E h=>?_) (fun cdv A outer s H vs Q E O h=>?_)
 ·obtain⟨_,_,_,_,rfl,_⟩:=h
  rfl
 ·obtain⟨t,u,q,r,rfl,G,j,z,S,U,L,k⟩:=h
  refine⟨_,ak (aB (aK J O rfl D.m D.F.kp D.b .nil passes (aa (bL gM (bL oY (aQ aU (pv 0) ao (fun _ _=>rfl)) (aQ aU (pv 1) ao (fun _ _=>rfl))) (bL oY (aQ aU (pv 1) ao (fun _ _=>rfl)) (aQ aU (pv 0) ao (fun _ _=>rfl)))) (aa (bL oY (aQ aU (pv 0) ao (fun _ _=>rfl)) (aQ aU (pv 1) ao (fun _ _=>rfl))) aq)))),?_⟩
  refine⟨_,rfl,t,_,_,_,rfl,rfl,bN.of G,at0 _ _,_,rfl,u,_,_,_,rfl,rfl,bN.of j,at1 _ _,_,_,rfl,rfl,.inl z.n,_,rfl,u,_,_,_,rfl,rfl,bN.of j,at0 _ _,_,rfl,t,_,_,_,rfl,rfl,bN.of G,at1 _ _,_,_,rfl,rfl,.inr z.d,_,_,rfl,rfl,_,rfl,t,_,_,_,rfl,rfl,bN.of G,at1 _ _,_,rfl,u,_,_,_,rfl,rfl,bN.of j,at1 _ _,_,_,rfl,rfl,.inl z.d,q.1*(r.2:Nat)+r.1*(q.2:Nat),q.2*r.2,?_,Nat.mul_pos (by assumption) (by assumption),Pq z.2 L,k⟩
  rw[Int.natCast_mul]
  rfl
theorem Wd:aO ["left","right"] ["left","right"] (aH vK):=⟨rfl,rfl,rfl,by decide +kernel,rfl,by decide +kernel,by decide +kernel⟩
theorem Tn{f fL:Addr}{fd dL:FuncData}(F:Fn K mg "multiplied" vK f fd ["left","right"])(z:Fn K mg "lowest_terms" m8 fL dL ["numerator","denominator"])(J:aL P w K mg base (bc P w) 2 fL dL ["numerator","denominator"] pL):aL P w K mg base (bc P w) 3 f fd ["left","right"] vf:=by
 refine dz F.F Wd (fun vs H Q E h=>?_) (fun cdv A outer s H vs Q E O h=>?_)
 ·obtain⟨_,_,_,_,rfl,_⟩:=h
  rfl
 ·obtain⟨t,u,q,r,rfl,G,j,D,S,U,L,k⟩:=h
  refine⟨_,ak (aB (aK J O rfl z.m z.F.kp z.b .nil passes (aa (bL oY (aQ aU (pv 0) ao (fun _ _=>rfl)) (aQ aU (pv 1) ao (fun _ _=>rfl))) (aa (bL oY (aQ aU (pv 0) ao (fun _ _=>rfl)) (aQ aU (pv 1) ao (fun _ _=>rfl))) aq)))),?_⟩
  refine⟨_,rfl,t,_,_,_,rfl,rfl,bN.of G,at0 _ _,_,rfl,u,_,_,_,rfl,rfl,bN.of j,at0 _ _,_,_,rfl,rfl,.inl D.n,_,rfl,t,_,_,_,rfl,rfl,bN.of G,at1 _ _,_,rfl,u,_,_,_,rfl,rfl,bN.of j,at1 _ _,_,_,rfl,rfl,.inl D.d,q.1*r.1,q.2*r.2,?_,Nat.mul_pos (by assumption) (by assumption),Pq D.2 L,k⟩
  rw[Int.natCast_mul]
  rfl
theorem Yi:aO ["value"] ["value"] (aH Fv):=⟨rfl,rfl,rfl,by decide +kernel,rfl,by decide +kernel,by decide +kernel⟩
theorem Gs{f:Addr}{fd:FuncData}(F:Fn K mg "inverse" Fv f fd ["value"]):aL P w K mg base (bc P w) 1 f fd ["value"] Ia:=by
 refine dz F.F Yi (fun vs H Q E h=>?_) (fun cdv A outer s H vs Q E D h=>?_)
 ·obtain⟨_,_,rfl,_⟩:=h
  rfl
 ·obtain⟨t,q,rfl,j,k⟩:=h
  refine⟨_,aj (aR (aD iG (aQ aU (pv 0) ao (fun _ _=>rfl)) ao (aG _)) (ak (aB (bw (aa (dY cM (aQ aU (pv 0) ao (fun _ _=>rfl))) (aa (dY cM (aQ aU (pv 0) ao (fun _ _=>rfl))) aq))))) aF)
   (ak (aB (bw (aa (aQ aU (pv 0) ao (fun _ _=>rfl)) (aa (aQ aU (pv 0) ao (fun _ _=>rfl)) aq))))),?_⟩
  refine⟨_,rfl,t,_,_,_,rfl,rfl,bN.of j,at0 _ _,_,_,rfl,rfl,_,rfl,bC (fun h1=>?_) fun h1=>?_⟩
  ·have h1:q.1<0:=mn h1
   have e:FM.inv q=(-(q.2:Int),q.1.natAbs):=by unfold FM.inv;rw[mr h1]
   rw[e]at k
   exact⟨_,rfl,t,_,_,_,rfl,rfl,bN.of j,at1 _ _,(q.2:Nat),rfl,_,rfl,t,_,_,_,rfl,rfl,bN.of j,at0 _ _,q.1,rfl,(by show 2≤sizeLine;decide),dH k rfl (by show -q.1=(q.1.natAbs:Int);lia)⟩
  ·have h1:¬q.1<0:=fun z=>h1 (mi z)
   have e:FM.inv q=((q.2:Int),q.1.natAbs):=by unfold FM.inv;rw[ml h1]
   rw[e]at k
   exact⟨_,rfl,t,_,_,_,rfl,rfl,bN.of j,at1 _ _,_,rfl,t,_,_,_,rfl,rfl,bN.of j,at0 _ _,(by show 2≤sizeLine;decide),dH k rfl (by show q.1=(q.1.natAbs:Int);lia)⟩
theorem Hb{r:Vbdeaa.Q}(h:Bd r):(FM.inv r).2<2 ^ 900∧(FM.inv r).2<2 ^ 64:=by
 have e:(FM.inv r).2=r.1.natAbs:=by unfold FM.inv;split<;>rfl
 rw[e]
 exact⟨Nat.lt_trans h.1 (by decide +kernel),h.1⟩
theorem Jz{q r:Vbdeaa.Q}(j:1≤q.2)(h0:r.1≠0):Vbdeaa.mul q (FM.inv r)=Vbdeaa.div q r:=by rw[FM.uO j h0];rfl
theorem Jt{n:Int}{d:Nat}:(Vbdeaa.frac n d).2≤d:=Nat.div_le_self _ _
theorem Uu{q r:Vbdeaa.Q}(z:1≤q.2)(D:Bd q)(j:Bd r)(h0:r.1≠0):1≤(Vbdeaa.div q r).2∧(Vbdeaa.div q r).2<2 ^ 1000:=by
 rw[FM.uO z h0]
 exact⟨FM.mz _ (Nat.mul_pos (by assumption) (FM.jc h0)),l6 Jt (Pq D.2 (Hb j).1)⟩
theorem Ov:aO ["left","right","quotient"] ["left","right"] (aH yp):=⟨rfl,rfl,rfl,by decide +kernel,rfl,by decide +kernel,by decide +kernel⟩
theorem Tz{f fM fI:Addr}{fd dM dI:FuncData}(F:Fn K mg "divided_down" yp f fd ["left","right"])(j:Fn K mg "multiplied" vK fM dM ["left","right"])(GM:aL P w K mg base (bc P w) 3 fM dM ["left","right"] vf)(FI:Fn K mg "inverse" Fv fI dI ["value"]):aL P w K mg base (bc P w) 4 f fd ["left","right"] zj:=by
 have GI:aL P w K mg base (bc P w) 1 fI dI ["value"] Ia:=Gs FI
 refine dz F.F Ov (fun vs H Q E h=>?_) (fun cdv A outer s H vs Q E L h=>?_)
 ·obtain⟨_,_,_,_,rfl,_⟩:=h
  rfl
 ·obtain⟨t,u,q,r,rfl,S,G,O,J,z,Y,h0,k⟩:=h
  have D:bB 1 _:=L.mono (by decide)
  refine⟨_,aj (a_ (i:=2) Ov.nd rfl (Or.inl rfl) (aK GM L rfl j.m j.F.kp j.b .nil passes (aa (pv 0) (aa (aK GI D rfl FI.m FI.F.kp FI.b .nil passes (aa (pv 1) aq)) aq))))
   (ak (aB (bw (aa (bL lW (aQ aU (pv 2) ao (fun _ _=>rfl)) (aQ aU (pv 2) ao (fun _ _=>rfl))) (aa ao aq))))),?_⟩
  refine⟨_,rfl,_,rfl,u,r,rfl,G,fun v H1 s1 U=>?_⟩
  refine⟨t,v,q,FM.inv r,rfl,S.same s1,U,O,z,FM.jc h0,(Hb J).1,fun x H2 s2 hx=>?_⟩
  rw[Jz z h0]at hx
  obtain⟨d1,d2⟩:=Uu z O J h0
  exact⟨_,rfl,x,_,_,_,rfl,rfl,bN.of hx,at0 _ _,_,rfl,x,_,_,_,rfl,rfl,bN.of hx,at1 _ _,_,_,rfl,rfl,⟨by lia,zT d2⟩,(by show 2≤sizeLine;decide),dH (k.mono (s1.trans s2)) rfl rfl⟩
theorem V_:aO ["left","right"] ["left","right"] (aH Bt):=⟨rfl,rfl,rfl,by decide +kernel,rfl,by decide +kernel,by decide +kernel⟩
theorem Tc{f fA fO fM fD:Addr}{fd dA dO dM dD:FuncData}(F:Fn K mg "rest_of" Bt f fd ["left","right"])(J:Fn K mg "added" rE fA dA ["left","right"])(GA:aL P w K mg base (bc P w) 3 fA dA ["left","right"] uE)(FO:Fn K mg "opposite" Ft fO dO ["value"])
  (j:Fn K mg "multiplied" vK fM dM ["left","right"]) (GM:aL P w K mg base (bc P w) 3 fM dM ["left","right"] vf) (G:Fn K mg "divided_down" yp fD dD ["left","right"]) (GD:aL P w K mg base (bc P w) 4 fD dD ["left","right"] zj):aL P w K mg base (bc P w) 5 f fd ["left","right"] Ez:=by
 have GO:aL P w K mg base (bc P w) 1 fO dO ["value"] H_:=Gr FO
 refine dz F.F V_ (fun vs H Q E h=>?_) (fun cdv A outer s H vs Q E S h=>?_)
 ·obtain⟨_,_,_,_,rfl,_⟩:=h
  rfl
 ·obtain⟨t,u,q,r,rfl,Y,z,bq,L,Z,pr,h0,k⟩:=h
  have O:bB 1 _:=S.mono (by decide)
  have D:bB 3 _:=S.mono (by decide)
  refine⟨_,ak (aB (aK GA D rfl J.m J.F.kp J.b .nil passes (aa (pv 0) (aa (aK GO O rfl FO.m FO.F.kp FO.b .nil passes (aa (aK GM D rfl j.m j.F.kp j.b .nil passes (aa (pv 1) (aa (aK GD S rfl G.m G.F.kp G.b .nil passes (aa (pv 0) (aa (pv 1) aq))) aq))) aq)) aq)))),?_⟩
  refine⟨_,rfl,_,rfl,_,rfl,_,rfl,t,u,q,r,rfl,Y,z,bq,L,Z,pr,h0,fun v H1 s1 hv=>?_⟩
  refine⟨u,v,r,_,rfl,z.same s1,hv,L,pr,i' 1,(by show 1<2 ^ 900;decide +kernel),fun x H2 s2 hx=>?_⟩
  refine⟨x,_,rfl,hx,fun y H3 s3 hy=>?_⟩
  have U:1≤(Vbdeaa.mul r (Vbdeaa.whole (Vbdeaa.floor (Vbdeaa.div q r)))).2∧(Vbdeaa.mul r (Vbdeaa.whole (Vbdeaa.floor (Vbdeaa.div q r)))).2<2 ^ 900:=by
   refine⟨FM.mz _ (Nat.mul_pos (by assumption) (i' 1)),l6 Jt ?_⟩
   show r.2*1<2 ^ 900
   rw[Nat.mul_one]
   exact Nat.lt_trans L.2 (by decide +kernel)
  refine⟨t,y,q,_,rfl,Y.same ((s1.trans s2).trans s3),hy,bq,Z,U.1,U.2,?_⟩
  have:=k.mono ((s1.trans s2).trans s3)
  rw[FM.HQ]at this
  exact this
theorem m5:aO ["value","times","numerator","denominator","step"] ["value","times"] (aH vJ):=⟨rfl,rfl,rfl,by decide +kernel,rfl,by decide +kernel,by decide +kernel⟩
theorem Qm{f fS:Addr}{fd dS:FuncData}(F:Fn K mg "multiplied_often" vJ f fd ["value","times"])(j:mg "range"=none)(L:Fn K mg "is_small" rB fS dS ["value"])(GS:aL P w K mg base (bc P w) 1 fS dS ["value"] uC):aL P w K mg base (bc P w) 2 f fd ["value","times"] za:=by
 refine dz F.F m5 (fun vs H Q E h=>?_) (fun cdv A outer s H vs Q E hr h=>?_)
 ·obtain⟨_,_,_,rfl,_⟩:=h
  rfl
 ·obtain⟨t,q,k0,rfl,Z,U,pq,hk,k⟩:=h
  refine⟨_,aj (a_ (i:=2) m5.nd rfl (Or.inl rfl) ao) (aj (a_ (i:=3) m5.nd rfl (Or.inl rfl) ao)
   (aj (lN rH rfl (Ky rfl j (aa (pv 1) aq)) (bT (i:=4) m5.nd rfl (Or.inl rfl))
    (aj (zK (i:=2) m5.nd rfl (Or.inl rfl) (aQ aU (pv 0) ao (fun _ _=>rfl)) Jl)
    (aj (zK (i:=3) m5.nd rfl (Or.inl rfl) (aQ aU (pv 0) ao (fun _ _=>rfl)) Jl)
    (ak (aR (iC (fc (aK GS hr rfl L.m L.F.kp L.b .nil passes (aa (bw (aa (pv 2) (aa (pv 3) aq))) aq)))) (ak (aB oW)) aF)))))
   (ak (aB (bw (aa (pv 2) (aa (pv 3) aq))))))),?_⟩
  refine⟨_,rfl,(k0:Int),rfl,by lia,by lia,?_⟩
  rw[Int.toNat_natCast]
  refine L_ (n:=k0) (fun i σ H'=>∃v4:Option V,σ=[some (.ref t),some (.int k0),some (.int (FM.pw q i).1),some (.int ((FM.pw q i).2:Nat)),v4]∧az H H'∧FM.Small (FM.pw q i)) ⟨none,?_,az.refl H,?_⟩ ?_ ?_
  ·show _=[some (V.ref t),some (V.int k0),some (V.int (q.1 ^ 0)),some (V.int ((q.2 ^ 0:Nat):Int)),none]
   rw[Int.pow_zero,Nat.pow_zero]
   rfl
  ·show(q.1 ^ 0).natAbs≤10 ^ 18∧q.2 ^ 0≤10 ^ 18
   rw[Int.pow_zero,Nat.pow_zero]
   exact⟨by decide,by decide⟩
  ·rintro i σ H' hi ⟨v4,rfl,s1,S⟩
   have J:=Z.same s1
   have Y:(FM.pw q i).1*q.1=(FM.pw q (i+1)).1:=(Int.pow_succ q.1 i).symm
   have e2:((FM.pw q i).2:Int)*((q.2:Nat):Int)=((FM.pw q (i+1)).2:Nat):=by
    rw[←Int.natCast_mul]
    congr 1
   refine⟨_,rfl,_,rfl,t,_,_,_,rfl,rfl,bN.of J,at0 _ _,_,_,rfl,rfl,.inr U.n,?_⟩
   refine⟨_,rfl,_,rfl,t,_,_,_,rfl,rfl,bN.of J,at1 _ _,_,_,rfl,rfl,.inr U.d,?_⟩
   rw[Y,e2]
   refine⟨_,rfl,_,rfl,(by show 2≤sizeLine;decide),fun T hT=>⟨T,FM.pw q (i+1),rfl,au,_,rfl,?_⟩⟩
   have s2:=s1.trans (az.upd (o:=.tup [.int (FM.pw q (i+1)).1,.int ((FM.pw q (i+1)).2:Nat)]) hT)
   cases D:zp (FM.pw q (i+1))with
   | true=>exact aN ⟨_,rfl,s2,pM.mp D⟩
   | false =>
    have O:iI q k0=none:=by
     unfold iI
     rw[ml]
     intro z
     have h1:¬FM.Small (FM.pw q (i+1)):=fun y=>by rw[pM.mpr y]at D;cases D
     exact FM.Wm h1 (show i+1≤k0 by assumption) (pM.mp z)
    rw[O]at k
    exact bj (k _ s2)
  ·rintro σ H' ⟨v4,rfl,s1,S⟩
   have G:iI q k0=some (FM.pw q k0):=by unfold iI;rw[mr (pM.mpr S)]
   rw[G]at k
   exact⟨_,rfl,_,rfl,(by show 2≤sizeLine;decide),dH (gQ.mono (show gQ H Q (FM.pw q k0)from k) s1) rfl rfl⟩
end
end SB
end
section
namespace SB
open PySem PySem.Spec PyProof.Rows L2 XL
open Vbdeaa (Text Exp Exps Un Bin Ins)
variable {P:Program} {w:World} {K:PySem.W.Frag} {mg:Str→Option Value} {base:Heap}
structure CA (K:PySem.W.Frag) (mg:Str→Option Value):Prop where
 NEG:GC K mg "NEGATE" (.i 0)
 NOT:GC K mg "NOT" (.i 1)
 FLO:GC K mg "FLOOR" (.i 2)
 CEI:GC K mg "CEIL" (.i 3)
 ABS:GC K mg "ABS" (.i 4)
 SIG:GC K mg "SIGN" (.i 5)
 NUM:GC K mg "NUM" (.i 6)
 PLU:GC K mg "PLUS" (.i 0)
 MIN:GC K mg "MINUS" (.i 1)
 TIM:GC K mg "TIMES" (.i 2)
 DIV:GC K mg "DIVIDE" (.i 3)
 DOW:GC K mg "DIVIDE_DOWN" (.i 4)
 RES:GC K mg "REST" (.i 5)
 POW:GC K mg "POWER" (.i 6)
 EQU:GC K mg "EQUAL" (.i 7)
 UNE:GC K mg "UNEQUAL" (.i 8)
 BEL:GC K mg "BELOW" (.i 9)
 ATM:GC K mg "AT_MOST" (.i 10)
 ABO:GC K mg "ABOVE" (.i 11)
 LEA:GC K mg "LEAST" (.i 0)
 GRE:GC K mg "GREATEST" (.i 1)
 HEX:GC K mg "HIGHEST_EXPONENT" (.i 64)
noncomputable def ug(q r:Vbdeaa.Q):Option Vbdeaa.Q:=if r.2≠1∨64<r.1.natAbs then none else if 0≤r.1 then iI q r.1.toNat else if q.1=0 then none else iI (FM.inv q) r.1.natAbs
noncomputable def qZ:Sp:=fun vs H Q _=>∃(t u:Addr)(q r:Vbdeaa.Q),vs=[.ref t,.ref u]∧VA H q t∧VA H r u∧Bd q∧1≤q.2∧oh H Q (ug q r)
noncomputable def EY:Sp:=fun vs H Q _=>∃(t:Addr)(q:Vbdeaa.Q)(o:Un),vs=[.int (yS o),.ref t]∧VA H q t∧1≤q.2∧Bd q∧gQ H Q (Vbdeaa.unary o q)
noncomputable def Dr:Bin→Vbdeaa.Q→Vbdeaa.Q→Bool
 | .eq,a,b=>Vbdeaa.same a b
 | .ne,a,b=>!Vbdeaa.same a b
 | .lt,a,b=>Vbdeaa.lt a b
 | .le,a,b=>Vbdeaa.le a b
 | .gt,a,b=>Vbdeaa.lt b a
 | .ge,a,b=>Vbdeaa.le b a
 | _,_,_=>false
noncomputable def wB:Bin→Bool
 | .eq=>true | .ne=>true | .lt=>true | .le=>true | .gt=>true | .ge=>true
 | _=>false
noncomputable def Oe:Sp:=fun vs H Q _=>∃(t u:Addr)(q r:Vbdeaa.Q)(o:Bin),vs=[.int (eZ o),.ref t,.ref u]∧wB o=true∧VA H q t∧VA H r u∧Bd q∧Bd r∧gQ H Q (Vbdeaa.truth (Dr o q r))
noncomputable def xW:Bin→Vbdeaa.Q→Vbdeaa.Q→Option Vbdeaa.Q
 | .add,q,r=>some (Vbdeaa.add q r)
 | .sub,q,r=>some (Vbdeaa.sub q r)
 | .mul,q,r=>some (Vbdeaa.mul q r)
 | .div,q,r=>if r.1=0 then none else some (Vbdeaa.div q r)
 | .quo,q,r=>if r.1=0 then none else some (Vbdeaa.whole (Vbdeaa.floor (Vbdeaa.div q r)))
 | .rem,q,r=>if r.1=0 then none else some (Vbdeaa.sub q (Vbdeaa.mul r (Vbdeaa.whole (Vbdeaa.floor (Vbdeaa.div q r)))))
 | .pow,q,r=>ug q r
 | _,_,_=>none
noncomputable def Ex:Sp:=fun vs H Q _=>∃(t u:Addr)(q r:Vbdeaa.Q)(o:Bin),vs=[.int (eZ o),.ref t,.ref u]∧wB o=false∧VA H q t∧VA H r u∧Bd q∧Bd r∧1≤q.2∧1≤r.2∧oh H Q (xW o q r)
noncomputable def yU(o:Bin)(q r:Vbdeaa.Q):Option Vbdeaa.Q:=match Vbdeaa.binary o q r with
 | .ok v=>some v
 | .error _=>none
noncomputable def Ny:Sp:=fun vs H Q _=>∃(t u:Addr)(q r:Vbdeaa.Q)(o:Bin),vs=[.int (eZ o),.ref t,.ref u]∧VA H q t∧VA H r u∧FM.Small q∧FM.Small r∧FM.Good q∧FM.Good r∧oh H Q (yU o q r)
noncomputable def yZ:Sp:=fun vs H Q _=>∃(l t:Addr)(ts:List Addr)(q:Vbdeaa.Q)(j:List Vbdeaa.Q)(g:Bool),vs=[.int (if g=true then 1 else 0),.ref l]∧H l=some (.lst ((t::ts).map V.ref))∧VA H q t∧Paired (VA H) j ts∧Bd q∧(∀r∈j,Bd r)∧gQ H Q (j.foldl (Vbdeaa.better g) q)
noncomputable abbrev lG:Stmt:=top 87
noncomputable abbrev Bw:Stmt:=top 88
noncomputable abbrev O7:Stmt:=top 89
noncomputable abbrev Br:Stmt:=top 90
noncomputable abbrev Bs:Stmt:=top 91
noncomputable abbrev vH:Stmt:=top 92
theorem g8{v:Vbdeaa.Q}(h:1≤v.2):(match Vbdeaa.capped v with | .ok v=>some v | .error _=>none)=if zp v=true then some v else none:=by
 unfold Vbdeaa.capped
 have e:Vbdeaa.small v=zp v:=by rw[l9,FM.yj h,pM]
 rw[e]
 cases zp v<;>rfl
theorem Ni{o:Bin}{q r:Vbdeaa.Q}(G:wB o=false)(j:FM.Good q)(F:FM.Good r):yU o q r=(xW o q r).bind fun v=>if zp v=true then some v else none:=by
 have fp:∀{n:Int}{d:Nat},0<d→1≤(Vbdeaa.frac n d).2:=fun h=>FM.mz _ h
 have z:0<q.2*r.2:=Nat.mul_pos j.1 F.1
 cases o with
 | add=>exact g8 (v:=Vbdeaa.add q r) (fp z)
 | sub=>exact g8 (v:=Vbdeaa.sub q r) (fp z)
 | mul=>exact g8 (v:=Vbdeaa.mul q r) (fp z)
 | div =>
  unfold yU xW Vbdeaa.binary
  by_cases h:r.1=0
  ·simp only[mr h];rfl
  ·simp only[ml h]
   exact g8 (v:=Vbdeaa.div q r) (by rw[FM.uO j.1 h];exact fp (Nat.mul_pos j.1 (FM.jc h)))
 | quo =>
  unfold yU xW Vbdeaa.binary
  by_cases h:r.1=0
  ·simp only[mr h];rfl
  ·simp only[ml h]
   exact g8 (v:=Vbdeaa.whole (Vbdeaa.floor (Vbdeaa.div q r))) (i' 1)
 | rem =>
  unfold yU xW Vbdeaa.binary
  by_cases h:r.1=0
  ·simp only[mr h];rfl
  ·simp only[ml h]
   exact g8 (v:=Vbdeaa.sub q (Vbdeaa.mul r (Vbdeaa.whole (Vbdeaa.floor (Vbdeaa.div q r))))) (fp (Nat.mul_pos j.1 (fp (Nat.mul_pos F.1 (i' 1)))))
 | pow =>
  have D:∀{x:Vbdeaa.Q}{k:Nat},(iI x k).bind (fun v=>if zp v=true then some v else none)=if zp (FM.pw x k)=true then some (FM.pw x k)else none:=fun{x k}=>by
   unfold iI
   by_cases h:zp (FM.pw x k)=true
   ·rw[mr h];show(if zp (FM.pw x k)=true then _ else _)=_;rw[mr h]
   ·rw[ml h];rfl
  show(match Vbdeaa.power q r with | .ok v=>some v | .error _=>none)=(ug q r).bind _
  unfold Vbdeaa.power ug
  by_cases h:r.2≠1∨64<r.1.natAbs
  ·rw[mr h,mr h];rfl
  ·rw[ml h,ml h]
   by_cases h1:0≤r.1
   ·rw[mr h1,mr h1,D]
    exact g8 (v:=FM.pw q r.1.toNat) (FM.F_ j.1 _)
   ·rw[ml h1,ml h1]
    by_cases h2:q.1=0
    ·rw[mr h2,mr h2];rfl
    ·rw[ml h2,ml h2,D,FM.QS j h2]
     exact g8 (v:=FM.pw (FM.inv q) r.1.natAbs) (FM.F_ (FM.jc h2) _)
 | _=>cases G
theorem RL{o:Bin}{q r:Vbdeaa.Q}(j:wB o=true):yU o q r=some (Vbdeaa.truth (Dr o q r)):=by
 cases o<;>first | rfl | cases j
section
theorem Kg:aO ["value","exponent"] ["value","exponent"] (aH lG):=⟨rfl,rfl,rfl,by decide +kernel,rfl,by decide +kernel,by decide +kernel⟩
theorem Gq{f fO fI:Addr}{fd dO dI:FuncData}(F:Fn K mg "powered" lG f fd ["value","exponent"])(T:CF K mg)(TA:CA K mg)(FO:Fn K mg "multiplied_often" vJ fO dO ["value","times"])(Y:aL P w K mg base (bc P w) 2 fO dO ["value","times"] za)(FI:Fn K mg "inverse" Fv fI dI ["value"]):aL P w K mg base (bc P w) 3 f fd ["value","exponent"] qZ:=by
 have GI:aL P w K mg base (bc P w) 1 fI dI ["value"] Ia:=Gs FI
 refine dz F.F Kg (fun vs H Q E h=>?_) (fun cdv A outer s H vs Q E S h=>?_)
 ·obtain⟨_,_,_,_,rfl,_⟩:=h
  rfl
 ·obtain⟨t,u,q,r,rfl,L,j,U,pq,k⟩:=h
  have O:bB 1 _:=S.mono (by decide)
  refine⟨_,aj (aR (PW.pt (lL (aD kh (aQ aU (pv 1) ao (fun _ _=>rfl)) ao (aG _)) (jL (aD km (bH qF (by rfl) T.abs (by decide +kernel) (aa (aQ aU (pv 1) ao (fun _ _=>rfl)) aq)) (aW rfl TA.HEX) (aG _))))) (ak (aB oW)) aF)
   (aj (aR (aD lV (aQ aU (pv 1) ao (fun _ _=>rfl)) ao (aG _)) (ak (aB (aK Y S rfl FO.m FO.F.kp FO.b .nil passes (aa (pv 0) (aa (aQ aU (pv 1) ao (fun _ _=>rfl)) aq))))) aF)
   (aj (aR (aD aY (aQ aU (pv 0) ao (fun _ _=>rfl)) ao (aG _)) (ak (aB oW)) aF)
   (ak (aB (aK Y S rfl FO.m FO.F.kp FO.b .nil passes (aa (aK GI O rfl FI.m FI.F.kp FI.b .nil passes (aa (pv 0) aq)) (aa (dY cM (aQ aU (pv 1) ao (fun _ _=>rfl))) aq))))))),?_⟩
  have no:(r.2≠1∨64<r.1.natAbs)→Q .non H:=fun h=>by
   have e:ug q r=none:=by unfold ug;rw[mr h]
   rw[e]at k
   exact k H (az.refl H)
  refine⟨_,rfl,u,_,_,_,rfl,rfl,bN.of j,at1 _ _,rfl,_,rfl,?_⟩
  refine bC (fun h1=>?_) fun h1=>?_
  ·have h1:(!decide (V.int ((r.2:Nat):Int)=V.int 1))=true:=h1
   refine bj (no (.inl fun z=>?_))
   rw[z,mi (show V.int ((1:Nat):Int)=V.int 1 from rfl)]at h1
   cases h1
  have h1:r.2=1:=by
   apply Classical.byContradiction
   intro z
   have h1:¬(!decide (V.int ((r.2:Nat):Int)=V.int 1))=true:=h1
   exact h1 (by rw[mu (fun y=>z (by have:=V.int.inj y;lia))];rfl)
  refine⟨_,rfl,u,_,_,_,rfl,rfl,bN.of j,at0 _ _,r.1,rfl,_,_,rfl,rfl,_,rfl,?_⟩
  have Z:((64:Int)<(if r.1<0 then -r.1 else r.1))↔64<r.1.natAbs:=by split<;>lia
  refine bC (fun h2=>no (.inr (Z.mp (mn h2)))) fun h2=>?_
  have h2:¬64<r.1.natAbs:=fun z=>h2 (mi (Z.mpr z))
  have J:¬(r.2≠1∨64<r.1.natAbs):=fun z=>z.elim (fun y=>y h1) h2
  refine⟨_,rfl,u,_,_,_,rfl,rfl,bN.of j,at0 _ _,_,_,rfl,rfl,_,rfl,bC (fun D=>?_) fun D=>?_⟩
  ·have D:0≤r.1:=mn D
   have e:ug q r=iI q r.1.toNat:=by unfold ug;rw[ml J,mr D]
   rw[e]at k
   exact⟨_,rfl,_,rfl,u,_,_,_,rfl,rfl,bN.of j,at0 _ _,t,q,r.1.toNat,by rw[l7 D];rfl,L,U,pq,by lia,k⟩
  ·have D:¬0≤r.1:=fun z=>D (mi z)
   refine⟨_,rfl,t,_,_,_,rfl,rfl,bN.of L,at0 _ _,rfl,_,rfl,bC (fun G=>?_) fun G=>?_⟩
   ·have G:q.1=0:=V.int.inj (mn G)
    have e:ug q r=none:=by unfold ug;rw[ml J,ml D,mr G]
    rw[e]at k
    exact k H (az.refl H)
   ·have G:q.1≠0:=fun z=>G (mi (by rw[z]))
    have e:ug q r=iI (FM.inv q) r.1.natAbs:=by unfold ug;rw[ml J,ml D,ml G]
    rw[e]at k
    refine⟨_,rfl,t,q,rfl,L,fun v H1 s1 hv=>?_⟩
    have bi:Bd (FM.inv q):=by
     have e2:(FM.inv q).2=q.1.natAbs:=by unfold FM.inv;split<;>rfl
     have e1:(FM.inv q).1.natAbs=q.2:=by unfold FM.inv;split<;>(show Int.natAbs _=_;lia)
     exact⟨by rw[e1];exact U.2,by rw[e2];exact U.1⟩
    exact⟨_,rfl,u,_,_,_,rfl,rfl,bN.of (j.same s1),at0 _ _,r.1,rfl,v,FM.inv q,r.1.natAbs,by rw[show((r.1.natAbs:Nat):Int)=-r.1 by lia];rfl,hv,bi,FM.jc G,by lia,k.mono s1⟩
theorem Wc:aO ["operation","value"] ["operation","value"] (aH Bw):=⟨rfl,rfl,rfl,by decide +kernel,rfl,by decide +kernel,by decide +kernel⟩
theorem Tg{f fO fT fS:Addr}{fd dO dT dS:FuncData}(F:Fn K mg "result_of_one" Bw f fd ["operation","value"])(T:CF K mg)(TA:CA K mg)(FO:Fn K mg "opposite" Ft fO dO ["value"])(D:Fn K mg "truth" rA fT dT ["holds"])(G:Fn K mg "sign_of" pY fS dS ["number"]):aL P w K mg base (bc P w) 2 f fd ["operation","value"] EY:=by
 have O:aL P w K mg base (bc P w) 1 fO dO ["value"] H_:=Gr FO
 have GT:aL P w K mg base (bc P w) 1 fT dT ["holds"] uB:=Cm D
 have GS:aL P w K mg base (bc P w) 1 fS dS ["number"] Bj:=KY G
 refine dz F.F Wc (fun vs H Q E h=>?_) (fun cdv A outer s H vs Q E J h=>?_)
 ·obtain⟨_,_,_,rfl,_⟩:=h
  rfl
 ·obtain⟨t,q,o,rfl,j,U,S,k⟩:=h
  refine⟨_,aj (aR (aD aY (pv 0) (aW rfl TA.NEG) (aG _)) (ak (aB (aK O J rfl FO.m FO.F.kp FO.b .nil passes (aa (pv 1) aq)))) aF)
   (aj (aR (aD aY (pv 0) (aW rfl TA.NOT) (aG _)) (ak (aB (aK GT J rfl D.m D.F.kp D.b .nil passes (aa (bW aY (aQ aU (pv 1) ao (fun _ _=>rfl)) ao (aG _)) aq)))) aF)
   (aj (aR (aD aY (pv 0) (aW rfl TA.FLO) (aG _)) (ak (aB (bw (aa (bL lW (aQ aU (pv 1) ao (fun _ _=>rfl)) (aQ aU (pv 1) ao (fun _ _=>rfl))) (aa ao aq))))) aF)
   (aj (aR (aD aY (pv 0) (aW rfl TA.CEI) (aG _)) (ak (aB (bw (aa (dY cM (bL lW (dY cM (aQ aU (pv 1) ao (fun _ _=>rfl))) (aQ aU (pv 1) ao (fun _ _=>rfl)))) (aa ao aq))))) aF)
   (aj (aR (aD aY (pv 0) (aW rfl TA.ABS) (aG _)) (ak (aB (bw (aa (bH qF (by rfl) T.abs (by decide +kernel) (aa (aQ aU (pv 1) ao (fun _ _=>rfl)) aq)) (aa (aQ aU (pv 1) ao (fun _ _=>rfl)) aq))))) aF)
   (aj (aR (aD aY (pv 0) (aW rfl TA.SIG) (aG _)) (ak (aB (bw (aa (aK GS J rfl G.m G.F.kp G.b .nil passes (aa (aQ aU (pv 1) ao (fun _ _=>rfl)) aq)) (aa ao aq))))) aF)
   (aj (aR (aD aY (pv 0) (aW rfl TA.NUM) (aG _)) (ak (aB (bw (aa (aQ aU (pv 1) ao (fun _ _=>rfl)) (aa ao aq))))) aF)
   (ak (aB (bw (aa (aQ aU (pv 1) ao (fun _ _=>rfl)) (aa ao aq))))))))))),?_⟩
  have two:2≤sizeLine:=by decide
  have L:∀n:Int,JT n ((q.2:Nat):Int):=fun n=>⟨by lia,zT (Nat.lt_trans S.2 (by decide +kernel))⟩
  refine⟨_,rfl,rfl,_,rfl,?_⟩
  cases o with
  | neg=>exact bj ⟨_,rfl,t,q,rfl,j,k⟩
  | not =>
   refine aN ⟨_,rfl,rfl,_,rfl,bj ⟨_,rfl,t,_,_,_,rfl,rfl,bN.of j,at0 _ _,rfl,_,rfl,?_⟩⟩
   have e:Vbdeaa.isZero q=decide (V.int q.1=V.int 0):=by
    unfold Vbdeaa.isZero
    rw[l9,mo,mo]
    exact⟨fun z=>by rw[z],fun z=>V.int.inj z⟩
   have k:gQ H Q (Vbdeaa.truth (Vbdeaa.isZero q)):=k
   rw[e]at k
   exact k
  | floor=>exact aN ⟨_,rfl,rfl,_,rfl,aN ⟨_,rfl,rfl,_,rfl,bj ⟨_,rfl,t,_,_,_,rfl,rfl,bN.of j,at0 _ _,_,rfl,t,_,_,_,rfl,rfl,bN.of j,at1 _ _,_,_,rfl,rfl,L _,two,dH k rfl rfl⟩⟩⟩
  | ceil=>exact aN ⟨_,rfl,rfl,_,rfl,aN ⟨_,rfl,rfl,_,rfl,aN ⟨_,rfl,rfl,_,rfl,bj ⟨_,rfl,t,_,_,_,rfl,rfl,bN.of j,at0 _ _,q.1,rfl,_,rfl,t,_,_,_,rfl,rfl,bN.of j,at1 _ _,_,_,rfl,rfl,L _,_,rfl,two,dH k rfl rfl⟩⟩⟩⟩
  | abs=>exact aN ⟨_,rfl,rfl,_,rfl,aN ⟨_,rfl,rfl,_,rfl,aN ⟨_,rfl,rfl,_,rfl,aN ⟨_,rfl,rfl,_,rfl,bj ⟨_,rfl,t,_,_,_,rfl,rfl,bN.of j,at0 _ _,q.1,rfl,_,rfl,t,_,_,_,rfl,rfl,bN.of j,at1 _ _,two,dH k (by show(if q.1<0 then -q.1 else q.1)=(q.1.natAbs:Int);split<;>lia) rfl⟩⟩⟩⟩⟩
  | sign=>exact aN ⟨_,rfl,rfl,_,rfl,aN ⟨_,rfl,rfl,_,rfl,aN ⟨_,rfl,rfl,_,rfl,aN ⟨_,rfl,rfl,_,rfl,aN ⟨_,rfl,rfl,_,rfl,bj ⟨_,rfl,t,_,_,_,rfl,rfl,bN.of j,at0 _ _,q.1,rfl,two,dH k rfl rfl⟩⟩⟩⟩⟩⟩
  | num=>exact aN ⟨_,rfl,rfl,_,rfl,aN ⟨_,rfl,rfl,_,rfl,aN ⟨_,rfl,rfl,_,rfl,aN ⟨_,rfl,rfl,_,rfl,aN ⟨_,rfl,rfl,_,rfl,aN ⟨_,rfl,rfl,_,rfl,bj ⟨_,rfl,t,_,_,_,rfl,rfl,bN.of j,at0 _ _,two,dH k rfl rfl⟩⟩⟩⟩⟩⟩⟩
  | den=>exact aN ⟨_,rfl,rfl,_,rfl,aN ⟨_,rfl,rfl,_,rfl,aN ⟨_,rfl,rfl,_,rfl,aN ⟨_,rfl,rfl,_,rfl,aN ⟨_,rfl,rfl,_,rfl,aN ⟨_,rfl,rfl,_,rfl,aN ⟨_,rfl,t,_,_,_,rfl,rfl,bN.of j,at1 _ _,two,dH k rfl rfl⟩⟩⟩⟩⟩⟩⟩
theorem Vl:aO ["operation","left","right","order"] ["operation","left","right"] (aH O7):=⟨rfl,rfl,rfl,by decide +kernel,rfl,by decide +kernel,by decide +kernel⟩
theorem jt{a b:Int}:decide (V.int a=V.int b)=decide (a=b):=by
 rw[l9,mo,mo]
 exact⟨fun z=>V.int.inj z,fun z=>by rw[z]⟩
theorem WW{f fO fT:Addr}{fd dO dT:FuncData}(F:Fn K mg "compared" O7 f fd ["operation","left","right"])(TA:CA K mg)(FO:Fn K mg "order_of" rD fO dO ["left","right"])(j:Fn K mg "truth" rA fT dT ["holds"]):aL P w K mg base (bc P w) 2 f fd ["operation","left","right"] Oe:=by
 have G:aL P w K mg base (bc P w) 1 fO dO ["left","right"] y_:=Cp FO
 have GT:aL P w K mg base (bc P w) 1 fT dT ["holds"] uB:=Cm j
 refine dz F.F Vl (fun vs H Q E h=>?_) (fun cdv A outer s H vs Q E z h=>?_)
 ·obtain⟨_,_,_,_,_,rfl,_⟩:=h
  rfl
 ·obtain⟨t,u,q,r,o,rfl,O,L,D,S,J,k⟩:=h
  refine⟨_,aj (a_ (i:=3) Vl.nd rfl (Or.inl rfl) (aK G z rfl FO.m FO.F.kp FO.b .nil passes (aa (pv 1) (aa (pv 2) aq))))
   (aj (aR (aD aY (pv 0) (aW rfl TA.EQU) (aG _)) (ak (aB (aK GT z rfl j.m j.F.kp j.b .nil passes (aa (bW aY (pv 3) ao (aG _)) aq)))) aF)
   (aj (aR (aD aY (pv 0) (aW rfl TA.UNE) (aG _)) (ak (aB (aK GT z rfl j.m j.F.kp j.b .nil passes (aa (bW kh (pv 3) ao (aG _)) aq)))) aF)
   (aj (aR (aD aY (pv 0) (aW rfl TA.BEL) (aG _)) (ak (aB (aK GT z rfl j.m j.F.kp j.b .nil passes (aa (bW iG (pv 3) ao (aG _)) aq)))) aF)
   (aj (aR (aD aY (pv 0) (aW rfl TA.ATM) (aG _)) (ak (aB (aK GT z rfl j.m j.F.kp j.b .nil passes (aa (bW kj (pv 3) ao (aG _)) aq)))) aF)
   (aj (aR (aD aY (pv 0) (aW rfl TA.ABO) (aG _)) (ak (aB (aK GT z rfl j.m j.F.kp j.b .nil passes (aa (bW km (pv 3) ao (aG _)) aq)))) aF)
   (ak (aB (aK GT z rfl j.m j.F.kp j.b .nil passes (aa (bW lV (pv 3) ao (aG _)) aq))))))))),?_⟩
  refine⟨_,rfl,_,rfl,t,u,q,r,rfl,L,D,S,J,?_⟩
  obtain⟨d,hd⟩:∃d,q.1*((r.2:Nat):Int)-r.1*((q.2:Nat):Int)=d:=⟨_,rfl⟩
  rw[hd]
  refine⟨_,rfl,rfl,_,rfl,?_⟩
  have fin:∀b:Bool,Dr o q r=b→uB [.bl b] H Q E:=fun b e=>⟨b,rfl,by rw[←e];exact k⟩
  cases o with
  | eq =>
   refine bj ⟨_,rfl,rfl,_,rfl,?_⟩
   have:=fin (decide (V.int d=V.int 0)) (by rw[jt];unfold Dr Vbdeaa.same;rw[l9,mo,mo];lia)
   obtain⟨b,e,h⟩:=this
   cases e
   exact h
  | ne =>
   refine aN ⟨_,rfl,rfl,_,rfl,bj ⟨_,rfl,rfl,_,rfl,?_⟩⟩
   have:=fin (!decide (V.int d=V.int 0)) (by rw[jt];show(!decide (q.1*((r.2:Nat):Int)=r.1*((q.2:Nat):Int)))=_;congr 1;rw[l9,mo,mo];lia)
   obtain⟨b,e,h⟩:=this
   cases e
   exact h
  | lt =>
   refine aN ⟨_,rfl,rfl,_,rfl,aN ⟨_,rfl,rfl,_,rfl,bj ⟨_,rfl,_,_,rfl,rfl,?_⟩⟩⟩
   exact fin (decide (d<0)) (by unfold Dr Vbdeaa.lt;rw[l9,mo,mo];lia)
  | le =>
   refine aN ⟨_,rfl,rfl,_,rfl,aN ⟨_,rfl,rfl,_,rfl,aN ⟨_,rfl,rfl,_,rfl,bj ⟨_,rfl,_,_,rfl,rfl,?_⟩⟩⟩⟩
   exact fin (decide (d≤0)) (by unfold Dr Vbdeaa.le;rw[l9,mo,mo];lia)
  | gt =>
   refine aN ⟨_,rfl,rfl,_,rfl,aN ⟨_,rfl,rfl,_,rfl,aN ⟨_,rfl,rfl,_,rfl,aN ⟨_,rfl,rfl,_,rfl,bj ⟨_,rfl,_,_,rfl,rfl,?_⟩⟩⟩⟩⟩
   exact fin (decide (0<d)) (by unfold Dr Vbdeaa.lt;rw[l9,mo,mo];lia)
  | ge =>
   refine aN ⟨_,rfl,rfl,_,rfl,aN ⟨_,rfl,rfl,_,rfl,aN ⟨_,rfl,rfl,_,rfl,aN ⟨_,rfl,rfl,_,rfl,aN ⟨_,rfl,_,_,rfl,rfl,?_⟩⟩⟩⟩⟩
   exact fin (decide (0≤d)) (by unfold Dr Vbdeaa.le;rw[l9,mo,mo];lia)
  | _=>cases O
end
structure AF (P:Program) (w:World) (K:PySem.W.Frag) (mg:Str→Option Value) (base:Heap) (fA fO fM fI fD fR fP:Addr) (dA dO dM dI dD dR dP:FuncData):Prop where
 A:Fn K mg "added" rE fA dA ["left","right"]
 GA:aL P w K mg base (bc P w) 3 fA dA ["left","right"] uE
 O:Fn K mg "opposite" Ft fO dO ["value"]
 M:Fn K mg "multiplied" vK fM dM ["left","right"]
 GM:aL P w K mg base (bc P w) 3 fM dM ["left","right"] vf
 I:Fn K mg "inverse" Fv fI dI ["value"]
 D:Fn K mg "divided_down" yp fD dD ["left","right"]
 GD:aL P w K mg base (bc P w) 4 fD dD ["left","right"] zj
 R:Fn K mg "rest_of" Bt fR dR ["left","right"]
 GR:aL P w K mg base (bc P w) 5 fR dR ["left","right"] Ez
 W:Fn K mg "powered" lG fP dP ["value","exponent"]
 GP:aL P w K mg base (bc P w) 3 fP dP ["value","exponent"] qZ
theorem Rq{r:Vbdeaa.Q}(h:Bd r):r.2<2 ^ 900:=Nat.lt_trans h.2 (by decide +kernel)
section
theorem V8:aO ["operation","left","right"] ["operation","left","right"] (aH Br):=⟨rfl,rfl,rfl,by decide +kernel,rfl,by decide +kernel,by decide +kernel⟩
theorem S7{f fA fO fM fI fD fR fP:Addr}{fd dA dO dM dI dD dR dP:FuncData}(F:Fn K mg "worked_out" Br f fd ["operation","left","right"])(TA:CA K mg)(W:AF P w K mg base fA fO fM fI fD fR fP dA dO dM dI dD dR dP):aL P w K mg base (bc P w) 6 f fd ["operation","left","right"] Ex:=by
 have GO:aL P w K mg base (bc P w) 1 fO dO ["value"] H_:=Gr W.O
 have GI:aL P w K mg base (bc P w) 1 fI dI ["value"] Ia:=Gs W.I
 refine dz F.F V8 (fun vs H Q E h=>?_) (fun cdv A outer s H vs Q E hr h=>?_)
 ·obtain⟨_,_,_,_,_,rfl,_⟩:=h
  rfl
 ·obtain⟨t,u,q,r,o,rfl,ho,hq,ae,S,U,L,Z,k⟩:=h
  have Y:bB 1 _:=hr.mono (by decide)
  have J:bB 3 _:=hr.mono (by decide)
  have ac:bB 4 _:=hr.mono (by decide)
  refine⟨_,aj (aR (PW.pt (gb (aD iu (pv 0) (bw (aa (aW rfl TA.DIV) (aa (aW rfl TA.DOW) (aa (aW rfl TA.RES) aq)))) rfl) (dX (aD aY (aQ aU (pv 2) ao (fun _ _=>rfl)) ao (aG _))))) (ak (aB oW)) aF)
   (aj (aR (aD aY (pv 0) (aW rfl TA.PLU) (aG _)) (ak (aB (aK W.GA J rfl W.A.m W.A.F.kp W.A.b .nil passes (aa (pv 1) (aa (pv 2) aq))))) aF)
   (aj (aR (aD aY (pv 0) (aW rfl TA.MIN) (aG _)) (ak (aB (aK W.GA J rfl W.A.m W.A.F.kp W.A.b .nil passes (aa (pv 1) (aa (aK GO Y rfl W.O.m W.O.F.kp W.O.b .nil passes (aa (pv 2) aq)) aq))))) aF)
   (aj (aR (aD aY (pv 0) (aW rfl TA.TIM) (aG _)) (ak (aB (aK W.GM J rfl W.M.m W.M.F.kp W.M.b .nil passes (aa (pv 1) (aa (pv 2) aq))))) aF)
   (aj (aR (aD aY (pv 0) (aW rfl TA.DIV) (aG _)) (ak (aB (aK W.GM J rfl W.M.m W.M.F.kp W.M.b .nil passes (aa (pv 1) (aa (aK GI Y rfl W.I.m W.I.F.kp W.I.b .nil passes (aa (pv 2) aq)) aq))))) aF)
   (aj (aR (aD aY (pv 0) (aW rfl TA.DOW) (aG _)) (ak (aB (aK W.GD ac rfl W.D.m W.D.F.kp W.D.b .nil passes (aa (pv 1) (aa (pv 2) aq))))) aF)
   (aj (aR (aD aY (pv 0) (aW rfl TA.RES) (aG _)) (ak (aB (aK W.GR hr rfl W.R.m W.R.F.kp W.R.b .nil passes (aa (pv 1) (aa (pv 2) aq))))) aF)
   (ak (aB (aK W.GP J rfl W.W.m W.W.F.kp W.W.b .nil passes (aa (pv 1) (aa (pv 2) aq))))))))))),?_⟩
  refine⟨_,rfl,(by show 3≤sizeLine;decide),fun T hT=>⟨T,_,rfl,.inr (bN.of au),rfl,rfl,_,rfl,?_⟩⟩
  have s1:az H (L2.upd H T (.tup [.int 3,.int 4,.int 5])):=az.upd hT
  generalize L2.upd H T (.tup [.int 3,.int 4,.int 5])=H1 at *
  have G:=hq.same s1
  have j:=ae.same s1
  have k1:=k.mono s1
  cases o with
  | add =>
   exact aN (aN ⟨_,rfl,rfl,_,rfl,bj ⟨_,rfl,_,rfl,t,u,q,r,rfl,G,j,S,L,Z,Rq U,k1⟩⟩)
  | sub =>
   refine aN (aN ⟨_,rfl,rfl,_,rfl,aN ⟨_,rfl,rfl,_,rfl,bj ⟨_,rfl,_,rfl,u,r,rfl,j,fun v H2 s2 hv=>⟨t,v,q,_,rfl,G.same s2,hv,S,L,Z,(show r.2<2 ^ 900 from Rq U),?_⟩⟩⟩⟩)
   have k2:gQ H2 Q (Vbdeaa.sub q r):=gQ.mono (show gQ H1 Q (Vbdeaa.sub q r)from k1) s2
   rw[FM.HQ]at k2
   exact k2
  | mul =>
   exact aN (aN ⟨_,rfl,rfl,_,rfl,aN ⟨_,rfl,rfl,_,rfl,aN ⟨_,rfl,rfl,_,rfl,bj ⟨_,rfl,_,rfl,t,u,q,r,rfl,G,j,S,L,Z,Rq U,k1⟩⟩⟩⟩)
  | div =>
   refine bj ⟨_,rfl,u,_,_,_,rfl,rfl,bN.of j,at0 _ _,rfl,_,rfl,bC (fun h=>?_) fun h=>?_⟩
   ·have h:r.1=0:=V.int.inj (mn h)
    have k1:oh H1 Q (if r.1=0 then none else some (Vbdeaa.div q r)):=k1
    rw[mr h]at k1
    exact k1 H1 (az.refl _)
   ·have h:r.1≠0:=fun z=>h (mi (by rw[z]))
    have k1:oh H1 Q (if r.1=0 then none else some (Vbdeaa.div q r)):=k1
    rw[ml h]at k1
    refine⟨_,rfl,rfl,_,rfl,aN ⟨_,rfl,rfl,_,rfl,aN ⟨_,rfl,rfl,_,rfl,aN ⟨_,rfl,rfl,_,rfl,bj ⟨_,rfl,_,rfl,u,r,rfl,j,fun v H2 s2 hv=>⟨t,v,q,_,rfl,G.same s2,hv,S,L,FM.jc h,(Hb U).1,?_⟩⟩⟩⟩⟩⟩
    rw[Jz L h]
    exact gQ.mono (show gQ H1 Q (Vbdeaa.div q r)from k1) s2
  | quo =>
   refine bj ⟨_,rfl,u,_,_,_,rfl,rfl,bN.of j,at0 _ _,rfl,_,rfl,bC (fun h=>?_) fun h=>?_⟩
   ·have h:r.1=0:=V.int.inj (mn h)
    have k1:oh H1 Q (if r.1=0 then none else some (Vbdeaa.whole (Vbdeaa.floor (Vbdeaa.div q r)))):=k1
    rw[mr h]at k1
    exact k1 H1 (az.refl _)
   ·have h:r.1≠0:=fun z=>h (mi (by rw[z]))
    have k1:oh H1 Q (if r.1=0 then none else some (Vbdeaa.whole (Vbdeaa.floor (Vbdeaa.div q r)))):=k1
    rw[ml h]at k1
    exact⟨_,rfl,rfl,_,rfl,aN ⟨_,rfl,rfl,_,rfl,aN ⟨_,rfl,rfl,_,rfl,aN ⟨_,rfl,rfl,_,rfl,aN ⟨_,rfl,rfl,_,rfl,bj ⟨_,rfl,_,rfl,t,u,q,r,rfl,G,j,S,U,L,Z,h,k1⟩⟩⟩⟩⟩⟩
  | rem =>
   refine bj ⟨_,rfl,u,_,_,_,rfl,rfl,bN.of j,at0 _ _,rfl,_,rfl,bC (fun h=>?_) fun h=>?_⟩
   ·have h:r.1=0:=V.int.inj (mn h)
    have k1:oh H1 Q (if r.1=0 then none else some (Vbdeaa.sub q (Vbdeaa.mul r (Vbdeaa.whole (Vbdeaa.floor (Vbdeaa.div q r)))))):=k1
    rw[mr h]at k1
    exact k1 H1 (az.refl _)
   ·have h:r.1≠0:=fun z=>h (mi (by rw[z]))
    have k1:oh H1 Q (if r.1=0 then none else some (Vbdeaa.sub q (Vbdeaa.mul r (Vbdeaa.whole (Vbdeaa.floor (Vbdeaa.div q r)))))):=k1
    rw[ml h]at k1
    exact⟨_,rfl,rfl,_,rfl,aN ⟨_,rfl,rfl,_,rfl,aN ⟨_,rfl,rfl,_,rfl,aN ⟨_,rfl,rfl,_,rfl,aN ⟨_,rfl,rfl,_,rfl,aN ⟨_,rfl,rfl,_,rfl,bj ⟨_,rfl,_,rfl,t,u,q,r,rfl,G,j,S,U,L,Z,h,k1⟩⟩⟩⟩⟩⟩⟩
  | pow =>
   exact aN (aN ⟨_,rfl,rfl,_,rfl,aN ⟨_,rfl,rfl,_,rfl,aN ⟨_,rfl,rfl,_,rfl,aN ⟨_,rfl,rfl,_,rfl,aN ⟨_,rfl,rfl,_,rfl,aN ⟨_,rfl,rfl,_,rfl,aN ⟨_,rfl,_,rfl,t,u,q,r,rfl,G,j,S,L,k1⟩⟩⟩⟩⟩⟩⟩)
  | _=>cases ho
theorem Oj:aO ["operation","left","right","value"] ["operation","left","right"] (aH Bs):=⟨rfl,rfl,rfl,by decide +kernel,rfl,by decide +kernel,by decide +kernel⟩
theorem S8{f fC Z fS:Addr}{fd dC dW dS:FuncData}(F:Fn K mg "result_of_two" Bs f fd ["operation","left","right"])(TA:CA K mg)(J:Fn K mg "compared" O7 fC dC ["operation","left","right"])(D:aL P w K mg base (bc P w) 2 fC dC ["operation","left","right"] Oe)
  (S:Fn K mg "worked_out" Br Z dW ["operation","left","right"]) (GW:aL P w K mg base (bc P w) 6 Z dW ["operation","left","right"] Ex) (O:Fn K mg "is_small" rB fS dS ["value"]) (GS:aL P w K mg base (bc P w) 1 fS dS ["value"] uC):aL P w K mg base (bc P w) 7 f fd ["operation","left","right"] Ny:=by
 refine dz F.F Oj (fun vs H Q E h=>?_) (fun cdv A outer s H vs Q E U h=>?_)
 ·obtain⟨_,_,_,_,_,rfl,_⟩:=h
  rfl
 ·obtain⟨t,u,q,r,o,rfl,hq,z,sq,sr,Y,gr,k⟩:=h
  have L:bB 1 _:=U.mono (by decide)
  have G:bB 2 _:=U.mono (by decide)
  refine⟨_,aj (aR (aD lV (pv 0) (aW rfl TA.EQU) (aG _)) (ak (aB (aK D G rfl J.m J.F.kp J.b .nil passes (aa (pv 0) (aa (pv 1) (aa (pv 2) aq)))))) aF)
   (aj (a_ (i:=3) Oj.nd rfl (Or.inl rfl) (aK GW U rfl S.m S.F.kp S.b .nil passes (aa (pv 0) (aa (pv 1) (aa (pv 2) aq)))))
   (aj (aR (PW.pt (lL (jM (lU (pv 3))) (jL (iC (fc (aK GS L rfl O.m O.F.kp O.b .nil passes (aa (pv 3) aq))))))) (ak (aB oW)) aF)
   (ak (aB (pv 3))))),?_⟩
  have j:(7≤(eZ o:Int))↔wB o=true:=by cases o<;>decide
  refine⟨_,rfl,_,_,rfl,rfl,_,rfl,bC (fun h=>?_) fun h=>?_⟩
  ·have h:=j.mp (mn h)
   rw[RL h]at k
   exact⟨_,rfl,_,rfl,_,rfl,t,u,q,r,o,rfl,h,hq,z,iM sq,iM sr,k⟩
  ·have h:wB o=false:=by
    cases e:wB o with
    | false=>rfl
    | true=>exact absurd (mi (j.mpr e)) h
   rw[Ni h Y gr]at k
   refine⟨_,rfl,_,rfl,_,rfl,t,u,q,r,o,rfl,h,hq,z,iM sq,iM sr,Y.1,gr.1,?_⟩
   cases hw:xW o q r with
   | none =>
    rw[hw]at k
    exact fun H1 s1=>⟨_,rfl,_,rfl,bj (bj (k H1 s1))⟩
   | some v =>
    rw[hw]at k
    have k:oh H Q (if zp v=true then some v else none):=k
    refine fun x H1 s1 hx=>⟨_,rfl,_,rfl,aN ⟨_,rfl,x,v,rfl,hx,_,rfl,?_⟩⟩
    cases hs:zp v with
    | true =>
     rw[hs,mr rfl]at k
     exact aN ⟨_,rfl,k x H1 s1 hx⟩
    | false =>
     rw[hs,ml (by simp)]at k
     exact bj (k H1 s1)
theorem YT(x:V)(xs:List V):mF (x::xs) (some 1) none=xs:=by
 have h1:HT.h_ (x::xs).length 0 (some 1)=1:=by
  have:=HT.uI (x::xs).length 0 1
  simp at this
  simpa using this
 have h2:HT.h_ (x::xs).length (x::xs).length none=(x::xs).length:=HT.BK _ _
 unfold mF
 rw[h1,h2]
 simp
theorem pR:aO ["operation","values","best","value","order"] ["operation","values"] (aH vH):=⟨rfl,rfl,rfl,by decide +kernel,rfl,by decide +kernel,by decide +kernel⟩
theorem Mw{g:Bool}{a b:Vbdeaa.Q}(j:Bd a)(z:Bd b):Bd (Vbdeaa.better g a b):=by
 unfold Vbdeaa.better
 split<;>split<;>assumption
theorem Ql{f fO:Addr}{fd dO:FuncData}(F:Fn K mg "result_of_pick" vH f fd ["operation","values"])(TA:CA K mg)(FO:Fn K mg "order_of" rD fO dO ["left","right"]):aL P w K mg base (bc P w) 2 f fd ["operation","values"] yZ:=by
 have GO:aL P w K mg base (bc P w) 1 fO dO ["left","right"] y_:=Cp FO
 refine dz F.F pR (fun vs H Q E h=>?_) (fun cdv A outer s H vs Q E hr h=>?_)
 ·obtain⟨_,_,_,_,_,_,rfl,_⟩:=h
  rfl
 ·obtain⟨l,t,ts,q,G,g,rfl,hl,hq,L,bq,ac,k⟩:=h
  refine⟨_,aj (a_ (i:=2) pR.nd rfl (Or.inl rfl) (aQ bA (pv 1) ao (fun _ _=>rfl)))
   (aj (lN rH rfl (gU (lQ uF (pv 1) (jN ao) zL)) (bT (i:=3) pR.nd rfl (Or.inl rfl))
    (aj (a_ (i:=4) pR.nd rfl (Or.inl rfl) (aK GO hr rfl FO.m FO.F.kp FO.b .nil passes (aa (pv 3) (aa (pv 2) aq))))
     (ak (aR (PW.pt (lL (PW.pt (gb (aD aY (pv 0) (aW rfl TA.LEA) (aG _)) (dX (aD iG (pv 4) ao (aG _))))) (jL (PW.pt (gb (aD aY (pv 0) (aW rfl TA.GRE) (aG _)) (dX (aD km (pv 4) ao (aG _)))))))) (ak (a_ (i:=2) pR.nd rfl (Or.inl rfl) (pv 3))) aF))))
   (ak (aB (pv 2)))),?_⟩
  refine⟨_,rfl,l,_,_,_,rfl,rfl,bF.of hl,at_of (j:=0) rfl rfl,?_⟩
  refine⟨_,rfl,1,rfl,l,_,rfl,bF.of hl,fun p hp=>?_⟩
  have S:mF ((t::ts).map V.ref) (some 1) none=ts.map V.ref:=YT _ _
  rw[S]
  have s1:az H (L2.upd H p (.lst (ts.map V.ref))):=az.upd hp
  refine⟨p,rfl,⟨_,bF.of au⟩,Dg (K:=K) (a:=p) (xs:=ts.map V.ref) (fun i σ H'=>∃(b:Addr)(v3 v4:Option V),σ=[some (.int (if g=true then 1 else 0)),some (.ref l),some (.ref b),v3,v4]∧az (L2.upd H p (.lst (ts.map V.ref))) H'∧VA H' ((G.take i).foldl (Vbdeaa.better g) q) b∧Bd ((G.take i).foldl (Vbdeaa.better g) q))
   ⟨t,none,none,rfl,az.refl _,hq.same s1,bq⟩ (fun i σ H' _ ⟨_,_,_,_,s2,_⟩=>bF.of (s2 _ _ au)) ?_ ?_⟩
  ·rintro i x σ H' hi ⟨b,v3,v4,rfl,s2,O,bb⟩
   rw[l0]at hi
   obtain⟨c,hc,rfl⟩:∃c,ts[i]?=some c∧x=V.ref c:=by
    cases z:ts[i]? with
    | none=>rw[z]at hi;cases hi
    | some c=>rw[z]at hi;exact⟨c,rfl,(Option.some.inj hi).symm⟩
   have il:i<G.length:=by rw[Paired.length L];exact(lf.mp hc).1
   obtain⟨r,J⟩:∃r,G[i]?=some r:=⟨_,ln il⟩
   obtain⟨c',U,Z⟩:=cz L J
   rw[hc]at U
   cases U
   have br:=ac r (mw J)
   have D:=Z.same (s1.trans s2)
   have step:(G.take (i+1)).foldl (Vbdeaa.better g) q=Vbdeaa.better g ((G.take i).foldl (Vbdeaa.better g) q) r:=by
    rw[List.take_succ,J,List.foldl_append]
    rfl
   generalize(G.take i).foldl (Vbdeaa.better g) q=m at *
   have bm:=Mw (g:=g) bb br
   refine⟨_,rfl,_,rfl,c,b,r,m,rfl,D,O,br,bb,?_⟩
   obtain⟨d,hd⟩:∃d,r.1*((m.2:Nat):Int)-m.1*((r.2:Nat):Int)=d:=⟨_,rfl⟩
   rw[hd]
   have fin:∀(z:Addr)(v:Vbdeaa.Q),Vbdeaa.better g m r=v→VA H' v z→∃(b':Addr)(Y ae:Option V),([some (V.int (if g=true then 1 else 0)),some (.ref l),some (.ref z),some (.ref c),some (.int d)]:L2.St)=[some (.int (if g=true then 1 else 0)),some (.ref l),some (.ref b'),Y,ae]∧az (L2.upd H p (.lst (ts.map V.ref))) H'∧VA H' ((G.take (i+1)).foldl (Vbdeaa.better g) q) b'∧Bd ((G.take (i+1)).foldl (Vbdeaa.better g) q):=fun z v e hz=>by
    rw[step,e]
    refine⟨z,_,_,rfl,s2,hz,?_⟩
    rw[←e]
    exact bm
   cases g with
   | false =>
    refine⟨_,rfl,rfl,_,rfl,bj ⟨_,rfl,_,_,rfl,rfl,_,rfl,bC (fun h=>?_) fun h=>?_⟩⟩
    ·have h:d<0:=mn h
     exact bj ⟨_,rfl,fin c r (by unfold Vbdeaa.better Vbdeaa.lt;rw[ml (by simp),mr (mi (by lia))]) D⟩
    ·have h:¬d<0:=fun z=>h (mi z)
     exact⟨_,rfl,rfl,_,rfl,aN (aN (fin b m (by unfold Vbdeaa.better Vbdeaa.lt;rw[ml (by simp),ml (by rw[mo];lia)]) O))⟩
   | true =>
    refine⟨_,rfl,rfl,_,rfl,aN ⟨_,rfl,rfl,_,rfl,bj ⟨_,rfl,_,_,rfl,rfl,_,rfl,bC (fun h=>?_) fun h=>?_⟩⟩⟩
    ·have h:0<d:=mn h
     exact⟨_,rfl,fin c r (by unfold Vbdeaa.better Vbdeaa.lt;rw[mr rfl,mr (mi (by lia))]) D⟩
    ·have h:¬0<d:=fun z=>h (mi z)
     exact fin b m (by unfold Vbdeaa.better Vbdeaa.lt;rw[mr rfl,ml (by rw[mo];lia)]) O
  ·rintro σ H' ⟨b,v3,v4,rfl,s2,O,bb⟩
   rw[ap,←Paired.length L,List.take_length]at O
   exact⟨_,rfl,k b H' (s1.trans s2) O⟩
end
noncomputable def Ld(a:Str):Bool:=!(Ve a "a" "" && Txt.isdigit (Eb a "a" ""))
theorem zO{a:Str}(h:Ld a=true)(c:Int):¬0≤jg a "a" "" c:=by
 unfold Ld at h
 unfold jg
 cases h1:Ve a "a" "" with
 | false=>rw[ml (by simp)];decide
 | true =>
  rw[h1]at h
  rw[mr rfl]
  cases h2:Txt.isdigit (Eb a "a" "")with
  | false=>rw[ml (by simp)];decide
  | true=>rw[h2]at h;cases h
theorem Rr:((List.range 9).all fun n=>(List.range n).all fun i=>iZ (iV (Vbdeam.argName i))&&decide (jg (iV (Vbdeam.argName i)) "a" "" (n:Nat)=((i:Nat):Int)))=true:=by decide +kernel
noncomputable def BX(k:Nat):Bool:=(Vbdeam.readName k).all fun t=>iZ (iV t)&&(Ld (iV t)&&(decide (¬0≤jg (iV t) "g" "" 64)&&decide (qp (iV t)=((k:Nat):Int))))
theorem Kr:((List.range 960).all BX)=true:=by decide +kernel
theorem LR:((List.range 64).all fun f=>iZ (iV (Vbdeam.nameOf 11 f))&&(Ld (iV (Vbdeam.nameOf 11 f))&&decide (jg (iV (Vbdeam.nameOf 11 f)) "g" "" 64=((f:Nat):Int))))=true:=by decide +kernel
theorem En:((List.range 64).all fun f=>iZ (iV (Vbdeam.nameOf 10 f))&&(decide (¬0≤jg (iV (Vbdeam.nameOf 10 f)) "g" "" 64)&&decide (jg (iV (Vbdeam.nameOf 10 f)) "t" "" 64=((f:Nat):Int))))=true:=by decide +kernel
theorem qN{n i:Nat}(j:n≤8)(hi:i<n):iZ (iV (Vbdeam.argName i))=true∧jg (iV (Vbdeam.argName i)) "a" "" (n:Nat)=(i:Int):=by
 have:=mv.mp (mv.mp Rr n (mx.mpr (by lia))) i (mx.mpr hi)
 rw[lj]at this
 exact⟨this.1,mn this.2⟩
theorem rF{k:Nat}{t:Text}(h:Vbdeam.readName k=some t):iZ (iV t)=true∧Ld (iV t)=true∧(¬0≤jg (iV t) "g" "" 64)∧qp (iV t)=(k:Int):=by
 by_cases j:k<960
 ·have:=mv.mp Kr k (mx.mpr j)
  unfold BX at this
  rw[h]at this
  simp only[Option.all_some,lj,mo]at this
  exact this
 ·rw[ir (by lia)]at h
  cases h
theorem nq{f:Nat}(h:f<64):iZ (iV (Vbdeam.nameOf 11 f))=true∧Ld (iV (Vbdeam.nameOf 11 f))=true∧jg (iV (Vbdeam.nameOf 11 f)) "g" "" 64=(f:Int):=by
 have:=mv.mp LR f (mx.mpr h)
 simp only[lj,mo]at this
 exact this
theorem oO{f:Nat}(h:f<64):iZ (iV (Vbdeam.nameOf 10 f))=true∧(¬0≤jg (iV (Vbdeam.nameOf 10 f)) "g" "" 64)∧jg (iV (Vbdeam.nameOf 10 f)) "t" "" 64=(f:Int):=by
 have:=mv.mp En f (mx.mpr h)
 simp only[lj,mo]at this
 exact this
theorem uN{α:Type}{p:α→Bool}{l:List α}{x:α}(hx:x∈l)(j:p x=true):∃y,l.find? p=some y∧y∈l∧p y=true:=by
 cases h:l.find? p with
 | none=>exact absurd j (List.find?_eq_none.mp h x hx)
 | some y=>exact⟨y,rfl,List.mem_of_find?_eq_some h,List.find?_some h⟩
theorem uM{α:Type}{p:α→Bool}{l:List α}(h:∀x∈l,p x=true→False):l.find? p=none:=List.find?_eq_none.mpr fun x hx j=>h x hx j
theorem Vt{t:Text}{f:Nat}(z:f<64)(h:Vbdeam.nameOf 11 f=t):∃j,Vbdeam.numberIn "g" t=some j∧j<64∧Vbdeam.nameOf 11 j=t:=by
 obtain⟨y,h1,h2,D⟩:=uN (p:=fun i=>Vbdeam.made "g" i==t) (l:=List.range 64) (x:=f) (mx.mpr z) (beq_iff_eq.mpr h)
 exact⟨y,h1,mx.mp h2,beq_iff_eq.mp D⟩
theorem Yx{t:Text}{f:Nat}(z:f<64)(h:Vbdeam.nameOf 10 f=t):∃j,Vbdeam.numberIn "t" t=some j∧j<64∧Vbdeam.nameOf 10 j=t:=by
 obtain⟨y,h1,h2,D⟩:=uN (p:=fun i=>Vbdeam.made "t" i==t) (l:=List.range 64) (x:=f) (mx.mpr z) (beq_iff_eq.mpr h)
 exact⟨y,h1,mx.mp h2,beq_iff_eq.mp D⟩
theorem Mz{n:Nat}{t:Text}(L:n≤8)(h:MX.Y8 n t):iZ (iV t)=true∧∃i,Vbdeam.codeOf n (.name t)=[i]∧oH (n:Nat) (iV t)=some i.told:=by
 cases h with
 | @arg i hi =>
  refine⟨(qN L hi).1,?_⟩
  obtain⟨j,h1,h2,U⟩:=uN (p:=fun j=>Vbdeam.argName j==Vbdeam.argName i) (l:=List.range n) (x:=i) (mx.mpr hi) (beq_iff_eq.mpr rfl)
  have D:=(qN L (mx.mp h2)).2
  rw[beq_iff_eq.mp U]at D
  refine⟨.arg j,?_,?_⟩
  ·show(match(List.range n).find? (fun j=>Vbdeam.argName j==Vbdeam.argName i)with | some i=>_ | none=>_)=_
   rw[h1]
  ·unfold oH
   rw[D,mr (by lia)]
   rfl
 | @read k _ F =>
  obtain⟨g1,g2,g3,g4⟩:=rF F
  refine⟨g1,?_⟩
  have h0:(List.range n).find? (fun j=>Vbdeam.argName j==t)=none:=uM fun j D J=>by
   have:=(qN L (mx.mp D)).2
   rw[beq_iff_eq.mp J]at this
   exact zO g2 n (by rw[this];lia)
  have S:k<960:=by
   apply Classical.byContradiction
   intro z
   rw[ir (by lia)]at F
   cases F
  obtain⟨k',h1,h2,U⟩:=uN (p:=fun k=>Vbdeam.readName k==some t) (l:=Vbdeam.READNUMBERS) (x:=k) (by unfold Vbdeam.READNUMBERS;exact List.mem_filter.mpr ⟨mx.mpr S,by rw[F];rfl⟩) (beq_iff_eq.mpr F)
  have O:=(rF (beq_iff_eq.mp U)).2.2.2
  refine⟨.var k',?_,?_⟩
  ·show(match(List.range n).find? (fun j=>Vbdeam.argName j==t)with | some i=>_ | none=>match Vbdeam.READNUMBERS.find? (fun k=>Vbdeam.readName k==some t)with | some k=>_ | none=>_)=_
   rw[h0,h1]
  ·unfold oH
   rw[ml (zO g2 n),ml g3,O,mr (by lia)]
   rfl
 | @form f Y =>
  obtain⟨g1,g2,g3⟩:=nq Y
  refine⟨g1,?_⟩
  have h0:(List.range n).find? (fun j=>Vbdeam.argName j==Vbdeam.nameOf 11 f)=none:=uM fun j D J=>by
   have:=(qN L (mx.mp D)).2
   rw[beq_iff_eq.mp J]at this
   exact zO g2 n (by rw[this];contradiction)
  have h1:Vbdeam.READNUMBERS.find? (fun k=>Vbdeam.readName k==some (Vbdeam.nameOf 11 f))=none:=uM fun k F J=>by
   have:=(rF (beq_iff_eq.mp J)).2.2.1
   rw[g3]at this
   lia
  obtain⟨f',Z,e2,e3⟩:=Vt Y rfl
  have G:=(nq e2).2.2
  rw[e3]at G
  refine⟨.call f' 0,?_,?_⟩
  ·show(match(List.range n).find? (fun j=>Vbdeam.argName j==Vbdeam.nameOf 11 f)with | some i=>[Ins.arg i] | none=>match Vbdeam.READNUMBERS.find? (fun k=>Vbdeam.readName k==some (Vbdeam.nameOf 11 f))with | some k=>[Ins.var k] | none=>[Ins.call ((Vbdeam.numberIn "g" (Vbdeam.nameOf 11 f)).getD 0) 0])=_
   rw[h0,h1,Z]
   rfl
  ·unfold oH
   rw[ml (zO g2 n),G,mr (by lia)]
   rfl
theorem Dv{n:Nat}{t:Text}{l:Exps}(h:MX.Zj t l.length):iZ (iV t)=true∧∃i,Vbdeam.codeOf n (.use t l)=Vbdeam.codesOf n l++[i]∧gY (l.length:Nat) (iV t)=some i.told:=by
 generalize Y:l.length=m at h
 cases h with
 | @form f _ O ac =>
  obtain⟨g1,g2,g3⟩:=nq O
  refine⟨g1,?_⟩
  have h0:Vbdeam.numberIn "t" (Vbdeam.nameOf 11 f)=none:=uM fun j U Z=>by
   have:=(oO (mx.mp U)).2.1
   rw[show Vbdeam.nameOf 10 j=Vbdeam.nameOf 11 f from beq_iff_eq.mp Z,g3]at this
   contradiction
  obtain⟨L,F,J,G⟩:=Vt O rfl
  have D:=(nq J).2.2
  rw[G]at D
  refine⟨.call L l.length,?_,?_⟩
  ·show Vbdeam.codesOf n l++(match Vbdeam.numberIn "t" (Vbdeam.nameOf 11 f)with | some t=>[Ins.table t] | none=>[Ins.call ((Vbdeam.numberIn "g" (Vbdeam.nameOf 11 f)).getD 0) l.length])=_
   rw[h0,F]
   rfl
  ·unfold gY
   rw[D,mr ⟨by lia,by lia⟩,Y]
   rfl
 | @table k S =>
  obtain⟨g1,g2,g3⟩:=oO S
  refine⟨g1,?_⟩
  obtain⟨L,F,J,G⟩:=Yx S rfl
  have D:=(oO J).2.2
  rw[G]at D
  refine⟨.table L,?_,?_⟩
  ·show Vbdeam.codesOf n l++(match Vbdeam.numberIn "t" (Vbdeam.nameOf 10 k)with | some t=>[Ins.table t] | none=>[Ins.call ((Vbdeam.numberIn "g" (Vbdeam.nameOf 10 k)).getD 0) l.length])=_
   rw[F]
  ·unfold gY
   rw[ml (fun z=>g2 z.1),D,mr ⟨by lia,rfl⟩]
   rfl
noncomputable def CW(n:Nat):Exp→Vbdeaa.Code
 | .num q=>[.push q]
 | .name t=>Vbdeam.codeOf n (.name t)
 | .un o _=>[.un o]
 | .bin o _ _=>[.bin o]
 | .best g l=>List.replicate ((jV l).length-1) (.best g)
 | .use t l=>(Vbdeam.codeOf n (.use t l)).drop (Vbdeam.codesOf n l).length
 | _=>[]
noncomputable def Wn:Exp→Prop
 | .and _ _=>False
 | .or _ _=>False
 | .cond _ _ _=>False
 | _=>True
noncomputable def Rx(H:Hp)(Q:VK)(c:Vbdeaa.Code):Prop:=∀l ts H',H l=none→az H H'→H' l=some (.lst (ts.map V.ref))→cJ H' c ts→l∉ts→Q (.ref l) H'
noncomputable def Fd(C:Addr):Sp:=fun vs H Q _=>∃(a:Addr)(e:Exp)(n:Nat),vs=[.ref a,.int n]∧n≤8∧aX C H e a∧MX.Kn n e∧Wn e∧(kids e).length≤100000∧Rx H Q (CW n e)
noncomputable abbrev BJ:Stmt:=top 66
theorem zZ(l:Exps):(jV l).length=l.length:=by
 match l with
 | .nil=>rfl
 | .cons e r=>show(jV r).length+1=r.length+1;rw[zZ r]
theorem lX{H:Hp}{Q:VK}{i:Ins}{row:List Int}(h:Rx H Q [i])(hi:i.told=row){H1:Hp}{t:Addr}(F:H t=none)(s1:az H H1)(h1:H1 t=some (.tup (vI row))):∀l,H1 l=none→Q (.ref l) (L2.upd H1 l (.lst [.ref t])):=fun l D=>by
 have j:t≠l:=fun z=>by rw[z,D]at h1;cases h1
 refine h l [t] _ (same_none s1 D) (s1.trans (az.upd D)) au ?_ (by simpa using fun z=>j z.symm)
 refine .cons ?_ .nil
 rw[aA j,h1,hi]
theorem YW(x:V)(xs:List V):mF (x::xs) (some 1) none=xs:=by
 have h1:HT.h_ (x::xs).length 0 (some 1)=1:=by
  have:=HT.uI (x::xs).length 0 1
  simp at this
  simpa using this
 have h2:HT.h_ (x::xs).length (x::xs).length none=(x::xs).length:=HT.BK _ _
 unfold mF
 rw[h1,h2]
 simp
theorem Dn(xs:List V):mF xs (some 1) none=xs.tail:=by
 cases xs with
 | nil=>rfl
 | cons x xs=>exact YW x xs
section
theorem Fo:aO ["node","n","part"] ["node","n"] (aH BJ):=⟨rfl,rfl,rfl,by decide +kernel,rfl,by decide +kernel,by decide +kernel⟩
theorem Tq{f C fB fC Cx:Addr}{fd dB dC:FuncData}(F:Fn K mg "last_instructions" BJ f fd ["node","n"])(N:oK K C)(T:CP K mg)(TC:CN K mg)(FB:Fn K mg "bare_name_instruction" BW fB dB ["name","n"])(GB:aL P w K mg base (bc P w) 4 fB dB ["name","n"] (Fg Cx))
  (FC:Fn K mg "called_name_instruction" qd fC dC ["name","count"]) (ay:aL P w K mg base (bc P w) 4 fC dC ["name","count"] (vh Cx)):aL P w K mg base (bc P w) 5 f fd ["node","n"] (Fd C):=by
 refine dz F.F Fo (fun vs H Q E h=>?_) (fun cdv A outer s H vs Q E hr h=>?_)
 ·obtain⟨_,_,_,rfl,_⟩:=h
  rfl
 ·obtain⟨a,e,n,rfl,al,hn,ag,Z,aI,k⟩:=h
  obtain⟨dx,D,l,as,h1,hD,hl,hp⟩:=cH hn
  refine⟨_,aj (aR (aD aY (aJ (pv 0) rfl) (aW rfl T.NUMBER) (aG _)) (ak (aB (b8 (aa (bw (aa ao (aa (aQ aU (aJ (pv 0) rfl) ao (fun _ _=>rfl)) (aa (aQ aU (aJ (pv 0) rfl) ao (fun _ _=>rfl)) aq)))) aq)))) aF)
   (aj (aR (aD aY (aJ (pv 0) rfl) (aW rfl T.NAME) (aG _)) (ak (aB (b8 (aa (aK GB hr rfl FB.m FB.F.kp FB.b .nil passes (aa (aJ (pv 0) rfl) (aa (pv 1) aq))) aq)))) aF)
   (aj (aR (aD aY (aJ (pv 0) rfl) (aW rfl TC.ONE) (aG _)) (ak (aB (b8 (aa (bw (aa ao (aa (aJ (pv 0) rfl) aq))) aq)))) aF)
   (aj (aR (aD aY (aJ (pv 0) rfl) (aW rfl TC.TWO) (aG _)) (ak (aB (b8 (aa (bw (aa ao (aa (aJ (pv 0) rfl) aq))) aq)))) aF)
   (aj (aR (aD aY (aJ (pv 0) rfl) (aW rfl T.PICK) (aG _)) (ak (aB (yr (own:=[("part",2)]) (te:=Np (bh (tC (.int 10)) (bh (uf K (jB 0) "detail") dj))) rfl Fo.nd (gU (lQ uF (aJ (pv 0) rfl) (jN ao) zL)) (g_ (by kernel_rfl))
     (fun _ _ _ _ _=>by exact bT (i:=2) Fo.nd rfl (Or.inl rfl)) (fun _ _ _ _ _=>by exact iW) (fun _ _ _ _ _=>by exact bw (aa ao (aa (aJ (pv 0) rfl) aq)))))) aF)
   (ak (aB (b8 (aa (aK ay hr rfl FC.m FC.F.kp FC.b .nil passes (aa (aJ (pv 0) rfl) (aa (bH bD (by rfl) T.len (by decide +kernel) (aa (aJ (pv 0) rfl) aq)) aq))) aq)))))))),?_⟩
  refine⟨_,rfl,a,C,dx,_,_,rfl,h1,N.cl,N.nF,rfl,rfl,_,rfl,?_⟩
  cases e with
  | num q =>
   obtain⟨t,rfl,ht⟩:=hD
   refine bj ⟨_,rfl,a,C,dx,_,_,rfl,h1,N.cl,N.nD,rfl,t,_,_,_,rfl,rfl,bN.of ht,at_of (j:=0) rfl rfl,_,rfl,a,C,dx,_,_,rfl,h1,N.cl,N.nD,rfl,t,_,_,_,rfl,rfl,bN.of ht,at_of (j:=1) rfl rfl,(by show 3≤sizeLine;decide),fun p G=>⟨(by show 1≤sizeLine;decide),?_⟩⟩
   exact lX (i:=.push q) (row:=[0,q.1,(q.2:Nat)]) k rfl G (az.upd G) au
  | name t =>
   obtain rfl:D=.str (iV t):=hD
   obtain⟨hg,i,hc,hb⟩:=Mz al ag
   refine aN ⟨_,rfl,a,C,dx,_,_,rfl,h1,N.cl,N.nF,rfl,rfl,_,rfl,bj ⟨_,rfl,a,C,dx,_,_,rfl,h1,N.cl,N.nD,rfl,_,rfl,iV t,n,rfl,hg,fun row J t2 H1 ae s1 Y=>⟨(by show 1≤sizeLine;decide),?_⟩,fun z=>by rw[hb]at z;cases z⟩⟩
   have k:Rx H Q [i]:=by rw[←hc];exact k
   rw[hb]at J
   exact lX (i:=i) (row:=row) k (Option.some.inj J) ae s1 Y
  | un o b =>
   obtain rfl:D=.int (yS o):=hD
   refine aN ⟨_,rfl,a,C,dx,_,_,rfl,h1,N.cl,N.nF,rfl,rfl,_,rfl,aN ⟨_,rfl,a,C,dx,_,_,rfl,h1,N.cl,N.nF,rfl,rfl,_,rfl,bj ⟨_,rfl,a,C,dx,_,_,rfl,h1,N.cl,N.nD,rfl,(by show 2≤sizeLine;decide),fun p G=>⟨(by show 1≤sizeLine;decide),?_⟩⟩⟩⟩
   exact lX (i:=.un o) (row:=[3,(yS o:Nat)]) k (by cases o<;>rfl) G (az.upd G) au
  | bin o b c =>
   obtain rfl:D=.int (eZ o):=hD
   refine aN ⟨_,rfl,a,C,dx,_,_,rfl,h1,N.cl,N.nF,rfl,rfl,_,rfl,aN ⟨_,rfl,a,C,dx,_,_,rfl,h1,N.cl,N.nF,rfl,rfl,_,rfl,aN ⟨_,rfl,a,C,dx,_,_,rfl,h1,N.cl,N.nF,rfl,rfl,_,rfl,bj ⟨_,rfl,a,C,dx,_,_,rfl,h1,N.cl,N.nD,rfl,(by show 2≤sizeLine;decide),fun p G=>⟨(by show 1≤sizeLine;decide),?_⟩⟩⟩⟩⟩
   exact lX (i:=.bin o) (row:=[4,(eZ o:Nat)]) k (by cases o<;>rfl) G (az.upd G) au
  | and b c=>exact Z.elim
  | or b c=>exact Z.elim
  | cond b c d=>exact Z.elim
  | best g es =>
   obtain rfl:D=.int (if g=true then 1 else 0):=hD
   refine aN ⟨_,rfl,a,C,dx,_,_,rfl,h1,N.cl,N.nF,rfl,rfl,_,rfl,aN ⟨_,rfl,a,C,dx,_,_,rfl,h1,N.cl,N.nF,rfl,rfl,_,rfl,aN ⟨_,rfl,a,C,dx,_,_,rfl,h1,N.cl,N.nF,rfl,rfl,_,rfl,aN ⟨_,rfl,a,C,dx,_,_,rfl,h1,N.cl,N.nF,rfl,rfl,_,rfl,bj ?_⟩⟩⟩⟩
   have sp:∀p (G:H p=none),az H (L2.upd H p (.lst (mF (as.map V.ref) (some 1) none))):=fun p G=>az.upd G
   refine⟨_,rfl,a,C,dx,_,_,rfl,h1,N.cl,N.nP,rfl,1,rfl,l,_,rfl,bF.of hl,fun p G=>⟨p,rfl,⟨_,bF.of au⟩,fun L hL=>?_⟩⟩
   have s0:=sp p G
   refine jb (K:=K) (a:=p) (xs:=mF (as.map V.ref) (some 1) none) (fun i H'=>az (L2.upd H p (.lst (mF (as.map V.ref) (some 1) none))) H'∧∃ts:List Addr,H' L=some (.lst (ts.map V.ref))∧cJ H' (List.replicate i (.best g)) ts∧L∉ts) ⟨az.upd hL,[],au,.nil,by simp⟩ (fun i H' _ ⟨s1,_⟩=>bF.of (s1 _ _ au)) ?_ ?_
   ·rintro i y H' hi ⟨s1,ts,O,S,U⟩
    have aw:=s1 _ _ (s0 _ _ h1)
    have aC:ts.length=i:=by rw[←Paired.length S];simp[gH]
    have ax:i<100000:=by
     have:=(lf.mp hi).1
     rw[Dn,List.length_tail,ap,←Paired.length hp]at this
     lia
    refine⟨rfl,_,rfl,a,C,dx,_,_,rfl,aw,N.cl,N.nD,rfl,(by show 2≤sizeLine;decide),fun t ht=>?_⟩
    have ac:L≠t:=fun z=>by rw[z,ht]at O;cases O
    refine⟨_,by rw[aA ac];exact O,by rw[ap,aC];exact lm ax (by decide),fun b o q=>?_,ts++[t],by rw[au,mB];rfl,?_,?_⟩
    ·have ah:b≠L:=fun z=>by rw[z,hL]at q;cases q
     have ai:b≠t:=fun z=>by rw[←z,s1 _ _ q]at ht;cases ht
     rw[aA ah,aA ai]
     exact s1 _ _ q
    ·rw[List.replicate_succ']
     unfold cJ gH
     rw[mB]
     refine cO (cU S fun row x hx q=>?_) ?_
     ·have av:x≠L:=fun z=>by rw[z,O]at q;cases q
      have aE:x≠t:=fun z=>by rw[z,ht]at q;cases q
      rw[aA av,aA aE]
      exact q
     ·rw[aA (Ne.symm ac),au]
      cases g<;>rfl
    ·rw[List.mem_append,List.mem_singleton]
     exact fun z=>z.elim U ac
   ·rintro H' ⟨s1,ts,O,S,U⟩
    refine k L ts H' (same_none s0 hL) (s0.trans s1) O ?_ U
    have:(mF (as.map V.ref) (some 1) none).length=(jV es).length-1:=by
     rw[Dn,List.length_tail,ap,←Paired.length hp]
     rfl
    rw[this]at S
    exact S
  | use t es =>
   obtain rfl:D=.str (iV t):=hD
   obtain⟨hg,i,hc,hb⟩:=Dv (n:=n) (l:=es) ag.1
   refine aN ⟨_,rfl,a,C,dx,_,_,rfl,h1,N.cl,N.nF,rfl,rfl,_,rfl,aN ⟨_,rfl,a,C,dx,_,_,rfl,h1,N.cl,N.nF,rfl,rfl,_,rfl,aN ⟨_,rfl,a,C,dx,_,_,rfl,h1,N.cl,N.nF,rfl,rfl,_,rfl,aN ⟨_,rfl,a,C,dx,_,_,rfl,h1,N.cl,N.nF,rfl,rfl,_,rfl,aN ?_⟩⟩⟩⟩
   refine⟨_,rfl,a,C,dx,_,_,rfl,h1,N.cl,N.nD,rfl,_,rfl,a,C,dx,_,_,rfl,h1,N.cl,N.nP,rfl,l,_,rfl,.inl (bF.of hl),iV t,(as.map V.ref).length,rfl,hg,fun row J t2 H1 ae s1 Y=>⟨(by show 1≤sizeLine;decide),?_⟩,fun z=>?_⟩
   all_goals have af:((as.map V.ref).length:Nat)=es.length:=by rw[ap,←Paired.length hp];exact zZ es
   ·have k:Rx H Q [i]:=by
     have e1:CW n (.use t es)=[i]:=by
      show(Vbdeam.codeOf n (.use t es)).drop (Vbdeam.codesOf n es).length=_
      rw[hc,List.drop_left]
     rw[←e1];exact k
    rw[af,hb]at J
    exact lX (i:=i) (row:=row) k (Option.some.inj J) ae s1 Y
   ·rw[af,hb]at z;cases z
end
noncomputable def Gk(n:Nat)(sz:List Nat):Exp→List Vbdeaa.Code
 | .and _ _=>[[],[.zero (sz.getD 1 0+2)],[.truth,.jump 1,.push (0,1)]]
 | .or _ _=>[[],[.zero 2,.push (1,1),.jump (sz.getD 1 0+1)],[.truth]]
 | .cond _ _ _=>[[],[.zero (sz.getD 1 0+1)],[.jump (sz.getD 2 0)],[]]
 | e=>List.replicate (kids e).length []++[CW n e]
noncomputable def fu(H:Hp)(c:Vbdeaa.Code)(x:Addr):Prop:=∃ts:List Addr,H x=some (.lst (ts.map V.ref))∧cJ H c ts
theorem fu.same{H H':Hp}{c:Vbdeaa.Code}{x:Addr}(s:az H H')(h:fu H c x):fu H' c x:=by
 obtain⟨ts,h1,h2⟩:=h
 exact⟨ts,s _ _ h1,h2.same s⟩
noncomputable def Y4(H:Hp)(cs:List Vbdeaa.Code)(l:Addr):Prop:=∃j:List Addr,H l=some (.lst (j.map V.ref))∧Paired (fu H) cs j
noncomputable def NZ(C:Addr):Sp:=fun vs H Q _=>∃(a sl:Addr)(e:Exp)(sz:List Nat)(n:Nat),vs=[.ref a,.ref sl,.int n]∧n≤8∧aX C H e a∧MX.Kn n e∧H sl=some (.lst (sz.map fun(x:Nat)=>V.int x))∧sz.length=(kids e).length∧(kids e).length≤100000 ∧
 ∀l H',H l=none→az H H'→Y4 H' (Gk n sz e) l→Q (.ref l) H'
noncomputable abbrev O1:Stmt:=top 65
theorem Gj{X:Cx}{es r:List Expr}{p:Pos}{te:TE}{t:TA}(j:PE X (.List es p) te)(z:PA X r t):PA X (.List es p::r) (bh te t):=aa j z rfl
theorem SX{X:Cx}{es r:List Expr}{x:Nat}{p:Pos}{te:TE}{t:TA}(j:PE X (.Tuple es x p) te)(z:PA X r t):PA X (.Tuple es x p::r) (bh te t):=aa j z rfl
theorem Cj{X:Cx}{i:Int}{m:Nat}{r:List Expr}{p:Pos}{t:TA}(j:PA X r t):PA X (.Constant (.int i) m p::r) (bh (tC (.int i)) t):=aa ao j rfl
theorem ZS{X:Cx}{a b:Expr}{o:Operator}{r:List Expr}{p:Pos}{te:TE}{t:TA}(j:PE X (.BinOp a o b p) te)(z:PA X r t):PA X (.BinOp a o b p::r) (bh te t):=aa j z rfl
theorem ZR{X:Cx}{a b:Expr}{r:List Expr}{p:Pos}{te:TE}{t:TA}(j:PE X (.Subscript a b p) te)(z:PA X r t):PA X (.Subscript a b p::r) (bh te t):=aa j z rfl
noncomputable def XF(K:PySem.W.Frag)(ts:TE)(i j:Int):TE:=HF (FZ fun i j=>.int (i+j)) (HF (xG K) ts (tC (.int i))) (tC (.int j))
noncomputable def t1(a:TE):TE:=Np (bh a dj)
noncomputable def t2(a b:TE):TE:=Np (bh a (bh b dj))
noncomputable def t3(a b c:TE):TE:=Np (bh a (bh b (bh c dj)))
noncomputable def cI(i:Int):TE:=tC (.int i)
noncomputable def tA(K:PySem.W.Frag)(ts:TE):TE:=ie (bh (ie dj) (bh (ie (bh (t2 (cI 6) (XF K ts 1 2)) dj)) (bh (ie (bh (t1 (cI 9)) (bh (t2 (cI 5) (cI 1)) (bh (t3 (cI 0) (cI 0) (cI 1)) dj)))) dj)))
noncomputable def tO(K:PySem.W.Frag)(ts:TE):TE:=ie (bh (ie dj) (bh (ie (bh (t2 (cI 6) (cI 2)) (bh (t3 (cI 0) (cI 1) (cI 1)) (bh (t2 (cI 5) (XF K ts 1 1)) dj)))) (bh (ie (bh (t1 (cI 9)) dj)) dj)))
noncomputable def tF(K:PySem.W.Frag)(ts:TE):TE:=ie (bh (ie dj) (bh (ie (bh (t2 (cI 6) (XF K ts 1 1)) dj)) (bh (ie (bh (t2 (cI 5) (HF (xG K) ts (tC (.int 2)))) dj)) (bh (ie dj) dj))))
section
variable {X:Cx} {sz:Expr} {ts:TE} {k1 k2 k3 k4 k5 k6 k7 k8 k9 x1 x2 x3 x4:Nat} {p0 p1 p2 p3 p4 p5 p6 p7 p8 p9 p10 p11 p12 p13 p14 p15 p16 p17 p18:Pos}
theorem PN{i j:Int}(z:PE X sz ts):PE X (.BinOp (.Subscript sz (.Constant (.int i) k2 p2) p3) .Add (.Constant (.int j) k3 p4) p5) (XF X.K ts i j):=bL gM (aQ bA z ao (fun _ _=>rfl)) ao
theorem Vq{i:Int}:PE X (.Tuple [.Constant (.int i) k4 p8] x2 p9) (t1 (cI i)):=bw (Cj aq)
theorem Vp{i j:Int}:PE X (.Tuple [.Constant (.int i) k4 p8,.Constant (.int j) k5 p10] x2 p9) (t2 (cI i) (cI j)):=bw (Cj (Cj aq))
theorem Vo{i j m:Int}:PE X (.Tuple [.Constant (.int i) k4 p8,.Constant (.int j) k5 p10,.Constant (.int m) k6 p11] x2 p9) (t3 (cI i) (cI j) (cI m)):=bw (Cj (Cj (Cj aq)))
theorem PJ{i:Int}{a b:Expr}{o:Operator}{te:TE}(h:PE X (.BinOp a o b p10) te):PE X (.Tuple [.Constant (.int i) k4 p8,.BinOp a o b p10] x2 p9) (t2 (cI i) te):=bw (Cj (ZS h aq))
theorem Yq{i:Int}{a b:Expr}{te:TE}(h:PE X (.Subscript a b p10) te):PE X (.Tuple [.Constant (.int i) k4 p8,.Subscript a b p10] x2 p9) (t2 (cI i) te):=bw (Cj (ZR h aq))
theorem IW:PE X (.List [] p0) (ie dj):=b8 aq
theorem IV{a:List Expr}{te:TE}(h:PE X (.Tuple a x1 p1) te):PE X (.List [.Tuple a x1 p1] p0) (ie (bh te dj)):=b8 (SX h aq)
theorem Vr{a b c:List Expr}{ta tb tc:TE}(j:PE X (.Tuple a x1 p1) ta)(D:PE X (.Tuple b x2 p2) tb)(z:PE X (.Tuple c x3 p3) tc):PE X (.List [.Tuple a x1 p1,.Tuple b x2 p2,.Tuple c x3 p3] p0) (ie (bh ta (bh tb (bh tc dj)))):=b8 (SX j (SX D (SX z aq)))
theorem Wu{a b c:List Expr}{ta tb tc:TE}(j:PE X (.List a p1) ta)(D:PE X (.List b p2) tb)(z:PE X (.List c p3) tc):PE X (.List [.List a p1,.List b p2,.List c p3] p0) (ie (bh ta (bh tb (bh tc dj)))):=b8 (Gj j (Gj D (Gj z aq)))
theorem Wt{a b c d:List Expr}{ta tb tc td:TE}(j:PE X (.List a p1) ta)(D:PE X (.List b p2) tb)(z:PE X (.List c p3) tc)(hd:PE X (.List d p4) td):PE X (.List [.List a p1,.List b p2,.List c p3,.List d p4] p0) (ie (bh ta (bh tb (bh tc (bh td dj))))):=b8 (Gj j (Gj D (Gj z (Gj hd aq))))
theorem yy1:PE X (.List [.Tuple [.Constant (.int 9) k4 p8] x2 p9,.Tuple [.Constant (.int 5) k5 p10,.Constant (.int 1) k6 p11] x3 p12,.Tuple [.Constant (.int 0) k7 p13,.Constant (.int 0) k8 p14,.Constant (.int 1) k9 p15] x4 p16] p17) (ie (bh (t1 (cI 9)) (bh (t2 (cI 5) (cI 1)) (bh (t3 (cI 0) (cI 0) (cI 1)) dj)))):=Vr Vq Vp Vo
theorem yy2(j:PE X sz ts):PE X (.List [.Tuple [.Constant (.int 6) k1 p1,.BinOp (.Subscript sz (.Constant (.int 1) k2 p2) p3) .Add (.Constant (.int 2) k3 p4) p5] x1 p6] p7) (ie (bh (t2 (cI 6) (XF X.K ts 1 2)) dj)):=IV (PJ (PN j))
structure PB (X:Cx) (e:Expr) (t:TE):Prop where
 h:PE X e t
theorem PQ{a b c:List Expr}{ta tb tc:TE}(j:PB X (.List a p1) ta)(D:PB X (.List b p2) tb)(z:PB X (.List c p3) tc):PB X (.List [.List a p1,.List b p2,.List c p3] p0) (ie (bh ta (bh tb (bh tc dj)))):=⟨Wu j.h D.h z.h⟩
theorem ZQ(j:PE X sz ts):PB X (.List [.List [] p0,.List [.Tuple [.Constant (.int 6) k1 p1,.BinOp (.Subscript sz (.Constant (.int 1) k2 p2) p3) .Add (.Constant (.int 2) k3 p4) p5] x1 p6] p7,.List [.Tuple [.Constant (.int 9) k4 p8] x2 p9,.Tuple [.Constant (.int 5) k5 p10,.Constant (.int 1) k6 p11] x3 p12,.Tuple [.Constant (.int 0) k7 p13,.Constant (.int 0) k8 p14,.Constant (.int 1) k9 p15] x4 p16] p17] p18) (tA X.K ts):=PQ ⟨IW⟩ ⟨yy2 j⟩ ⟨yy1⟩
theorem yyO(j:PE X sz ts):PE X (.List [.Tuple [.Constant (.int 6) k5 p10,.Constant (.int 2) k6 p11] x3 p12,.Tuple [.Constant (.int 0) k7 p13,.Constant (.int 1) k8 p14,.Constant (.int 1) k9 p15] x4 p16,.Tuple [.Constant (.int 5) k1 p1,.BinOp (.Subscript sz (.Constant (.int 1) k2 p2) p3) .Add (.Constant (.int 1) k3 p4) p5] x1 p6] p7) (ie (bh (t2 (cI 6) (cI 2)) (bh (t3 (cI 0) (cI 1) (cI 1)) (bh (t2 (cI 5) (XF X.K ts 1 1)) dj)))):=Vr Vp Vo (PJ (PN j))
theorem ZM(j:PE X sz ts):PB X (.List [.List [] p0,.List [.Tuple [.Constant (.int 6) k5 p10,.Constant (.int 2) k6 p11] x3 p12,.Tuple [.Constant (.int 0) k7 p13,.Constant (.int 1) k8 p14,.Constant (.int 1) k9 p15] x4 p16,.Tuple [.Constant (.int 5) k1 p1,.BinOp (.Subscript sz (.Constant (.int 1) k2 p2) p3) .Add (.Constant (.int 1) k3 p4) p5] x1 p6] p7,.List [.Tuple [.Constant (.int 9) k4 p8] x2 p9] p17] p18) (tO X.K ts):=PQ ⟨IW⟩ ⟨yyO j⟩ ⟨IV Vq⟩
theorem Wy{a b c d:List Expr}{ta tb tc td:TE}(j:PB X (.List a p1) ta)(D:PB X (.List b p2) tb)(z:PB X (.List c p3) tc)(hd:PB X (.List d p4) td):PB X (.List [.List a p1,.List b p2,.List c p3,.List d p4] p0) (ie (bh ta (bh tb (bh tc (bh td dj))))):=⟨Wt j.h D.h z.h hd.h⟩
theorem ZP{j:Expr}(D:PE X sz ts)(z:PE X j ts):PB X (.List [.List [] p0,.List [.Tuple [.Constant (.int 6) k1 p1,.BinOp (.Subscript sz (.Constant (.int 1) k2 p2) p3) .Add (.Constant (.int 1) k3 p4) p5] x1 p6] p7,.List [.Tuple [.Constant (.int 5) k4 p8,.Subscript j (.Constant (.int 2) k5 p10) p11] x2 p9] p12,.List [] p13] p18) (tF X.K ts):=Wy ⟨IW⟩ ⟨IV (PJ (PN D))⟩ ⟨IV (Yq (aQ bA z ao (fun _ _=>rfl)))⟩ ⟨IW⟩
structure PSB (X:Cx) (st:Stmt) (t:TS):Prop where
 h:PS X st t
structure Xv (X:Cx) (st:List Stmt) (t:TS):Prop where
 h:M4 X st t
theorem zH{e:Expr}{te:TE}{pos:Pos}(h:PB X e te):PSB X (.Return (some e) pos) (Bb te):=⟨aB h.h⟩
theorem zJ{st:Stmt}{t:TS}(h:PSB X st t):Xv X [st] t:=⟨ak h.h⟩
theorem Gd{c:Expr}{a b:List Stmt}{tc:TT}{t u:TS}{pos:Pos}(z:PT X c tc)(j:Xv X a t)(D:Xv X b u):PS X (.If c a b pos) (Be tc t u):=aR z j.h D.h
end
theorem mG{H:Hp}{x:Addr}(h:H x=some (.lst [])):fu H [] x:=⟨[],h,.nil⟩
section
theorem Ot:aO ["node","sizes","n","part"] ["node","sizes","n"] (aH O1):=⟨rfl,rfl,rfl,by decide +kernel,rfl,by decide +kernel,by decide +kernel⟩
theorem WN{f C fL:Addr}{fd dL:FuncData}(F:Fn K mg "own_instructions" O1 f fd ["node","sizes","n"])(N:oK K C)(T:CP K mg)(TC:CN K mg)(FL:Fn K mg "last_instructions" BJ fL dL ["node","n"])(GL:aL P w K mg base (bc P w) 5 fL dL ["node","n"] (Fd C)):aL P w K mg base (bc P w) 6 f fd ["node","sizes","n"] (NZ C):=by
 refine dz F.F Ot (fun vs H Q E h=>?_) (fun cdv A outer s H vs Q E hr h=>?_)
 ·obtain⟨_,_,_,_,_,rfl,_⟩:=h
  rfl
 ·obtain⟨a,sl,e,sz,n,rfl,aM,hn,aT,ah,hsz,ai,k⟩:=h
  obtain⟨dx,D,l,as,h1,hD,hl,hp⟩:=cH hn
  refine⟨_,aj (Gd (aD aY (aJ (pv 0) rfl) (aW rfl TC.AND) (aG _)) (zJ (zH (ZQ (pv 1)))) ⟨aF⟩)
   (aj (Gd (aD aY (aJ (pv 0) rfl) (aW rfl TC.OR) (aG _)) (zJ (zH (ZM (pv 1)))) ⟨aF⟩)
   (aj (Gd (aD aY (aJ (pv 0) rfl) (aW rfl TC.IF) (aG _)) (zJ (zH (ZP (pv 1) (pv 1)))) ⟨aF⟩)
   (ak (aB (bL Gp (yr (own:=[("part",3)]) (te:=ie dj) rfl Ot.nd (gU (aJ (pv 0) rfl)) (g_ (by kernel_rfl))
     (fun _ _ _ _ _=>by exact bT (i:=3) Ot.nd rfl (Or.inl rfl)) (fun _ _ _ _ _=>by exact iW) (fun _ _ _ _ _=>by exact b8 aq))
    (b8 (aa (aK GL hr rfl FL.m FL.F.kp FL.b .nil passes (aa (pv 0) (aa (pv 2) aq))) aq))))))),?_⟩
  refine⟨_,rfl,a,C,dx,_,_,rfl,h1,N.cl,N.nF,rfl,rfl,_,rfl,?_⟩
  have ag:∀i:Nat,i<sz.length→kY (sz.map fun(x:Nat)=>V.int x) (i:Int)=some (V.int (sz.getD i 0:Nat)):=fun i hi=>j7 (by rw[l0,ln hi,List.getD_eq_getElem?_getD,ln hi];rfl)
  cases e with
  | and b c =>
   refine bj ⟨(by show 0≤sizeLine;decide),fun q0 Y=>⟨_,rfl,sl,_,1,_,rfl,rfl,bF.of (az.upd Y _ _ ah),ag 1 (by rw[hsz];exact Nat.le_of_ble_eq_true rfl),_,_,rfl,rfl,(by show 2≤sizeLine;decide),fun r1 U=>⟨(by show 1≤sizeLine;decide),fun q1 G=>⟨(by show 1≤sizeLine;decide),fun r2 J=>⟨(by show 2≤sizeLine;decide),fun r3 Z=>⟨(by show 3≤sizeLine;decide),fun r4 S=>⟨(by show 3≤sizeLine;decide),fun q2 j=>⟨(by show 3≤sizeLine;decide),fun L O=>?_⟩⟩⟩⟩⟩⟩⟩⟩
   refine k L _ (same_none ((az.upd Y).trans ((az.upd U).trans ((az.upd G).trans ((az.upd J).trans ((az.upd Z).trans ((az.upd S).trans (az.upd j))))))) O) ((az.upd Y).trans ((az.upd U).trans ((az.upd G).trans ((az.upd J).trans ((az.upd Z).trans ((az.upd S).trans ((az.upd j).trans (az.upd O)))))))) ⟨[q0,q1,q2],au,.cons ?_ (.cons ?_ (.cons ?_ .nil))⟩
   ·exact mG (((az.upd U).trans ((az.upd G).trans ((az.upd J).trans ((az.upd Z).trans ((az.upd S).trans ((az.upd j).trans (az.upd O))))))) q0 _ au)
   ·exact⟨[r1],((az.upd J).trans ((az.upd Z).trans ((az.upd S).trans ((az.upd j).trans (az.upd O))))) q1 _ au,.cons (((az.upd G).trans ((az.upd J).trans ((az.upd Z).trans ((az.upd S).trans ((az.upd j).trans (az.upd O)))))) r1 _ au) .nil⟩
   ·exact⟨[r2,r3,r4],(az.upd O) q2 _ au,.cons (((az.upd Z).trans ((az.upd S).trans ((az.upd j).trans (az.upd O)))) r2 _ au) (.cons (((az.upd S).trans ((az.upd j).trans (az.upd O))) r3 _ au) (.cons (((az.upd j).trans (az.upd O)) r4 _ au) .nil))⟩
  | or b c =>
   refine aN ⟨_,rfl,a,C,dx,_,_,rfl,h1,N.cl,N.nF,rfl,rfl,_,rfl,bj ⟨(by show 0≤sizeLine;decide),fun q0 Y=>⟨(by show 2≤sizeLine;decide),fun r1 U=>⟨(by show 3≤sizeLine;decide),fun r2 J=>⟨_,rfl,sl,_,1,_,rfl,rfl,bF.of (((az.upd Y).trans ((az.upd U).trans (az.upd J))) _ _ ah),ag 1 (by rw[hsz];exact Nat.le_of_ble_eq_true rfl),_,_,rfl,rfl,(by show 2≤sizeLine;decide),fun r3 Z=>⟨(by show 3≤sizeLine;decide),fun q1 G=>⟨(by show 1≤sizeLine;decide),fun r4 S=>⟨(by show 1≤sizeLine;decide),fun q2 j=>⟨(by show 3≤sizeLine;decide),fun L O=>?_⟩⟩⟩⟩⟩⟩⟩⟩⟩
   refine k L _ (same_none ((az.upd Y).trans ((az.upd U).trans ((az.upd J).trans ((az.upd Z).trans ((az.upd G).trans ((az.upd S).trans (az.upd j))))))) O) ((az.upd Y).trans ((az.upd U).trans ((az.upd J).trans ((az.upd Z).trans ((az.upd G).trans ((az.upd S).trans ((az.upd j).trans (az.upd O)))))))) ⟨[q0,q1,q2],au,.cons ?_ (.cons ?_ (.cons ?_ .nil))⟩
   ·exact mG (((az.upd U).trans ((az.upd J).trans ((az.upd Z).trans ((az.upd G).trans ((az.upd S).trans ((az.upd j).trans (az.upd O))))))) q0 _ au)
   ·exact⟨[r1,r2,r3],((az.upd S).trans ((az.upd j).trans (az.upd O))) q1 _ au,.cons (((az.upd J).trans ((az.upd Z).trans ((az.upd G).trans ((az.upd S).trans ((az.upd j).trans (az.upd O)))))) r1 _ au) (.cons (((az.upd Z).trans ((az.upd G).trans ((az.upd S).trans ((az.upd j).trans (az.upd O))))) r2 _ au) (.cons (((az.upd G).trans ((az.upd S).trans ((az.upd j).trans (az.upd O)))) r3 _ au) .nil))⟩
   ·exact⟨[r4],(az.upd O) q2 _ au,.cons (((az.upd j).trans (az.upd O)) r4 _ au) .nil⟩
  | cond d b c =>
   refine aN ⟨_,rfl,a,C,dx,_,_,rfl,h1,N.cl,N.nF,rfl,rfl,_,rfl,aN ⟨_,rfl,a,C,dx,_,_,rfl,h1,N.cl,N.nF,rfl,rfl,_,rfl,bj ⟨(by show 0≤sizeLine;decide),fun q0 Y=>⟨_,rfl,sl,_,1,_,rfl,rfl,bF.of (az.upd Y _ _ ah),ag 1 (by rw[hsz];exact Nat.le_of_ble_eq_true rfl),_,_,rfl,rfl,(by show 2≤sizeLine;decide),fun r1 U=>⟨(by show 1≤sizeLine;decide),fun q1 G=>⟨_,rfl,sl,_,2,_,rfl,rfl,bF.of (((az.upd Y).trans ((az.upd U).trans (az.upd G))) _ _ ah),ag 2 (by rw[hsz];exact Nat.le_of_ble_eq_true rfl),(by show 2≤sizeLine;decide),fun r2 J=>⟨(by show 1≤sizeLine;decide),fun q2 j=>⟨(by show 0≤sizeLine;decide),fun q3 ac=>⟨(by show 4≤sizeLine;decide),fun L O=>?_⟩⟩⟩⟩⟩⟩⟩⟩⟩
   refine k L _ (same_none ((az.upd Y).trans ((az.upd U).trans ((az.upd G).trans ((az.upd J).trans ((az.upd j).trans (az.upd ac)))))) O) ((az.upd Y).trans ((az.upd U).trans ((az.upd G).trans ((az.upd J).trans ((az.upd j).trans ((az.upd ac).trans (az.upd O))))))) ⟨[q0,q1,q2,q3],au,.cons ?_ (.cons ?_ (.cons ?_ (.cons ?_ .nil)))⟩
   ·exact mG (((az.upd U).trans ((az.upd G).trans ((az.upd J).trans ((az.upd j).trans ((az.upd ac).trans (az.upd O)))))) q0 _ au)
   ·exact⟨[r1],((az.upd J).trans ((az.upd j).trans ((az.upd ac).trans (az.upd O)))) q1 _ au,.cons (((az.upd G).trans ((az.upd J).trans ((az.upd j).trans ((az.upd ac).trans (az.upd O))))) r1 _ au) .nil⟩
   ·exact⟨[r2],((az.upd ac).trans (az.upd O)) q2 _ au,.cons (((az.upd j).trans ((az.upd ac).trans (az.upd O))) r2 _ au) .nil⟩
   ·exact mG ((az.upd O) q3 _ au)
  | _ =>
   refine aN ⟨_,rfl,a,C,dx,_,_,rfl,h1,N.cl,N.nF,rfl,rfl,_,rfl,aN ⟨_,rfl,a,C,dx,_,_,rfl,h1,N.cl,N.nF,rfl,rfl,_,rfl,aN ?_⟩⟩
   refine⟨_,rfl,a,C,dx,_,_,rfl,h1,N.cl,N.nP,rfl,l,rfl,⟨_,bF.of hl⟩,fun L O=>?_⟩
   refine jb (K:=K) (a:=l) (xs:=as.map V.ref) (fun i H'=>az H H'∧∃ls:List Addr,H' L=some (.lst (ls.map V.ref))∧ls.length=i∧∀x∈ls,x≠L∧H' x=some (.lst [])) ⟨az.upd O,[],au,rfl,by simp⟩ (fun i H' _ ⟨s1,_⟩=>bF.of (s1 _ _ hl)) ?_ ?_
   ·rintro i y H' hi ⟨s1,ls,af,ae,al⟩
    have aS:i<100001:=by
     have:=(lf.mp hi).1
     rw[ap,←Paired.length hp]at this
     lia
    refine⟨rfl,(by show 0≤sizeLine;decide),fun q hq=>?_⟩
    have av:L≠q:=fun z=>by rw[z,hq]at af;cases af
    refine⟨_,by rw[aA av];exact af,by rw[ap,ae];exact lm aS (by decide),fun b o z=>?_,ls++[q],by rw[au,mB];rfl,by rw[jp,ae];rfl,fun x hx=>?_⟩
    ·have aC:b≠L:=fun y=>by rw[y,O]at z;cases z
     have aI:b≠q:=fun y=>by rw[←y,s1 _ _ z]at hq;cases hq
     rw[aA aC,aA aI]
     exact s1 _ _ z
    ·rcases List.mem_append.mp hx with hx | hx
     ·obtain⟨g1,g2⟩:=al x hx
      have aE:x≠q:=fun y=>by rw[y,hq]at g2;cases g2
      exact⟨g1,by rw[aA g1,aA aE];exact g2⟩
     ·obtain rfl:=List.mem_singleton.mp hx
      exact⟨Ne.symm av,by rw[aA (Ne.symm av),au]⟩
   ·rintro H1 ⟨s1,ls,af,ae,al⟩
    refine⟨_,rfl,_,rfl,a,_,n,rfl,aM,hn.same s1,aT,trivial,ai,fun l2 ts H2 a1 s2 ay aw a0=>⟨(by show 1≤sizeLine;decide),fun q hq=>?_⟩⟩
    have s3:az H2 (L2.upd H2 q (.lst [V.ref l2])):=az.upd hq
    refine⟨L,q,_,_,rfl,rfl,s3 _ _ (s2 _ _ af),au,?_,fun p ax=>?_⟩
    ·rw[ap,ae,ap,←Paired.length hp]
     exact lS (Nat.add_le_add ai (i' _)) (by show 100001≤sizeLine;decide)
    ·have s4:=s3.trans (az.upd (o:=.lst (ls.map V.ref++[V.ref l2])) ax)
     refine k p _ (same_none (s1.trans (s2.trans s3)) ax) (s1.trans (s2.trans s4)) ⟨ls++[l2],by rw[au,mB];rfl,?_⟩
     refine cO ?_ ⟨ts,s4 _ _ ay,aw.same s4⟩
     have hk:ls.length=as.length:=by rw[ae,ap]
     have:∀(m:List Addr),(∀x∈m,H1 x=some (.lst []))→Paired (fu (L2.upd (L2.upd H2 q (.lst [V.ref l2])) p (.lst (ls.map V.ref++[V.ref l2])))) (List.replicate m.length []) m:=by
      intro m
      induction m with
      | nil=>intro _;exact .nil
      | cons x r ih=>intro hm;exact .cons (mG (s4 _ _ (s2 _ _ (hm x ci)))) (ih fun y hy=>hm y (am _ hy))
     have:=this ls fun x hx=>(al x hx).2
     rw[hk,←Paired.length hp]at this
     exact this
end
noncomputable def fV:List Vbdeaa.Code→List Vbdeaa.Code→Vbdeaa.Code
 | r::j,b::bs=>r++(b++fV j bs)
 | _,_=>[]
noncomputable def glue:List Vbdeaa.Code→List Vbdeaa.Code→Vbdeaa.Code
 | o::os,j=>o++fV j os
 | [],_=>[]
theorem wF:∀(j bs:List Vbdeaa.Code)(r b:Vbdeaa.Code),j.length=bs.length→fV (j++[r]) (bs++[b])=fV j bs++(r++b)
 | [],[],r,b,_=>by show r++(b++[])=[]++(r++b);simp
 | x::j,y::bs,r,b,h=>by
  show x++(y++fV (j++[r]) (bs++[b]))=(x++(y++fV j bs))++(r++b)
  rw[wF j bs r b (by simpa using h)]
  simp only[lv]
 | [],y::bs,r,b,h=>by cases h
 | x::j,[],r,b,h=>by cases h
theorem tZ(last:Vbdeaa.Code):∀(j:List Vbdeaa.Code)(r:Vbdeaa.Code),fV (r::j) (List.replicate j.length []++[last])=r++(j.flatten++last)
 | [],r=>by show r++(last++[])=r++([]++last);simp
 | x::j,r=>by
  show r++([]++fV (x::j) (List.replicate j.length []++[last]))=r++((x++j.flatten)++last)
  rw[tZ last j x]
  simp only[List.nil_append,lv]
theorem Hf(last:Vbdeaa.Code)(j:List Vbdeaa.Code):glue (List.replicate j.length []++[last]) j=j.flatten++last:=by
 cases j with
 | nil=>show last++[]=[]++last;simp
 | cons r j =>
  show []++fV (r::j) (List.replicate j.length []++[last])=(r++j.flatten)++last
  rw[tZ]
  simp only[List.nil_append,lv]
theorem o9(n:Nat):∀l:Exps,Vbdeam.codesOf n l=((jV l).map (Vbdeam.codeOf n)).flatten
 | .nil=>rfl
 | .cons e l=>by
  show Vbdeam.codeOf n e++Vbdeam.codesOf n l=Vbdeam.codeOf n e++((jV l).map (Vbdeam.codeOf n)).flatten
  rw[o9 n l]
noncomputable def lens(n:Nat)(e:Exp):List Nat:=(kids e).map fun k=>(Vbdeam.codeOf n k).length
theorem LQ(n:Nat)(e:Exp):glue (Gk n (lens n e) e) ((kids e).map (Vbdeam.codeOf n))=Vbdeam.codeOf n e:=by
 have pl:∀{e:Exp},Gk n (lens n e) e=List.replicate (kids e).length []++[CW n e]→Vbdeam.codeOf n e=((kids e).map (Vbdeam.codeOf n)).flatten++CW n e→glue (Gk n (lens n e) e) ((kids e).map (Vbdeam.codeOf n))=Vbdeam.codeOf n e:=fun{e} h1 h2=>by
  rw[h1,h2,show(kids e).length=((kids e).map (Vbdeam.codeOf n)).length by rw[ap],Hf]
 cases e with
 | num q=>exact pl rfl rfl
 | name t=>exact pl rfl rfl
 | un o a =>
  refine pl rfl ?_
  show Vbdeam.codeOf n a++[.un o]=(Vbdeam.codeOf n a++[])++[.un o]
  rw[mh]
 | bin o a b =>
  refine pl rfl ?_
  show Vbdeam.codeOf n a++(Vbdeam.codeOf n b++[.bin o])=(Vbdeam.codeOf n a++(Vbdeam.codeOf n b++[]))++[.bin o]
  simp only[mh,lv]
 | and a b =>
  show []++(Vbdeam.codeOf n a++([.zero ((Vbdeam.codeOf n b).length+2)]++(Vbdeam.codeOf n b++([.truth,.jump 1,.push (0,1)]++[]))))=Vbdeam.codeOf n a++(.zero ((Vbdeam.codeOf n b).length+2)::(Vbdeam.codeOf n b++[.truth,.jump 1,.push (0,1)]))
  rfl
 | or a b =>
  show []++(Vbdeam.codeOf n a++([.zero 2,.push (1,1),.jump ((Vbdeam.codeOf n b).length+1)]++(Vbdeam.codeOf n b++([.truth]++[]))))=Vbdeam.codeOf n a++(.zero 2 :: .push (1,1) :: .jump ((Vbdeam.codeOf n b).length+1)::(Vbdeam.codeOf n b++[.truth]))
  rfl
 | cond c a b =>
  show []++(Vbdeam.codeOf n c++([.zero ((Vbdeam.codeOf n a).length+1)]++(Vbdeam.codeOf n a++([.jump (Vbdeam.codeOf n b).length]++(Vbdeam.codeOf n b++([]++[]))))))=Vbdeam.codeOf n c++(.zero ((Vbdeam.codeOf n a).length+1)::(Vbdeam.codeOf n a++(.jump (Vbdeam.codeOf n b).length::Vbdeam.codeOf n b)))
  simp only[mh,List.nil_append,ma]
 | best g l =>
  refine pl rfl ?_
  show Vbdeam.codesOf n l++List.replicate (l.length-1) (.best g)=((jV l).map (Vbdeam.codeOf n)).flatten++List.replicate ((jV l).length-1) (.best g)
  rw[o9,zZ]
 | use t l =>
  refine pl rfl ?_
  show Vbdeam.codeOf n (.use t l)=((jV l).map (Vbdeam.codeOf n)).flatten++(Vbdeam.codeOf n (.use t l)).drop (Vbdeam.codesOf n l).length
  rw[←o9]
  simp only[Vbdeam.codeOf,List.drop_left]
theorem Ja(n:Nat)(sz:List Nat)(e:Exp):(Gk n sz e).length=(kids e).length+1:=by
 cases e<;>first | rfl | (show(List.replicate _ ([]:Vbdeaa.Code)++[_]).length=_;rw[jp,List.length_replicate];rfl)
mutual
theorem di(n:Nat):∀e:Exp,(Vbdeam.codeOf n e).length+1≤5*Vbdeam.size e
 | .num q=>by show 1+1≤5*1;decide
 | .name t=>by
  have:(Vbdeam.codeOf n (.name t)).length=1:=by
   simp only[Vbdeam.codeOf]
   split
   ·rfl
   ·split<;>rfl
  rw[this];show 1+1≤5*1;decide
 | .un o a=>by
  have:=di n a
  simp only[Vbdeam.codeOf,Vbdeam.size,jp,io,lT]
  lia
 | .bin o a b=>by
  have:=di n a;have:=di n b
  simp only[Vbdeam.codeOf,Vbdeam.size,jp,io,lT]
  lia
 | .and a b=>by
  have:=di n a;have:=di n b
  simp only[Vbdeam.codeOf,Vbdeam.size,jp,io,lT]
  lia
 | .or a b=>by
  have:=di n a;have:=di n b
  simp only[Vbdeam.codeOf,Vbdeam.size,jp,io,lT]
  lia
 | .cond c a b=>by
  have:=di n c;have:=di n a;have:=di n b
  simp only[Vbdeam.codeOf,Vbdeam.size,jp,io,lT]
  lia
 | .best g l=>by
  have:=sJ n l
  simp only[Vbdeam.codeOf,Vbdeam.size,jp,List.length_replicate]
  lia
 | .use t l=>by
  have:=sJ n l
  simp only[Vbdeam.codeOf,Vbdeam.size,jp]
  split<;>simp only[io,lT]<;>lia
theorem sJ(n:Nat):∀l:Exps,(Vbdeam.codesOf n l).length+l.length≤5*Vbdeam.sizeAll l
 | .nil=>by show 0+0≤_;decide
 | .cons e l=>by
  have:=di n e;have:=sJ n l
  simp only[Vbdeam.codesOf,Vbdeam.sizeAll,jp,Exps.length]
  lia
end
theorem jG:∀l:Exps,Vbdeam.sizeAll l=((jV l).map Vbdeam.size).sum
 | .nil=>rfl
 | .cons e l=>by
  show Vbdeam.size e+Vbdeam.sizeAll l=Vbdeam.size e+((jV l).map Vbdeam.size).sum
  rw[jG l]
theorem q_(e:Exp):Vbdeam.size e=((kids e).map Vbdeam.size).sum+1:=by
 cases e with
 | num q=>rfl
 | name n=>rfl
 | un o a=>show Vbdeam.size a+1=(Vbdeam.size a+0)+1;rfl
 | bin o a b=>show Vbdeam.size a+Vbdeam.size b+1=(Vbdeam.size a+(Vbdeam.size b+0))+1;lia
 | and a b=>show Vbdeam.size a+Vbdeam.size b+1=(Vbdeam.size a+(Vbdeam.size b+0))+1;lia
 | or a b=>show Vbdeam.size a+Vbdeam.size b+1=(Vbdeam.size a+(Vbdeam.size b+0))+1;lia
 | cond c a b=>show Vbdeam.size c+Vbdeam.size a+Vbdeam.size b+1=(Vbdeam.size c+(Vbdeam.size a+(Vbdeam.size b+0)))+1;lia
 | best g l=>show Vbdeam.sizeAll l+1=_;rw[jG];rfl
 | use t l=>show Vbdeam.sizeAll l+1=_;rw[jG];rfl
theorem pN(e:Exp):1≤Vbdeam.size e:=by rw[q_];lia
theorem HJ:∀{l:List Nat}{x:Nat},x∈l→x≤l.sum
 | a::l,x,h=>by
  rw[List.sum_cons]
  rcases j'.mp h with h | h
  ·lia
  ·have:=HJ h;lia
theorem Dc{e k:Exp}(h:k∈kids e):Vbdeam.size k<Vbdeam.size e:=by
 have:=HJ (List.mem_map_of_mem (f:=Vbdeam.size) h)
 have:=q_ e
 lia
theorem C_(e:Exp):(kids e).length<Vbdeam.size e:=by
 have:∀l:List Exp,l.length≤(l.map Vbdeam.size).sum:=by
  intro l
  induction l with
  | nil=>exact i' _
  | cons x r j =>
   have:=pN x
   rw[mf,List.sum_cons,io]
   lia
 have:=this (kids e)
 have:=q_ e
 lia
theorem Hj{n:Nat}:∀{l:Exps},MX.Xz n l→∀k∈jV l,MX.Kn n k
 | .nil,_,k,j=>by cases j
 | .cons e l,h,k,j=>by
  rcases j'.mp j with rfl | j
  ·exact h.1
  ·exact Hj h.2 k j
theorem Ug{n:Nat}{e k:Exp}(h:MX.Kn n e)(j:k∈kids e):MX.Kn n k:=by
 cases e with
 | num q=>cases j
 | name t=>cases j
 | un o a=>simp only[kids,j',l5,or_false]at j;subst j;exact h
 | bin o a b=>simp only[kids,j',l5,or_false]at j;rcases j with j | j<;>subst j<;>first | exact h.1 | exact h.2
 | and a b=>simp only[kids,j',l5,or_false]at j;rcases j with j | j<;>subst j<;>first | exact h.1 | exact h.2
 | or a b=>simp only[kids,j',l5,or_false]at j;rcases j with j | j<;>subst j<;>first | exact h.1 | exact h.2
 | cond c a b=>simp only[kids,j',l5,or_false]at j;rcases j with j | j | j<;>subst j<;>first | exact h.1 | exact h.2.1 | exact h.2.2
 | best g l=>exact Hj h k j
 | use t l=>exact Hj h.2 k j
theorem d7.trans{x:Addr}{H H1 H2:Hp}(a:d7 x H H1)(b:d7 x H1 H2):d7 x H H2:=fun c o h j=>b c o (a c o h j) j
theorem d7.VM{x:Addr}{H H1:Hp}{o:HO}(a:d7 x H H1):d7 x H (L2.upd H1 x o):=fun c u h j=>by rw[aA j];exact a c u h j
theorem d7.same{x:Addr}{H H1 H2:Hp}(h:H x=none)(s:az H H1)(a:d7 x H1 H2):az H H2:=fun c u j=>a c u (s c u j) (aP j h)
theorem cJ.pW{x:Addr}{H H':Hp}{c:Vbdeaa.Code}{ts:List Addr}{xs:List V}(hx:H x=some (.lst xs))(s:d7 x H H')(h:cJ H c ts):cJ H' c ts :=
 cU h fun _ t _ q=>s _ _ q (qt q hx (by intro z;cases z))
theorem fu.pW{x p:Addr}{H H':Hp}{c:Vbdeaa.Code}{xs:List V}(hx:H x=some (.lst xs))(j:p≠x)(s:d7 x H H')(h:fu H c p):fu H' c p:=by
 obtain⟨ts,h1,h2⟩:=h
 exact⟨ts,s _ _ h1 j,h2.pW hx s⟩
theorem tM{H:Hp}{c d:Vbdeaa.Code}{ts us:List Addr}(h1:cJ H c ts)(h2:cJ H d us):cJ H (c++d) (ts++us):=by
 unfold cJ gH at *
 rw[mB]
 generalize c.map Ins.told=l at h1
 generalize d.map Ins.told=m at h2
 induction h1 with
 | nil=>exact h2
 | cons a b j=>exact .cons a j
theorem qg{H:Hp}{c:Vbdeaa.Code}{ts:List Addr}(h:cJ H c ts):ts.length=c.length:=by
 have:=Paired.length h
 unfold gH at this
 rw[ap]at this
 exact this.symm
theorem Pa{H:Hp}{c:Vbdeaa.Code}{ts:List Addr}{x:Addr}{xs:List V}(hx:H x=some (.lst xs))(h:cJ H c ts):x∉ts:=by
 intro j
 unfold cJ at h
 generalize gH c=l at h
 induction h with
 | nil=>cases j
 | cons a b z =>
  rcases j'.mp j with rfl | j
  ·rw[hx]at a;cases a
  ·exact z j
theorem jK{as:List Addr}{i:Nat}{x:V}(h:(as.map V.ref)[i]?=some x):∃a,as[i]?=some a∧x=V.ref a:=by
 rw[l0]at h
 cases q:as[i]? with
 | none=>rw[q]at h;cases h
 | some a=>rw[q]at h;exact⟨a,rfl,(Option.some.inj h).symm⟩
theorem ww{F:Exp→Addr→Prop}{es:List Exp}{as:List Addr}{i:Nat}{b:Addr}(z:Paired F es as)(h:as[i]?=some b):∃k,es[i]?=some k∧F k b:=by
 have J:i<es.length:=by rw[Paired.length z];exact(lf.mp h).1
 obtain⟨k,D⟩:∃k,es[i]?=some k:=⟨_,ln J⟩
 obtain⟨L,j,G⟩:=cz z D
 rw[h]at j
 cases j
 exact⟨k,D,G⟩
theorem yH:∀(j bs:List Vbdeaa.Code)(i:Nat),(fV (j.take i) (bs.take i)).length≤(fV j bs).length
 | [],_,i=>by rw[List.take_nil];exact Nat.zero_le _
 | r::j,[],i=>by rw[List.take_nil];cases i<;>exact Nat.zero_le _
 | r::j,b::bs,0=>Nat.zero_le _
 | r::j,b::bs,i+1=>by
  have:=yH j bs i
  show(r++(b++fV (j.take i) (bs.take i))).length≤(r++(b++fV j bs)).length
  simp only[jp]
  lia
noncomputable def Vn(K:PySem.W.Frag):List V→Hp→VK→Prop:=fun xs H Q=>∃p ys,xs=[V.ref p]∧(bF K H p ys∨bN K H p ys)∧Q (V.int (ys.length:Nat)) H
noncomputable def uD(C:Addr)(h:Nat):Sp:=fun vs H Q _=>∃(a:Addr)(e:Exp)(n:Nat),vs=[.ref a,.int n]∧n≤8∧aX C H e a∧MX.Kn n e∧e.height≤h∧Vbdeam.size e≤100000∧Rx H Q (Vbdeam.codeOf n e)
noncomputable abbrev vL:Stmt:=top 64
section
theorem gR:aO ["node","n","rows","own","whole","row","behind","part"] ["node","n"] (aH vL):=⟨rfl,rfl,rfl,by decide +kernel,rfl,by decide +kernel,by decide +kernel⟩
theorem Qo{f C fO:Addr}{fd dO:FuncData}(F:Fn K mg "instructions_of" vL f fd ["node","n"])(N:oK K C)(T:CP K mg)(bP:mg "zip"=none)(FO:Fn K mg "own_instructions" O1 fO dO ["node","sizes","n"])(GO:aL P w K mg base (bc P w) 6 fO dO ["node","sizes","n"] (NZ C)) :
  ∀h:Nat,aL P w K mg base (bc P w) (h+7) f fd ["node","n"] (uD C h):=by
 intro h
 induction h with
 | zero =>
  refine dz F.F gR (fun vs H Q E h=>?_) (fun cdv A outer s H vs Q E hr h=>?_)
  ·obtain⟨_,_,_,rfl,_⟩:=h
   rfl
  ·obtain⟨a,e,n,rfl,_,hn,_,hh,k⟩:=h
   have:0<e.height:=by rw[gP];lia
   lia
 | succ h ih =>
  refine dz F.F gR (fun vs H Q E h=>?_) (fun cdv A outer s H vs Q E hr h=>?_)
  ·obtain⟨_,_,_,rfl,_⟩:=h
   rfl
  ·obtain⟨a,e,n,rfl,a9,hn,bX,hh,hsz,k⟩:=h
   obtain⟨dx,D,l,as,h1,hD,hl,hp⟩:=cH hn
   have cj:bB 6 _:=hr.mono (by lia)
   have cp:=C_ e
   refine⟨_,aj (BZ (i:=2) (own:=[("part",7)]) (te:=lA (uD C h) [] E0 (bh (jB 7) (bh (jB 1) dj))) rfl gR.nd rfl rfl (HH rfl rfl rfl rfl) (gU (aJ (pv 0) rfl)) (g_ (by kernel_rfl))
     (fun _ _ _ _ _=>by exact bT (i:=7) gR.nd rfl (Or.inl rfl)) (fun _ _ _ _ _=>by exact iW)
     (fun _ _ _ _ _=>by exact aK ih hr rfl F.m F.F.kp F.b .nil Gh (aa (pv 7) (aa (pv 1) aq))))
    (aj (a_ (i:=3) gR.nd rfl (Or.inl rfl) (aK GO cj rfl FO.m FO.F.kp FO.b .nil passes (aa (pv 0) (aa (yr (own:=[("row",5)]) (te:=Nt (Vn K) (bh (jB 5) dj)) rfl gR.nd (gU (pv 2)) (g_ (by kernel_rfl))
      (fun _ _ _ _ _=>by exact bT (i:=5) gR.nd rfl (Or.inl rfl)) (fun _ _ _ _ _=>by exact iW)
      (fun _ _ _ _ _=>by exact bH (r:=Vn K) (id:="len") bD (by rfl) T.len (by decide +kernel) (aa (pv 5) aq))) (aa (pv 1) aq)))))
    (aj (a_ (i:=4) gR.nd rfl (Or.inl rfl) (gk Ac (by rfl) T.list (by decide +kernel) (aa (aQ bA (pv 3) ao (fun _ _=>rfl)) aq)))
    (aj (lN rH rfl (Wq rfl bP (aa (pv 2) (aa (lQ uF (pv 3) (jN ao) zL) aq)))
     (vX rfl (dg (bT (i:=5) gR.nd rfl (Or.inl rfl)) (dg (bT (i:=6) gR.nd rfl (Or.inl rfl)) qj)))
     (aj (bQ (lR PySem.F.plainAttrs_list PySem.F.slot_list_extend PySem.F.type_list_extend yz (pv 4) (aa (pv 5) aq)))
      (ak (bQ (lR PySem.F.plainAttrs_list PySem.F.slot_list_extend PySem.F.type_list_extend yz (pv 4) (aa (pv 6) aq))))))
    (ak (aB (pv 4)))))),?_⟩
   refine⟨_,rfl,a,C,dx,_,_,rfl,h1,N.cl,N.nP,rfl,l,rfl,⟨_,bF.of hl⟩,fun L hL=>?_⟩
   refine jb (K:=K) (a:=l) (xs:=as.map V.ref) (fun i H'=>az H H'∧∃ps:List Addr,H' L=some (.lst (ps.map V.ref))∧Paired (fun kd p=>p≠L∧fu H' (Vbdeam.codeOf n kd) p) ((kids e).take i) ps) ⟨az.upd hL,[],au,.nil⟩ (fun i H' _ ⟨s1,_⟩=>bF.of (s1 _ _ hl)) ?_ ?_
   ·rintro i y H' hi ⟨s1,ps,O,Z⟩
    obtain⟨b,hb,rfl⟩:=jK hi
    obtain⟨kd,J,cm⟩:=ww hp hb
    have a0:=mw J
    have cg:i<(kids e).length:=(lf.mp J).1
    have b2:ps.length=i:=by
     rw[←Paired.length Z,lp]
     lia
    refine⟨rfl,_,rfl,_,rfl,b,kd,n,rfl,a9,cm.same s1,Ug bX a0,by have:=gm a0;lia,by have:=Dc a0;lia,fun pl ts H2 Y s2 bx G cq=>?_⟩
    have bR:pl≠L:=fun z=>by rw[z,O]at Y;cases Y
    have aS:=s2 _ _ O
    refine⟨_,aS,?_,?_,ps++[pl],?_,?_⟩
    ·rw[ap,b2]
     exact lm (by lia:i<100000) (by decide)
    ·intro b o q
     rw[aA (aP q hL)]
     exact s2 _ _ (s1 _ _ q)
    ·rw[au,mB]
     rfl
    ·rw[List.take_succ,J]
     have sx:d7 L H2 (L2.upd H2 L (.lst (ps.map V.ref++[V.ref pl]))):=d7.VM fun _ _ q _=>q
     refine cO (cU Z fun t p _ ⟨q1,q2⟩=>⟨q1,(q2.same s2).pW aS q1 sx⟩) ⟨bR,fu.pW aS bR sx ⟨ts,bx,G⟩⟩
   rintro H2 ⟨s1,ps,O,aC⟩
   rw[ap,←Paired.length hp,List.take_length]at aC
   have Z:Paired (fun kd p=>fu H2 (Vbdeam.codeOf n kd) p) (kids e) ps:=cU aC fun _ _ _ q=>q.2
   have Y:ps.length=(kids e).length:=(Paired.length Z).symm
   refine⟨_,rfl,_,rfl,L,rfl,⟨_,bF.of O⟩,fun S hS=>?_⟩
   refine jb (K:=K) (a:=L) (xs:=ps.map V.ref) (fun i H'=>az H2 H'∧H' S=some (.lst (((lens n e).take i).map fun(x:Nat)=>V.int x))) ⟨az.upd hS,au⟩ (fun i H' _ ⟨s2,_⟩=>bF.of (s2 _ _ O)) ?_ ?_
   ·rintro i y H' hi ⟨s2,af⟩
    obtain⟨p,cf,rfl⟩:=jK hi
    obtain⟨kd,J,ts,ck,G⟩:=ww Z cf
    have cg:i<(kids e).length:=(lf.mp J).1
    refine⟨rfl,_,rfl,p,_,rfl,.inl (bF.of (s2 _ _ ck)),_,af,?_,?_,?_⟩
    ·rw[ap,lp]
     exact l6 (Nat.min_le_left _ _) (lm (by lia:i<100000) (by decide))
    ·intro b o q
     rw[aA (aP q hS)]
     exact s2 _ _ q
    ·rw[au]
     have e1:(lens n e)[i]?=some ts.length:=by unfold lens;rw[l0,J,qg G];rfl
     rw[List.take_succ,e1,ap,mB]
     rfl
   rintro H3 ⟨s2,af⟩
   have a5:(lens n e).length=(kids e).length:=by unfold lens;rw[ap]
   rw[ap,Y,←a5,List.take_length]at af
   have bi:=s1.trans s2
   refine⟨_,rfl,a,S,e,lens n e,n,rfl,a9,hn.same bi,bX,af,a5,by lia,fun lo H4 cy s3 ⟨ls,ay,bb⟩=>?_⟩
   obtain⟨U,os,bo⟩:∃U os,Gk n (lens n e) e=U::os:=by
    cases q:Gk n (lens n e) e with
    | nil=>have:=Ja n (lens n e) e;rw[q]at this;cases this
    | cons x r=>exact⟨_,_,rfl⟩
   have ah:os.length=(kids e).length:=by have:=Ja n (lens n e) e;rw[bo]at this;simpa using this
   have ae:=LQ n e
   rw[bo]at bb ae
   have ae:U++fV ((kids e).map (Vbdeam.codeOf n)) os=Vbdeam.codeOf n e:=ae
   have cB:=di n e
   obtain⟨q0,lr,rfl,⟨ai,cb,aM⟩,a4⟩:∃q0 lr,ls=q0::lr∧fu H4 U q0∧Paired (fu H4) os lr:=by
    cases bb with
    | cons a b=>exact⟨_,_,rfl,a,b⟩
   have a2:lr.length=(kids e).length:=by rw[←Paired.length a4,ah]
   have a3:=bi.trans s3
   refine⟨_,rfl,lo,_,_,_,rfl,rfl,bF.of ay,at_of (j:=0) rfl rfl,q0,_,rfl,.inl (bF.of cb),fun wl ag=>?_⟩
   have s4:az H4 (L2.upd H4 wl (.lst (ai.map V.ref))):=az.upd ag
   have av:H wl=none:=same_none a3 ag
   refine⟨_,rfl,_,rfl,1,rfl,lo,_,rfl,bF.of (s4 _ _ ay),fun p aI=>?_⟩
   have a1:mF ((q0::lr).map V.ref) (some 1) none=lr.map V.ref:=YW _ _
   rw[a1]
   have ba:wl≠p:=fun z=>by rw[←z,au]at aI;cases aI
   generalize aT:L2.upd (L2.upd H4 wl (.lst (ai.map V.ref))) p (.lst (lr.map V.ref))=H5
   have s5:az H4 H5:=by rw[←aT];exact s4.trans (az.upd aI)
   have a7:H5 p=some (.lst (lr.map V.ref)):=by rw[←aT];exact au
   have aE:H5 wl=some (.lst (ai.map V.ref)):=by rw[←aT,aA ba];exact au
   have bM:az H2 H5:=(s2.trans s3).trans s5
   have bS:=bM _ _ O
   have b6:L≠wl:=fun z=>by have:=(s2.trans s3) _ _ O;rw[z,ag]at this;cases this
   have be:(ps.map V.ref).length=(lr.map V.ref).length:=by rw[ap,ap,Y,a2]
   refine⟨L,p,_,_,rfl,bF.of bS,bF.of a7,Uq (K:=K) (a:=L) (b:=p) (xs:=ps.map V.ref) (ys:=lr.map V.ref) be
    (fun i σ H'=>∃v5 v6 v7:Option V,σ=[some (.ref a),some (.int n),some (.ref L),some (.ref lo),some (.ref wl),v5,v6,v7]∧d7 wl H5 H'∧∃ts:List Addr,H' wl=some (.lst (ts.map V.ref))∧cJ H' (U++fV (((kids e).map (Vbdeam.codeOf n)).take i) (os.take i)) ts)
    ⟨none,none,none,rfl,fun _ _ q _=>q,ai,aE,?_⟩ (fun i σ H' _ ⟨_,_,_,_,sx,_⟩=>⟨bF.of (sx _ _ bS b6),bF.of (sx _ _ a7 (Ne.symm ba))⟩) ?_ ?_⟩
   ·have:U++fV (((kids e).map (Vbdeam.codeOf n)).take 0) (os.take 0)=U:=by
     show U++[]=U
     exact mh _
    rw[this]
    exact aM.same s5
   ·rintro i x y σ H' Tt hx hy ⟨v5,v6,v7,rfl,sx,ts,hw,G⟩ hT
    obtain⟨pr,cc,rfl⟩:=jK hx
    obtain⟨pb,b4,rfl⟩:=jK hy
    obtain⟨kd,J,bt⟩:=ww Z cc
    have b5:i<os.length:=by rw[ah];exact(lf.mp J).1
    obtain⟨ob,br⟩:∃ob,os[i]?=some ob:=⟨_,ln b5⟩
    obtain⟨cv,aw,bp⟩:=cz a4 br
    rw[b4]at aw
    cases aw
    have e1:((kids e).map (Vbdeam.codeOf n))[i]?=some (Vbdeam.codeOf n kd):=by rw[l0,J];rfl
    have step:U++fV (((kids e).map (Vbdeam.codeOf n)).take (i+1)) (os.take (i+1))=(U++fV (((kids e).map (Vbdeam.codeOf n)).take i) (os.take i))++Vbdeam.codeOf n kd++ob:=by
     rw[List.take_succ,List.take_succ,e1,br]
     show U++fV (_++[_]) (_++[_])=_
     rw[wF _ _ _ _ (by rw[lp,lp,ap,ah])]
     simp only[lv]
    have cx:=yH ((kids e).map (Vbdeam.codeOf n)) os (i+1)
    have bd:(U++fV (((kids e).map (Vbdeam.codeOf n)).take (i+1)) (os.take (i+1))).length≤500000:=by
     have:(U++fV ((kids e).map (Vbdeam.codeOf n)) os).length≤500000:=by rw[ae];lia
     rw[jp]at this ⊢
     lia
    rw[step,jp,jp]at bd
    have bE:∀{c:Vbdeaa.Code}{q:Addr},fu H4 c q→q≠wl:=fun⟨_,z,_⟩=>aP z ag
    have b0:fu H5 (Vbdeam.codeOf n kd) pr:=bt.same bM
    have bq:pr≠wl:=bE (bt.same (s2.trans s3))
    have ax:pb≠wl:=bE bp
    have cw:wl≠Tt:=fun z=>by rw[z,hT]at hw;cases hw
    have sT:az H' (L2.upd H' Tt (.tup [V.ref pr,V.ref pb])):=az.upd hT
    obtain⟨tr,b3,bn⟩:=(b0.pW aE bq sx).same sT
    obtain⟨tb,b9,a6⟩:=((bp.same s5).pW aE ax sx).same sT
    have ac:=sT _ _ hw
    generalize ca:L2.upd H' Tt (.tup [V.ref pr,V.ref pb])=HT at *
    have b1:HT Tt=some (.tup [V.ref pr,V.ref pb]):=by rw[←ca];exact au
    have l1:=qg G
    have l2:=qg bn
    have l3:=qg a6
    have cA:(500000:Nat)≤sizeLine:=by decide
    refine⟨Tt,_,rfl,bN.of b1,rfl,_,_,rfl,_,_,rfl,rfl,?_⟩
    refine⟨_,rfl,.inl ⟨rfl,_,bF.of ac⟩,_,rfl,wl,pr,_,_,rfl,rfl,ac,b3,by rw[ap,ap];lia,?_⟩
    have a8:d7 wl HT (L2.upd HT wl (.lst (ts.map V.ref++tr.map V.ref))):=d7.VM fun _ _ q _=>q
    have bv:=a8 _ _ b9 ax
    refine⟨_,rfl,.inl ⟨rfl,_,bF.of au⟩,_,rfl,wl,pb,_,_,rfl,rfl,au,bv,by rw[jp,ap,ap,ap];lia,?_⟩
    have al:d7 wl HT (L2.upd (L2.upd HT wl (.lst (ts.map V.ref++tr.map V.ref))) wl (.lst (ts.map V.ref++tr.map V.ref++tb.map V.ref))):=a8.VM
    refine⟨_,_,_,rfl,(d7.trans sx fun c o q _=>sT c o q).trans al,ts++tr++tb,by rw[au,mB,mB],?_⟩
    rw[step]
    exact tM (tM ((G.same sT).pW ac al) (bn.pW ac al)) (a6.pW ac al)
   ·rintro σ H' ⟨v5,v6,v7,rfl,sx,ts,hw,G⟩
    refine⟨_,rfl,k wl ts H' av (d7.same av (a3.trans s5) sx) hw ?_ (Pa hw G)⟩
    rw[ap,Y,show(kids e).length=((kids e).map (Vbdeam.codeOf n)).length by rw[ap],List.take_length,show((kids e).map (Vbdeam.codeOf n)).length=os.length by rw[ap,ah],List.take_length,ae]at G
    exact G
end
noncomputable def N7:Sp:=fun vs H Q _=>∃(l:Addr)(ts:List Addr)(rows:List (List Int)),vs=[.ref l]∧H l=some (.lst (ts.map V.ref))∧Paired (fun row t=>H t=some (.tup (vI row))) rows ts∧rows.flatten.length≤2000000∧Ry H Q (vI rows.flatten)
noncomputable abbrev pZ:Stmt:=top 67
theorem VJ(a b:Text):vI (a++b)=vI a++vI b:=mB
theorem wK:∀(l:List (List Int))(i:Nat),(l.take i).flatten.length≤l.flatten.length
 | [],i=>by rw[List.take_nil];exact i' _
 | a::l,0=>Nat.zero_le _
 | a::l,i+1=>by
  have:=wK l i
  show(a++(l.take i).flatten).length≤(a++l.flatten).length
  rw[jp,jp]
  lia
section
theorem vy:aO ["rows","whole","row"] ["rows"] (aH pZ):=⟨rfl,rfl,rfl,by decide +kernel,rfl,by decide +kernel,by decide +kernel⟩
theorem K7{f:Addr}{fd:FuncData}(F:Fn K mg "joined" pZ f fd ["rows"]):aL P w K mg base (bc P w) 1 f fd ["rows"] N7:=by
 refine dz F.F vy (fun vs H Q E h=>?_) (fun cdv A outer s H vs Q E hr h=>?_)
 ·obtain⟨_,_,_,rfl,_⟩:=h
  rfl
 ·obtain⟨l,ts,rows,rfl,O,J,S,k⟩:=h
  refine⟨_,aj (a_ (i:=1) vy.nd rfl (Or.inl rfl) (b8 aq))
   (aj (lN rH rfl (gU (pv 0)) (bT (i:=2) vy.nd rfl (Or.inl rfl))
    (ak (bQ (lR PySem.F.plainAttrs_list PySem.F.slot_list_extend PySem.F.type_list_extend Gz (pv 1) (aa (pv 2) aq)))))
   (ak (aB (pv 1)))),?_⟩
  refine⟨(by show 0≤sizeLine;decide),fun wl z=>?_⟩
  have s1:az H (L2.upd H wl (.lst [])):=az.upd z
  refine⟨_,rfl,l,rfl,⟨_,bF.of (s1 _ _ O)⟩,Dg (K:=K) (a:=l) (xs:=ts.map V.ref)
   (fun i σ H'=>∃L:Option V,σ=[some (.ref l),some (.ref wl),L]∧az H H'∧H' wl=some (.lst (vI (rows.take i).flatten)))
   ⟨none,rfl,s1,au⟩ (fun i σ H' _ ⟨_,_,s2,_⟩=>bF.of (s2 _ _ O)) ?_ ?_⟩
  ·rintro i x σ H' hi ⟨L,rfl,s2,hw⟩
   obtain⟨t,U,rfl⟩:=jK hi
   have Y:i<rows.length:=by rw[Paired.length J];exact(lf.mp U).1
   obtain⟨row,j⟩:∃row,rows[i]?=some row:=⟨_,ln Y⟩
   obtain⟨t',D,Z⟩:=cz J j
   rw[U]at D
   cases D
   have step:(rows.take (i+1)).flatten=(rows.take i).flatten++row:=by
    rw[List.take_succ,j]
    simp
   have G:=wK rows (i+1)
   rw[step,jp]at G
   refine⟨_,rfl,.inl ⟨rfl,_,bF.of hw⟩,_,rfl,wl,t,_,_,rfl,rfl,hw,bN.of (s2 _ _ Z),?_,?_⟩
   ·rw[eO,eO]
    exact lS (by lia:_≤2000000) (by decide)
   ·refine⟨_,rfl,fun c o q=>by rw[aA (aP q z)];exact s2 _ _ q,?_⟩
    rw[au,step,VJ]
  ·rintro σ H' ⟨L,rfl,s2,hw⟩
   rw[ap,←Paired.length J,List.take_length]at hw
   exact⟨_,rfl,k wl H' z s2 hw⟩
end
theorem su:∀c:Vbdeaa.Code,(gH c).flatten.length≤3*c.length
 | []=>i' _
 | i::c=>by
  have:=su c
  show(i.told++(gH c).flatten).length≤3*(c.length+1)
  rw[jp]
  have:i.told.length≤3:=by cases i<;>simp[Ins.told]
  lia
theorem x_(c:Vbdeaa.Code):Vbdeaa.toldCode c=(gH c).flatten:=by
 unfold Vbdeaa.toldCode gH
 rw[List.flatMap_def]
noncomputable def vg(C:Addr):Sp:=fun vs H Q _=>∃(a:Addr)(e:Exp)(n:Nat),vs=[.ref a,.int n]∧n≤8∧aX C H e a∧MX.Kn n e∧e.height≤32∧Vbdeam.size e≤100000∧Ry H Q (vI (Vbdeam.numbers n e))
noncomputable abbrev qb:Stmt:=top 68
section
theorem Ow:aO ["node","n"] ["node","n"] (aH qb):=⟨rfl,rfl,rfl,by decide +kernel,rfl,by decide +kernel,by decide +kernel⟩
theorem K9{f C fI fJ:Addr}{fd dI dJ:FuncData}(F:Fn K mg "code_of" qb f fd ["node","n"])(FI:Fn K mg "instructions_of" vL fI dI ["node","n"])(GI:aL P w K mg base (bc P w) 39 fI dI ["node","n"] (uD C 32))(z:Fn K mg "joined" pZ fJ dJ ["rows"]):aL P w K mg base (bc P w) 40 f fd ["node","n"] (vg C):=by
 have GJ:aL P w K mg base (bc P w) 1 fJ dJ _ _:=K7 z
 refine dz F.F Ow (fun vs H Q E h=>?_) (fun cdv A outer s H vs Q E U h=>?_)
 ·obtain⟨_,_,_,rfl,_⟩:=h
  rfl
 ·obtain⟨a,e,n,rfl,L,Z,S,hh,hsz,k⟩:=h
  have J:bB 1 _:=U.mono (by decide)
  refine⟨_,ak (aB (aK GJ J rfl z.m z.F.kp z.b .nil passes (aa (aK GI U rfl FI.m FI.F.kp FI.b .nil passes (aa (pv 0) (aa (pv 1) aq))) aq))),?_⟩
  refine⟨_,rfl,_,rfl,a,e,n,rfl,L,Z,S,hh,hsz,fun l ts H1 hl s1 O j Y=>?_⟩
  have h1:=su (Vbdeam.codeOf n e)
  have h2:=di n e
  refine⟨l,ts,gH (Vbdeam.codeOf n e),rfl,O,j,by lia,fun l2 H2 G s2 D=>k l2 H2 (same_none s1 G) (s1.trans s2) ?_⟩
  rw[D]
  unfold Vbdeam.numbers
  rw[x_]
end
theorem JW{n:Int}(h:¬(0≤n∧n≤8)):Vbdeam.within n 0 8=false:=by
 unfold Vbdeam.within
 by_cases h0:0≤n
 ·rw[mu (show ¬n≤8 by lia),Bool.and_false]
 ·rw[mu h0,Bool.false_and]
theorem Ec{n:Nat}(h:n≤8):Vbdeam.within (n:Int) 0 8=true:=by
 unfold Vbdeam.within
 rw[mi (show(0:Int)≤n by lia),mi (show(n:Int)≤8 by lia)]
 rfl
theorem J8{n:Nat}{code:List Int}(j:¬code.length≤500):Vbdeam.taken n code=.error (-2):=by
 unfold Vbdeam.taken
 rw[mr (show Vbdeam.LONGCODE<code.length by unfold Vbdeam.LONGCODE;lia)]
theorem Ba{n:Nat}{code:List Int}(z:code.length≤500)(j:Vbdeam.expOf n code=none):Vbdeam.taken n code=.error (-3):=by
 unfold Vbdeam.taken
 rw[ml (show ¬Vbdeam.LONGCODE<code.length by unfold Vbdeam.LONGCODE;lia),j]
theorem El{n:Nat}{code:List Int}{e:Exp}(h:n≤8)(D:code.length≤500)(j:Vbdeam.expOf n code=some e)(hd:¬mD e):Vbdeam.taken n code=.error (-4):=by
 unfold Vbdeam.taken
 rw[ml (show ¬Vbdeam.LONGCODE<code.length by unfold Vbdeam.LONGCODE;lia),j]
 simp only
 rw[ml (fun z=>hd ((yK (sI h j).1).mp z))]
theorem Em{n:Nat}{code:List Int}{e:Exp}(h:n≤8)(z:code.length≤500)(j:Vbdeam.expOf n code=some e)(hd:mD e):Vbdeam.taken n code=.ok e:=by
 unfold Vbdeam.taken
 rw[ml (show ¬Vbdeam.LONGCODE<code.length by unfold Vbdeam.LONGCODE;lia),j]
 simp only
 rw[mr ((yK (sI h j).1).mpr hd)]
theorem Rf{n:Nat}{code:List Int}{e:Exp}(h:Vbdeam.expOf n code=some e):MX.Kn n e:=by
 unfold Vbdeam.expOf at h
 obtain⟨c,z,j⟩:=lI.mp h
 exact MX.Wi (MX.lu.mp j) fun x hx=>by cases hx
noncomputable def b7(m:Int):Exp→Bool
 | .num q=>decide (q=(m,1))
 | _=>false
noncomputable def wC:Exp→Exp
 | .bin o a b=>if(o=.add∨o=.sub)∧b7 0 b=true then a else if o=.add∧b7 0 a=true then b else if(o=.mul∨(o=.div∨o=.pow))∧b7 1 b=true then a else if o=.mul∧b7 1 a=true then b else .bin o a b
 | e=>e
noncomputable def cV:Exp→Exp
 | .num q=>.num q
 | .name n=>.name n
 | .un o a=>.un o a.fold
 | .bin o a b=>.bin o a.fold b.fold
 | .and a b=>.and a.fold b.fold
 | .or a b=>.or a.fold b.fold
 | .cond c a b=>.cond c.fold a.fold b.fold
 | .best g l=>.best g l.fold
 | .use n l=>.use n l.fold
noncomputable def oN:Exp→Exp
 | .un o a=>match Vbdeaa.litOf a with
  | some v=>Vbdeaa.lit (Vbdeaa.unary o v)
  | none=>.un o a
 | .bin o a b=>Vbdeaa.foldBin o a b
 | .and a b=>Vbdeaa.foldAnd a b
 | .or a b=>Vbdeaa.foldOr a b
 | .cond c a b=>match Vbdeaa.litOf c with
  | some v=>if Vbdeaa.isZero v=true then b else a
  | none=>.cond c a b
 | .best g l=>match l.lits with
  | some (q::r)=>Vbdeaa.lit (r.foldl (Vbdeaa.better g) q)
  | _=>.best g l
 | e=>e
theorem Q7(e:Exp):e.fold=oN (cV e):=by
 cases e<;>first | rfl | (unfold Exp.fold;rfl)
theorem wM:∀l:Exps,jV l.fold=(jV l).map Exp.fold
 | .nil=>rfl
 | .cons e l=>by
  show e.fold::jV l.fold=e.fold::(jV l).map Exp.fold
  rw[wM l]
theorem jR(e:Exp):kids (cV e)=(kids e).map Exp.fold:=by
 cases e with
 | best g l=>exact wM l
 | use n l=>exact wM l
 | _=>rfl
noncomputable def NP:Exp→Prop
 | .un .neg (.num q)=>0<q.1
 | _=>True
noncomputable def xq(q:Vbdeaa.Q):Prop:=FM.Small q∧FM.Good q
theorem vU{q:Vbdeaa.Q}:Vbdeaa.proper q=true↔xq q:=FM.Ge
theorem mq{e:Exp}{q:Vbdeaa.Q}(h:MX.iy e)(j:Vbdeaa.litOf e=some q):xq q:=by
 unfold Vbdeaa.litOf at j
 split at j
 ·cases j;exact vU.mp h.1
 ·cases j
  have:=vU.mp h.1
  exact⟨⟨by rw[Int.natAbs_neg];exact this.1.1,this.1.2⟩,this.2.1,by rw[Int.natAbs_neg];exact this.2.2⟩
 ·cases j
theorem Jg{q:Vbdeaa.Q}(h:xq q):MX.iy (Vbdeaa.lit q)∧NP (Vbdeaa.lit q):=by
 unfold Vbdeaa.lit
 split
 ·next hq =>
  refine⟨⟨vU.mpr ⟨⟨by rw[Int.natAbs_neg];exact h.1.1,h.1.2⟩,h.2.1,by rw[Int.natAbs_neg];exact h.2.2⟩,by show(0:Int)≤-q.1;lia⟩,?_⟩
  show 0 < -q.1
  lia
 ·next hq=>exact⟨⟨vU.mpr h,by lia⟩,trivial⟩
theorem CT(q:Vbdeaa.Q):Vbdeam.size (Vbdeaa.lit q)≤2∧(Vbdeaa.lit q).height≤2:=by
 unfold Vbdeaa.lit
 split<;>simp[Vbdeam.size,Exp.height]
theorem G5(n:Nat)(q:Vbdeaa.Q):MX.Kn n (Vbdeaa.lit q):=by
 unfold Vbdeaa.lit
 split<;>exact trivial
theorem lg{n:Int}(h:n.natAbs≤10 ^ 18):xq (Vbdeaa.whole n):=⟨⟨h,by show 1≤10 ^ 18;decide⟩,i' 1,by show Nat.gcd n.natAbs 1=1;exact Nat.gcd_one_right _⟩
theorem d9(b:Bool):xq (Vbdeaa.truth b):=by
 cases b
 ·exact⟨⟨by decide,by decide⟩,by decide,by decide⟩
 ·exact⟨⟨by decide,by decide⟩,by decide,by decide⟩
theorem Dm(n:Int){d:Nat}(hd:1≤d):(n / (d:Int)).natAbs≤n.natAbs:=by
 rcases Int.lt_or_le n 0 with h | h
 ·have h1:n / (d:Int)<0:=Int.ediv_neg_of_neg_of_pos h (by lia)
  have h2:n≤n / (d:Int):=by
   refine Int.le_ediv_of_mul_le (by lia) ?_
   have j:0≤(-n)*((d:Int)-1):=Int.mul_nonneg (by lia) (by lia)
   rw[Int.mul_sub,Int.mul_one,Int.neg_mul]at j
   lia
  lia
 ·have h1:0≤n / (d:Int):=Int.ediv_nonneg h (by lia)
  have h2:n / (d:Int)≤n:=Int.ediv_le_self _ h
  lia
theorem Ng{o:Un}{v:Vbdeaa.Q}(h:xq v):xq (Vbdeaa.unary o v):=by
 have j:=h.1.1
 have hd:=h.1.2
 cases o with
 | neg=>exact⟨⟨by show(-v.1).natAbs≤_;rw[Int.natAbs_neg];exact j,hd⟩,h.2.1,by show Nat.gcd (-v.1).natAbs _=1;rw[Int.natAbs_neg];exact h.2.2⟩
 | not=>exact d9 _
 | floor=>exact lg (lS (Dm _ h.2.1) j)
 | ceil =>
  refine lg ?_
  rw[Int.natAbs_neg]
  exact lS (Dm (-v.1) h.2.1) (by rw[Int.natAbs_neg];exact j)
 | abs=>exact⟨⟨by show((v.1.natAbs:Int)).natAbs≤_;rw[l4];exact j,hd⟩,h.2.1,by show Nat.gcd ((v.1.natAbs:Int)).natAbs _=1;rw[l4];exact h.2.2⟩
 | sign =>
  refine lg ?_
  split
  ·decide
  ·split<;>decide
 | num=>exact lg j
 | den=>exact lg (by rw[l4];exact hd)
theorem gn{v w:Vbdeaa.Q}(j:FM.Good v)(h:Vbdeaa.capped v=.ok w):xq w:=by
 unfold Vbdeaa.capped at h
 split at h
 ·next hs=>cases h;exact⟨(FM.yj j.1).mp hs,j⟩
 ·cases h
theorem Ed(n:Int):FM.Good (Vbdeaa.whole n):=⟨i' 1,Nat.gcd_one_right _⟩
theorem Iv{v:Vbdeaa.Q}(h:FM.Good v)(k:Nat):FM.Good (FM.pw v k):=by
 refine⟨FM.F_ h.1 k,?_⟩
 show Nat.gcd (v.1 ^ k).natAbs (v.2 ^ k)=1
 rw[Int.natAbs_pow]
 exact FM.Js h.2 k
theorem QT{v:Vbdeaa.Q}(h:FM.Good v)(h0:v.1≠0):FM.Good (FM.inv v):=by
 refine⟨FM.jc h0,?_⟩
 unfold FM.inv
 split
 ·show Nat.gcd (-(v.2:Int)).natAbs v.1.natAbs=1
  rw[Int.natAbs_neg,l4,Nat.gcd_comm];exact h.2
 ·show Nat.gcd ((v.2:Int)).natAbs v.1.natAbs=1
  rw[l4,Nat.gcd_comm];exact h.2
theorem Mq{o:Bin}{a b v:Vbdeaa.Q}(j:xq a)(D:xq b)(h:Vbdeaa.binary o a b=.ok v):xq v:=by
 have z:0<a.2*b.2:=Nat.mul_pos j.2.1 D.2.1
 cases o with
 | add=>exact gn (FM.jr _ z) h
 | sub=>exact gn (FM.jr _ z) h
 | mul=>exact gn (FM.jr _ z) h
 | div =>
  unfold Vbdeaa.binary at h;simp only at h
  split at h
  ·cases h
  ·next h0=>exact gn (by rw[FM.uO j.2.1 h0];exact FM.jr _ (Nat.mul_pos j.2.1 (FM.jc h0))) h
 | quo =>
  unfold Vbdeaa.binary at h;simp only at h
  split at h
  ·cases h
  ·exact gn (Ed _) h
 | rem =>
  unfold Vbdeaa.binary at h;simp only at h
  split at h
  ·cases h
  ·exact gn (FM.jr _ (Nat.mul_pos j.2.1 (FM.mz _ (Nat.mul_pos D.2.1 (i' 1))))) h
 | pow =>
  have h:Vbdeaa.power a b=.ok v:=h
  unfold Vbdeaa.power at h
  split at h
  ·cases h
  ·split at h
   ·exact gn (Iv j.2 _) h
   ·split at h
    ·cases h
    ·next h0=>rw[FM.QS j.2 h0]at h;exact gn (Iv (QT j.2 h0) _) h
 | eq=>cases h;exact d9 _
 | ne=>cases h;exact d9 _
 | lt=>cases h;exact d9 _
 | le=>cases h;exact d9 _
 | gt=>cases h;exact d9 _
 | ge=>cases h;exact d9 _
theorem Mv{g:Bool}{a b:Vbdeaa.Q}(j:xq a)(z:xq b):xq (Vbdeaa.better g a b):=by
 unfold Vbdeaa.better
 split<;>split<;>assumption
theorem Dh{g:Bool}:∀{r:List Vbdeaa.Q}{q:Vbdeaa.Q},xq q→(∀x∈r,xq x)→xq (r.foldl (Vbdeaa.better g) q)
 | [],q,h,_=>h
 | x::r,q,h,j=>Dh (r:=r) (Mv h (j x ci)) fun y z=>j y (am _ z)
theorem Jf:∀{l:Exps}{vs:List Vbdeaa.Q},MX.xj l→l.lits=some vs→∀x∈vs,xq x
 | .nil,vs,_,h,x,hx=>by cases h;cases hx
 | .cons e l,vs,j,h,x,hx=>by
  unfold Exps.lits at h
  cases h1:Vbdeaa.litOf e with
  | none=>rw[h1]at h;cases h
  | some q =>
   cases h2:l.lits with
   | none=>rw[h1,h2]at h;cases h
   | some r =>
    rw[h1,h2]at h
    cases h
    rcases j'.mp hx with rfl | hx
    ·exact mq j.1 h1
    ·exact Jf j.2 h2 x hx
theorem uK{m:Int}{e:Exp}(F:0≤m)(z:MX.iy e)(j:NP e):Vbdeaa.litOf e=some (m,1)↔b7 m e=true:=by
 cases e with
 | num q =>
  show some q=some (m,1)↔decide (q=(m,1))=true
  rw[mo]
  exact⟨fun h=>Option.some.inj h,fun h=>by rw[h]⟩
 | un o a =>
  refine⟨fun h=>?_,fun h=>by cases h⟩
  cases o with
  | neg =>
   cases a with
   | num q =>
    have h1:0<q.1:=j
    have h2:some ((-q.1,q.2):Vbdeaa.Q)=some (m,1):=h
    have D:-q.1=m:=congrArg Prod.fst (Option.some.inj h2)
    lia
   | _=>cases h
  | _=>cases h
 | _=>exact⟨fun h=>(by cases h),fun h=>(by cases h)⟩
theorem Gf{o:Bin}{a b:Exp}(z:MX.iy a)(D:MX.iy b)(na:NP a)(j:NP b):Vbdeaa.plainBin o a b=wC (.bin o a b):=by
 unfold Vbdeaa.plainBin wC
 simp only[uK (m:=0) (by decide) z na,uK (m:=0) (by decide) D j,uK (m:=1) (by decide) z na,uK (m:=1) (by decide) D j]
structure FI (e f:Exp):Prop where
 fit:MX.iy f
 np:NP f
 size:Vbdeam.size f≤Vbdeam.size e
 high:f.height≤e.height
theorem Hi{e:Exp}{q:Vbdeaa.Q}(h:xq q)(j:2≤Vbdeam.size e)(z:2≤e.height):FI e (Vbdeaa.lit q):=⟨(Jg h).1,(Jg h).2,lS (CT q).1 j,lS (CT q).2 z⟩
theorem jT(e:Exp):1≤e.height:=by cases e<;>simp[Exp.height]
theorem jo(e:Exp):1≤Vbdeam.size e:=by cases e<;>simp[Vbdeam.size]
theorem zX{e:Exp}{q:Vbdeaa.Q}(h:xq q)(h0:0≤q.1):FI e (.num q):=⟨⟨vU.mpr h,h0⟩,trivial,jo e,jT e⟩
theorem Ax(b:Bool):0≤(Vbdeaa.truth b).1:=by cases b<;>decide
mutual
theorem eX:∀e:Exp,MX.iy e→FI e e.fold
 | .num q,h=>⟨h,trivial,i' _,i' _⟩
 | .name n,h=>⟨h,trivial,i' _,i' _⟩
 | .un o a,h=>by
  have F:=eX a h
  have G:=jT a
  have S:=jo a
  show FI _ (match Vbdeaa.litOf a.fold with | some v=>Vbdeaa.lit (Vbdeaa.unary o v) | none=>.un o a.fold)
  split
  ·next v hv=>exact Hi (Ng (mq F.fit hv)) (by show 2≤Vbdeam.size a+1;lia) (by show 2≤a.height+1;lia)
  ·next hv =>
   refine⟨F.fit,?_,by show Vbdeam.size a.fold+1≤Vbdeam.size a+1;have:=F.size;lia,by show a.fold.height+1≤a.height+1;have:=F.high;lia⟩
   cases o with
   | neg =>
    cases D:a.fold with
    | num q=>rw[D]at hv;cases hv
    | _=>exact trivial
   | _=>exact trivial
 | .bin o a b,h=>by
  have i1:=eX a h.1
  have j:=eX b h.2
  have G:=jT a
  have S:=jo a
  have s1:=i1.size;have s2:=j.size;have t1:=i1.high;have t2:=j.high
  have keep:FI (.bin o a b) (.bin o a.fold b.fold):=⟨⟨i1.fit,j.fit⟩,trivial,by show Vbdeam.size a.fold+Vbdeam.size b.fold+1≤Vbdeam.size a+Vbdeam.size b+1;lia,by show max a.fold.height b.fold.height+1≤max a.height b.height+1;lia⟩
  have left:FI (.bin o a b) a.fold:=⟨i1.fit,i1.np,by show _≤Vbdeam.size a+Vbdeam.size b+1;lia,by show _≤max a.height b.height+1;lia⟩
  have right:FI (.bin o a b) b.fold:=⟨j.fit,j.np,by show _≤Vbdeam.size a+Vbdeam.size b+1;lia,by show _≤max a.height b.height+1;lia⟩
  show FI _ (Vbdeaa.foldBin o a.fold b.fold)
  unfold Vbdeaa.foldBin
  split
  ·next v w hv hw =>
   split
   ·next q D=>exact Hi (Mq (mq i1.fit hv) (mq j.fit hw) D) (by show 2≤Vbdeam.size a+Vbdeam.size b+1;have:=jo b;lia) (by show 2≤max a.height b.height+1;lia)
   ·exact keep
  ·unfold Vbdeaa.plainBin
   split
   ·exact left
   ·split
    ·exact right
    ·split
     ·exact left
     ·split
      ·exact right
      ·exact keep
 | .and a b,h=>by
  have i1:=eX a h.1
  have j:=eX b h.2
  have s1:=i1.size;have s2:=j.size;have t1:=i1.high;have t2:=j.high
  show FI _ (Vbdeaa.foldAnd a.fold b.fold)
  have keep:FI (.and a b) (.and a.fold b.fold):=⟨⟨i1.fit,j.fit⟩,trivial,by show Vbdeam.size a.fold+Vbdeam.size b.fold+1≤Vbdeam.size a+Vbdeam.size b+1;lia,by show max a.fold.height b.fold.height+1≤max a.height b.height+1;lia⟩
  unfold Vbdeaa.foldAnd
  split
  ·split
   ·exact zX (d9 false) (by decide)
   ·split
    ·exact zX (d9 _) (Ax _)
    ·split
     ·exact⟨j.fit,j.np,by show _≤Vbdeam.size a+Vbdeam.size b+1;lia,by show _≤max a.height b.height+1;lia⟩
     ·exact keep
  ·exact keep
 | .or a b,h=>by
  have i1:=eX a h.1
  have j:=eX b h.2
  have s1:=i1.size;have s2:=j.size;have t1:=i1.high;have t2:=j.high
  show FI _ (Vbdeaa.foldOr a.fold b.fold)
  have keep:FI (.or a b) (.or a.fold b.fold):=⟨⟨i1.fit,j.fit⟩,trivial,by show Vbdeam.size a.fold+Vbdeam.size b.fold+1≤Vbdeam.size a+Vbdeam.size b+1;lia,by show max a.fold.height b.fold.height+1≤max a.height b.height+1;lia⟩
  unfold Vbdeaa.foldOr
  split
  ·split
   ·exact zX (d9 true) (by decide)
   ·split
    ·exact zX (d9 _) (Ax _)
    ·split
     ·exact⟨j.fit,j.np,by show _≤Vbdeam.size a+Vbdeam.size b+1;lia,by show _≤max a.height b.height+1;lia⟩
     ·exact keep
  ·exact keep
 | .cond c a b,h=>by
  have i0:=eX c h.1
  have i1:=eX a h.2.1
  have j:=eX b h.2.2
  have U:=i0.size;have s1:=i1.size;have s2:=j.size;have t0:=i0.high;have t1:=i1.high;have t2:=j.high
  show FI _ (match Vbdeaa.litOf c.fold with | some v=>if Vbdeaa.isZero v=true then b.fold else a.fold | none=>.cond c.fold a.fold b.fold)
  split
  ·split
   ·exact⟨j.fit,j.np,by show _≤Vbdeam.size c+Vbdeam.size a+Vbdeam.size b+1;lia,by show _≤max c.height (max a.height b.height)+1;lia⟩
   ·exact⟨i1.fit,i1.np,by show _≤Vbdeam.size c+Vbdeam.size a+Vbdeam.size b+1;lia,by show _≤max c.height (max a.height b.height)+1;lia⟩
  ·exact⟨⟨i0.fit,i1.fit,j.fit⟩,trivial,by show Vbdeam.size c.fold+Vbdeam.size a.fold+Vbdeam.size b.fold+1≤Vbdeam.size c+Vbdeam.size a+Vbdeam.size b+1;lia,by show max c.fold.height (max a.fold.height b.fold.height)+1≤max c.height (max a.height b.height)+1;lia⟩
 | .best g l,h=>by
  obtain⟨i1,j,O,J⟩:=wJ l h.1
  have L:l≠.nil:=h.2
  have h2:1≤Vbdeam.sizeAll l∧1≤l.height:=by
   cases l with
   | nil=>exact absurd rfl L
   | cons e r=>have:=jo e;have:=jT e;simp only[Vbdeam.sizeAll,Exps.height];lia
  have keep:FI (.best g l) (.best g l.fold):=⟨⟨i1,fun z=>L (J.mp z)⟩,trivial,by show Vbdeam.sizeAll l.fold+1≤Vbdeam.sizeAll l+1;lia,by show l.fold.height+1≤l.height+1;lia⟩
  show FI _ (match l.fold.lits with | some (q::r)=>Vbdeaa.lit (r.foldl (Vbdeaa.better g) q) | _=>.best g l.fold)
  split
  ·next q r D =>
   have G:=Jf i1 D
   exact Hi (Dh (G q ci) fun x hx=>G x (am _ hx)) (by show 2≤Vbdeam.sizeAll l+1;lia) (by show 2≤l.height+1;lia)
  ·exact keep
 | .use n l,h=>by
  obtain⟨i1,j,O,J⟩:=wJ l h.2.1
  exact⟨⟨h.1,i1,fun z=>h.2.2 (J.mp z)⟩,trivial,by show Vbdeam.sizeAll l.fold+1≤Vbdeam.sizeAll l+1;lia,by show l.fold.height+1≤l.height+1;lia⟩
theorem wJ:∀l:Exps,MX.xj l→MX.xj l.fold∧Vbdeam.sizeAll l.fold≤Vbdeam.sizeAll l∧l.fold.height≤l.height∧(l.fold=.nil↔l=.nil)
 | .nil,_=>⟨trivial,i' _,i' _,Iff.rfl⟩
 | .cons e l,h=>by
  have i1:=eX e h.1
  obtain⟨j,z,F,D⟩:=wJ l h.2
  have s1:=i1.size;have t1:=i1.high
  refine⟨⟨i1.fit,j⟩,?_,?_,?_⟩
  ·show Vbdeam.size e.fold+Vbdeam.sizeAll l.fold≤Vbdeam.size e+Vbdeam.sizeAll l;lia
  ·show max e.fold.height l.fold.height≤max e.height l.height;lia
  ·show Exps.cons e.fold l.fold=.nil↔Exps.cons e l=.nil
   simp
end
theorem yI:∀l:Exps,l.fold.length=l.length
 | .nil=>rfl
 | .cons e l=>by show l.fold.length+1=l.length+1;rw[yI l]
mutual
theorem fY{n:Nat}:∀e:Exp,MX.Kn n e→MX.Kn n e.fold
 | .num q,h=>h
 | .name t,h=>h
 | .un o a,h=>by
  have z:=fY a h
  show MX.Kn n (match Vbdeaa.litOf a.fold with | some v=>Vbdeaa.lit (Vbdeaa.unary o v) | none=>.un o a.fold)
  split
  ·exact G5 _ _
  ·exact z
 | .bin o a b,h=>by
  have i1:=fY a h.1
  have j:=fY b h.2
  show MX.Kn n (Vbdeaa.foldBin o a.fold b.fold)
  unfold Vbdeaa.foldBin
  split
  ·split
   ·exact G5 _ _
   ·exact⟨i1,j⟩
  ·unfold Vbdeaa.plainBin
   split
   ·exact i1
   ·split
    ·exact j
    ·split
     ·exact i1
     ·split
      ·exact j
      ·exact⟨i1,j⟩
 | .and a b,h=>by
  have i1:=fY a h.1
  have j:=fY b h.2
  show MX.Kn n (Vbdeaa.foldAnd a.fold b.fold)
  unfold Vbdeaa.foldAnd
  split
  ·split
   ·exact trivial
   ·split
    ·exact trivial
    ·split
     ·exact j
     ·exact⟨i1,j⟩
  ·exact⟨i1,j⟩
 | .or a b,h=>by
  have i1:=fY a h.1
  have j:=fY b h.2
  show MX.Kn n (Vbdeaa.foldOr a.fold b.fold)
  unfold Vbdeaa.foldOr
  split
  ·split
   ·exact trivial
   ·split
    ·exact trivial
    ·split
     ·exact j
     ·exact⟨i1,j⟩
  ·exact⟨i1,j⟩
 | .cond c a b,h=>by
  have i0:=fY c h.1
  have i1:=fY a h.2.1
  have j:=fY b h.2.2
  show MX.Kn n (match Vbdeaa.litOf c.fold with | some v=>if Vbdeaa.isZero v=true then b.fold else a.fold | none=>.cond c.fold a.fold b.fold)
  split
  ·split
   ·exact j
   ·exact i1
  ·exact⟨i0,i1,j⟩
 | .best g l,h=>by
  have i1:=wI l h
  show MX.Kn n (match l.fold.lits with | some (q::r)=>Vbdeaa.lit (r.foldl (Vbdeaa.better g) q) | _=>.best g l.fold)
  split
  ·exact G5 _ _
  ·exact i1
 | .use t l,h=>by
  have i1:=wI l h.2
  exact⟨by rw[yI];exact h.1,i1⟩
theorem wI{n:Nat}:∀l:Exps,MX.Xz n l→MX.Xz n l.fold
 | .nil,_=>trivial
 | .cons e l,h=>⟨fY e h.1,wI l h.2⟩
end
noncomputable def oA:List Exp→Option (List Vbdeaa.Q)
 | []=>some []
 | e::l=>match Vbdeaa.litOf e,oA l with
  | some q,some r=>some (q::r)
  | _,_=>none
theorem yE:∀l:Exps,l.lits=oA (jV l)
 | .nil=>rfl
 | .cons e l=>by
  show(match Vbdeaa.litOf e,l.lits with | some q,some r=>some (q::r) | _,_=>none)=(match Vbdeaa.litOf e,oA (jV l)with | some q,some r=>some (q::r) | _,_=>none)
  rw[yE l]
noncomputable def Fx:Exp→List Vbdeaa.Q→Option Vbdeaa.Q
 | .un o _,[v]=>some (Vbdeaa.unary o v)
 | .bin o _ _,[v,w]=>yU o v w
 | .best g _,q::r=>some (r.foldl (Vbdeaa.better g) q)
 | _,_=>none
noncomputable def Gg:Exp→Prop
 | .un _ _=>True
 | .bin _ _ _=>True
 | .best _ l=>jV l≠[]
 | _=>False
theorem J2{e:Exp}(j:Gg e)(z:∀k∈kids e,MX.iy k∧NP k):oN e=match oA (kids e)with
  | none=>wC e
  | some vs=>match Fx e vs with
   | none=>e
   | some q=>Vbdeaa.lit q:=by
 cases e with
 | un o a =>
  show(match Vbdeaa.litOf a with | some v=>Vbdeaa.lit (Vbdeaa.unary o v) | none=>.un o a)=_
  show _=match(match Vbdeaa.litOf a,(some []:Option (List Vbdeaa.Q))with | some q,some r=>some (q::r) | _,_=>none)with | none=>wC (.un o a) | some vs=>match Fx (.un o a) vs with | none=>.un o a | some q=>Vbdeaa.lit q
  cases Vbdeaa.litOf a<;>rfl
 | bin o a b =>
  have F:=z a ci
  have D:=z b (am _ ci)
  show Vbdeaa.foldBin o a b=_
  unfold Vbdeaa.foldBin
  rw[Gf F.1 D.1 F.2 D.2]
  show _=match(match Vbdeaa.litOf a,(match Vbdeaa.litOf b,(some []:Option (List Vbdeaa.Q))with | some q,some r=>some (q::r) | _,_=>none)with | some q,some r=>some (q::r) | _,_=>none)with | none=>wC (.bin o a b) | some vs=>match Fx (.bin o a b) vs with | none=>.bin o a b | some q=>Vbdeaa.lit q
  cases Vbdeaa.litOf a with
  | none=>rfl
  | some v =>
   cases Vbdeaa.litOf b with
   | none=>rfl
   | some w =>
    show(match Vbdeaa.binary o v w with | .ok q=>Vbdeaa.lit q | .error _=>.bin o a b)=match yU o v w with | none=>.bin o a b | some q=>Vbdeaa.lit q
    unfold yU
    cases Vbdeaa.binary o v w<;>rfl
 | best g l =>
  show(match l.lits with | some (q::r)=>Vbdeaa.lit (r.foldl (Vbdeaa.better g) q) | _=>.best g l)=match oA (jV l)with | none=>.best g l | some vs=>match Fx (.best g l) vs with | none=>.best g l | some q=>Vbdeaa.lit q
  rw[yE]
  cases oA (jV l)with
  | none=>rfl
  | some vs=>cases vs<;>rfl
 | num q=>exact j.elim
 | name q=>exact j.elim
 | and a b=>exact j.elim
 | or a b=>exact j.elim
 | cond c a b=>exact j.elim
 | use n l=>exact j.elim
noncomputable def Hx(M:List Addr)(H:Hp):Prop:=∀b∈M,∃xs,H b=some (.lst xs)
theorem Hx.there{M:List Addr}{H:Hp}(h:Hx M H):∀b∈M,∃o,H b=some o:=fun b j=>by obtain⟨xs,e⟩:=h b j;exact⟨_,e⟩
theorem Hx.same{M:List Addr}{H H':Hp}(h:Hx M H)(s:az H H'):Hx M H':=fun b j=>by obtain⟨xs,e⟩:=h b j;exact⟨xs,s _ _ e⟩
theorem Hx.tup{M:List Addr}{H:Hp}(h:Hx M H){t:Addr}{xs:List V}(e:H t=some (.tup xs)):off M H t=some (.tup xs):=bU e fun z=>by obtain⟨ys,j⟩:=h t z;rw[e]at j;cases j
theorem Hx.new{M:List Addr}{H:Hp}(h:Hx M H){t:Addr}(e:H t=none):t∉M:=fun z=>by obtain⟨ys,j⟩:=h t z;rw[e]at j;cases j
theorem gO{M:List Addr}{H H':Hp}(k:cY M H H'):az H H':=fun b o e=>by
 by_cases j:b∈M
 ·rw[k.ins b j];exact e
 ·exact aZ _ _ _ _ (k.out b o (bU e j))
noncomputable def D_(C:Addr)(M:List Addr)(H:Hp)(Q:VK)(e:Exp):Prop:=∀r H',cY M H H'→aX C (off M H') e r→Q (.ref r) H'
theorem D_.mono{C:Addr}{M:List Addr}{H H1:Hp}{Q:VK}{e:Exp}(h:D_ C M H Q e)(k:cY M H H1):D_ C M H1 Q e:=fun r H' j n=>h r H' (k.trans j) n
theorem lY{C:Addr}{M:List Addr}{H1:Hp}{e:Exp}{D:V}{l:Addr}{as:List Addr}{R:Hp→Prop}{E:XK}(O:∀b∈M,∃o,H1 b=some o)(Y:jz (off M H1) e D)(L:off M H1 l=some (.lst (as.map V.ref)))(S:Paired (aX C (off M H1)) (kids e) as)(j:as.length<2000)
  {x dx:Addr} (hx:H1 x=none) (G:H1 dx=none) (k:∀H2,cY M H1 H2→aX C (off M H2) e x→R H2) :
  oR C [.ref x,.int (dZ e),D,.ref l] (L2.upd (L2.upd H1 dx (.own x)) x (.ins C dx [])) (fun v H2=>v=.non∧R H2) E:=by
 have s1:=az.YC (C:=C) hx G
 have J:=(aZ M H1).trans s1
 refine⟨x,dx,l,e,D,as,rfl,au,eN (fun b xs q=>J b _ q) Y,J _ _ L,bZ J S,j,fun H' Z F=>⟨rfl,?_⟩⟩
 have s2:az H1 H':=fun b o q=>Z b o (s1 b o q) (aP q hx)
 have kp:=cY.of_same O s2
 have xM:x∉M:=fun z=>by
  obtain⟨o,U⟩:=O x z
  rw[hx]at U
  cases U
 exact k H' kp (.mk (bU F xM) (eN (fun b xs q=>kp.out b _ q) Y) (kp.out _ _ L) (bZ kp.out S))
theorem my(o:Bin)(a b:Exp):wC (.bin o a b)=if(o=.add∨o=.sub)∧b7 0 b=true then a else if o=.add∧b7 0 a=true then b else if(o=.mul∨(o=.div∨o=.pow))∧b7 1 b=true then a else if o=.mul∧b7 1 a=true then b else .bin o a b:=rfl
structure FX (P:Program) (w:World) (K:PySem.W.Frag) (mg:Str→Option Value) (base:Heap) (C fN:Addr) (dN:FuncData):Prop where
 N:oK K C
 T:CP K mg
 TC:CN K mg
 TA:CA K mg
 CALL:GC K mg "CALL" (.i 8)
 NN:NK P w K mg base C fN dN
noncomputable def jE(C:Addr):Sp:=fun vs H Q _=>∃(G:Hp)(a:Addr)(e:Exp),vs=[.ref a]∧az G H∧aX C G e a∧oh H Q (Vbdeaa.litOf e)
noncomputable def qY(C:Addr):Sp:=fun vs H Q _=>∃(M:List Addr)(t:Addr)(q:Vbdeaa.Q),vs=[.ref t]∧Hx M H∧VA H q t∧D_ C M H Q (Vbdeaa.lit q)
noncomputable def HW(C:Addr):Sp:=fun vs H Q _=>∃(G:Hp)(a:Addr)(e:Exp)(m:Int),vs=[.ref a,.int m]∧az G H∧aX C G e a∧∀H',az H H'→Q (.bl (b7 m e)) H'
noncomputable def Fe(C:Addr):Sp:=fun vs H Q _=>∃(G:Hp)(a:Addr)(e:Exp),vs=[.ref a]∧az G H∧aX C G e a∧∀r H',az H H'→aX C G (wC e) r→Q (.ref r) H'
noncomputable def Ob(C:Addr):Sp:=fun vs H Q _=>∃(G:Hp)(a:Addr)(c x y:Exp),vs=[.ref a]∧az G H∧aX C G (.cond c x y) a∧∀r H',az H H'→aX C G (oN (.cond c x y)) r→Q (.ref r) H'
noncomputable def Ib(C:Addr):Sp:=fun vs H Q _=>∃(G:Hp)(a:Addr)(e:Exp),vs=[.ref a]∧az G H∧aX C G e a∧∀H',az H H'→Q (.bl e.isTruth) H'
noncomputable abbrev lF:Stmt:=top 95
noncomputable abbrev vD:Stmt:=top 96
noncomputable abbrev vA:Stmt:=top 98
noncomputable abbrev BP:Stmt:=top 99
noncomputable abbrev O6:Stmt:=top 100
noncomputable abbrev vM:Stmt:=top 103
theorem Ih(a b:Int):SeqAt.shaped (.tuple ([a,b].map PyData.int))=true:=by rfl
theorem YF(o:Bin):inV (.int (eZ o)) [.int 0,.int 1]=decide (o=.add∨o=.sub):=by cases o<;>rfl
theorem Uj(o:Bin):inV (.int (eZ o)) [.int 2,.int 3,.int 6]=decide (o=.mul∨(o=.div∨o=.pow)):=by cases o<;>rfl
theorem QQ(o:Bin):decide (V.int (eZ o:Nat)=V.int 0)=decide (o=.add):=by cases o<;>rfl
theorem Jk(o:Bin):decide (V.int (eZ o:Nat)=V.int 2)=decide (o=.mul):=by cases o<;>rfl
section
variable {P:Program} {w:World} {K:PySem.W.Frag} {mg:Str→Option Value} {base:Heap} {C fN:Addr} {dN:FuncData}
theorem Il:aO ["node","pair"] ["node"] (aH lF):=⟨rfl,rfl,rfl,by decide +kernel,rfl,by decide +kernel,by decide +kernel⟩
theorem Qh{f:Addr}{fd:FuncData}(F:Fn K mg "standing_value" lF f fd ["node"])(X:FX P w K mg base C fN dN):aL P w K mg base (bc P w) 1 f fd ["node"] (jE C):=by
 have N:=X.N
 refine dz F.F Il (fun vs H Q E h=>?_) (fun cdv A outer s H vs Q E hr h=>?_)
 ·obtain⟨_,_,_,rfl,_⟩:=h
  rfl
 ·obtain⟨G,a,e,rfl,U,S,k⟩:=h
  obtain⟨dx,D,l,as,h1,O,L,hp⟩:=cH (S.same U)
  refine⟨_,aj (aR (aD aY (aJ (pv 0) rfl) (aW rfl X.T.NUMBER) (aG _)) (ak (aB (aJ (pv 0) rfl))) aF)
   (aj (aR (PW.pt (gb (aD aY (aJ (pv 0) rfl) (aW rfl X.TC.ONE) (aG _)) (gb (aD aY (aJ (pv 0) rfl) (aW rfl X.TA.NEG) (aG _)) (dX (aD aY (aJ (aQ bA (aJ (pv 0) rfl) ao (fun _ _=>rfl)) rfl) (aW rfl X.T.NUMBER) (aG _))))))
    (aj (a_ (i:=1) Il.nd rfl (Or.inl rfl) (aJ (aQ bA (aJ (pv 0) rfl) ao (fun _ _=>rfl)) rfl)) (ak (aB (bw (aa (dY cM (aQ aU (pv 1) ao (fun _ _=>rfl))) (aa (aQ aU (pv 1) ao (fun _ _=>rfl)) aq)))))) aF)
   (ak (aB oW))),?_⟩
  refine⟨_,rfl,a,C,dx,_,_,rfl,h1,N.cl,N.nF,rfl,rfl,_,rfl,?_⟩
  cases e with
  | num q =>
   obtain⟨t,rfl,J⟩:=O
   exact bj ⟨_,rfl,a,C,dx,_,_,rfl,h1,N.cl,N.nD,rfl,k t H (az.refl H) J⟩
  | un o b =>
   obtain rfl:D=.int (yS o):=O
   obtain⟨p,rfl,Z⟩:∃p,as=[p]∧aX C H b p:=by
    cases hp with
    | cons x y=>cases y;exact⟨_,rfl,x⟩
   obtain⟨z,D2,l2,Y,g1,gD,_,_⟩:=cH Z
   refine aN ⟨_,rfl,a,C,dx,_,_,rfl,h1,N.cl,N.nF,rfl,rfl,_,rfl,bj ⟨_,rfl,a,C,dx,_,_,rfl,h1,N.cl,N.nD,rfl,rfl,_,rfl,?_⟩⟩
   cases o with
   | neg =>
    refine bj ⟨_,rfl,a,C,dx,_,_,rfl,h1,N.cl,N.nP,rfl,l,_,_,_,rfl,rfl,bF.of L,at_of (j:=0) rfl rfl,p,C,z,_,_,rfl,g1,N.cl,N.nF,rfl,rfl,_,rfl,?_⟩
    cases b with
    | num q =>
     obtain⟨t,rfl,J⟩:=gD
     refine bj ⟨_,rfl,a,C,dx,_,_,rfl,h1,N.cl,N.nP,rfl,l,_,_,_,rfl,rfl,bF.of L,at_of (j:=0) rfl rfl,p,C,z,_,_,rfl,g1,N.cl,N.nD,rfl,?_⟩
     exact⟨_,rfl,t,_,_,_,rfl,rfl,bN.of J,at0 _ _,q.1,rfl,_,rfl,t,_,_,_,rfl,rfl,bN.of J,at1 _ _,(by show 2≤sizeLine;decide),dH (show gQ H Q ((-q.1,q.2):Vbdeaa.Q)from k) rfl rfl⟩
    | _=>exact aN (k H (az.refl H))
   | _=>exact aN (aN (k H (az.refl H)))
  | _=>exact aN ⟨_,rfl,a,C,dx,_,_,rfl,h1,N.cl,N.nF,rfl,rfl,_,rfl,aN (aN (k H (az.refl H)))⟩
theorem V9:aO ["value"] ["value"] (aH vD):=⟨rfl,rfl,rfl,by decide +kernel,rfl,by decide +kernel,by decide +kernel⟩
theorem S_{f:Addr}{fd:FuncData}(F:Fn K mg "standing_number" vD f fd ["value"])(X:FX P w K mg base C fN dN):aL P w K mg base (bc P w) 3 f fd ["value"] (qY C):=by
 have N:=X.N
 have NN:=X.NN
 refine dz F.F V9 (fun vs H Q E h=>?_) (fun cdv A outer s H vs Q E hr h=>?_)
 ·obtain⟨_,_,_,rfl,_⟩:=h
  rfl
 ·obtain⟨M,t,q,rfl,O,S,k⟩:=h
  refine⟨_,aj (aR (aD iG (aQ aU (pv 0) ao (fun _ _=>rfl)) ao (aG _))
    (ak (aB (dh NN.mk_ NN.ok hr rfl NN.m NN.b .nil passes (aa (aW rfl X.TC.ONE) (aa (aW rfl X.TA.NEG) (aa (b8 (aa (dh NN.mk_ NN.ok hr rfl NN.m NN.b .nil passes (aa (aW rfl X.T.NUMBER) (aa (bw (aa (dY cM (aQ aU (pv 0) ao (fun _ _=>rfl))) (aa (aQ aU (pv 0) ao (fun _ _=>rfl)) aq))) (aa (b8 aq) aq)))) aq)) aq)))))) aF)
   (ak (aB (dh NN.mk_ NN.ok hr rfl NN.m NN.b .nil passes (aa (aW rfl X.T.NUMBER) (aa (pv 0) (aa (b8 aq) aq)))))),?_⟩
  refine⟨_,rfl,t,_,_,_,rfl,rfl,bN.of S,at0 _ _,_,_,rfl,rfl,_,rfl,bC (fun h1=>?_) fun h1=>?_⟩
  ·have h1:q.1<0:=mn h1
   have Y:Vbdeaa.lit q=.un .neg (.num (-q.1,q.2)):=by unfold Vbdeaa.lit;rw[mr h1]
   rw[Y]at k
   refine⟨_,rfl,t,_,_,_,rfl,rfl,bN.of S,at0 _ _,q.1,rfl,_,rfl,t,_,_,_,rfl,rfl,bN.of S,at1 _ _,(by show 2≤sizeLine;decide),fun T hT=>⟨(by show 0≤sizeLine;decide),fun l J=>?_⟩⟩
   have s1:az H (L2.upd H T (.tup [.int (-q.1),.int (q.2:Nat)])):=az.upd hT
   have s2:=s1.trans (az.upd (o:=.lst []) J)
   have j:=O.same s2
   intro x af hx G _
   refine lY (C:=C) (M:=M) (e:=.num (-q.1,q.2)) (as:=[]) j.there ⟨T,rfl,j.tup ((az.upd J) _ _ au)⟩ (bU au (O.new (same_none s1 J))) .nil (by decide) hx G fun H2 k2 U=>?_
   refine⟨(by show 1≤sizeLine;decide),fun L hL=>?_⟩
   have s3:az H2 (L2.upd H2 L (.lst [V.ref x])):=az.upd hL
   have ae:=(j.same (gO k2)).same s3
   have k3:cY M H2 (L2.upd H2 L (.lst [V.ref x])):=cY.of_same (j.same (gO k2)).there s3
   have LM:L∉M:=(j.same (gO k2)).new hL
   intro y ag hy ac _
   exact lY (C:=C) (M:=M) (e:=.un .neg (.num (-q.1,q.2))) (D:=.int 0) (as:=[x]) ae.there rfl (bU au LM) (.cons (U.same k3.out) .nil) (by show 1<2000;decide) hy ac fun H4 k4 Z=>k y H4 ((cY.of_same O.there s2).trans (k2.trans (k3.trans k4))) Z
  ·have h1:¬q.1<0:=fun z=>h1 (mi z)
   have Y:Vbdeaa.lit q=.num q:=by unfold Vbdeaa.lit;rw[ml h1]
   rw[Y]at k
   refine⟨_,rfl,(by show 0≤sizeLine;decide),fun l J=>?_⟩
   have s2:az H (L2.upd H l (.lst [])):=az.upd J
   have j:=O.same s2
   intro x af hx G _
   exact lY (C:=C) (M:=M) (e:=.num q) (as:=[]) j.there ⟨t,rfl,j.tup (s2 _ _ S)⟩ (bU au (O.new J)) .nil (by decide) hx G fun H2 k2 U=>k x H2 ((cY.of_same O.there s2).trans k2) U
theorem R4:aO ["node","number"] ["node","number"] (aH vA):=⟨rfl,rfl,rfl,by decide +kernel,rfl,by decide +kernel,by decide +kernel⟩
theorem P_{f:Addr}{fd:FuncData}(F:Fn K mg "is_whole_number" vA f fd ["node","number"])(X:FX P w K mg base C fN dN):aL P w K mg base (bc P w) 1 f fd ["node","number"] (HW C):=by
 have N:=X.N
 refine dz F.F R4 (fun vs H Q E h=>?_) (fun cdv A outer s H vs Q E Y h=>?_)
 ·obtain⟨_,_,_,_,rfl,_⟩:=h
  rfl
 ·obtain⟨G,a,e,m,rfl,J,z,k⟩:=h
  obtain⟨dx,D,l,as,h1,Z,hl,hp⟩:=cH (z.same J)
  refine⟨_,ak (aB (rK (bW aY (aJ (pv 0) rfl) (aW rfl X.T.NUMBER) (aG _)) (oV (bW (Gn Y.units) (aJ (pv 0) rfl) (bw (aa (pv 1) (aa ao aq))) (aG _))))),?_⟩
  refine⟨_,rfl,a,C,dx,_,_,rfl,h1,N.cl,N.nF,rfl,rfl,_,rfl,?_⟩
  cases e with
  | num q =>
   obtain⟨t,rfl,U⟩:=Z
   refine bj ⟨_,rfl,a,C,dx,_,_,rfl,h1,N.cl,N.nD,rfl,_,rfl,(by show 2≤sizeLine;decide),fun T S=>?_⟩
   have s1:az H (L2.upd H T (.tup [.int m,.int 1])):=az.upd S
   refine⟨_,_,.tup (bN.of (s1 _ _ U)) (jW [q.1,(q.2:Nat)]),.tup (bN.of au) (jW [m,1]),Ih _ _,Ih _ _,?_⟩
   rw[wN]
   have O:decide (([q.1,((q.2:Nat):Int)]:List Int)=[m,1])=b7 m (.num q):=by
    obtain⟨a,b⟩:=q
    show _=decide (((a,b):Vbdeaa.Q)=(m,1))
    rw[l9,mo,mo]
    simp only[List.cons.injEq,and_true,Prod.mk.injEq]
    exact⟨fun⟨j,L⟩=>⟨j,by lia⟩,fun⟨j,L⟩=>⟨j,by lia⟩⟩
   rw[O]
   exact k _ s1
  | _=>exact aN (k H (az.refl H))
theorem Fp:aO ["node","left","right"] ["node"] (aH BP):=⟨rfl,rfl,rfl,by decide +kernel,rfl,by decide +kernel,by decide +kernel⟩
theorem Tr{f fW:Addr}{fd dW:FuncData}(F:Fn K mg "without_idle_number" BP f fd ["node"])(X:FX P w K mg base C fN dN)(FW:Fn K mg "is_whole_number" vA fW dW ["node","number"])(GW:aL P w K mg base (bc P w) 1 fW dW ["node","number"] (HW C)):aL P w K mg base (bc P w) 2 f fd ["node"] (Fe C):=by
 have N:=X.N
 refine dz F.F Fp (fun vs H Q E h=>?_) (fun cdv A outer s H vs Q E hr h=>?_)
 ·obtain⟨_,_,_,rfl,_⟩:=h
  rfl
 ·obtain⟨G,a,e,rfl,sG,hn,k⟩:=h
  obtain⟨dx,D,l,as,g1,gD,gl,gp⟩:=cH hn
  have h1:=sG _ _ g1
  have hl:=sG _ _ gl
  refine⟨_,aj (aR (aD kh (aJ (pv 0) rfl) (aW rfl X.TC.TWO) (aG _)) (ak (aB (pv 0))) aF)
   (aj (a_ (i:=1) Fp.nd rfl (Or.inl rfl) (aQ bA (aJ (pv 0) rfl) ao (fun _ _=>rfl)))
   (aj (a_ (i:=2) Fp.nd rfl (Or.inl rfl) (aQ bA (aJ (pv 0) rfl) ao (fun _ _=>rfl)))
   (aj (aR (PW.pt (gb (aD iu (aJ (pv 0) rfl) (bw (aa (aW rfl X.TA.PLU) (aa (aW rfl X.TA.MIN) aq))) rfl) (dX (fc (aK GW hr rfl FW.m FW.F.kp FW.b .nil passes (aa (pv 2) (aa ao aq))))))) (ak (aB (pv 1))) aF)
   (aj (aR (PW.pt (gb (aD aY (aJ (pv 0) rfl) (aW rfl X.TA.PLU) (aG _)) (dX (fc (aK GW hr rfl FW.m FW.F.kp FW.b .nil passes (aa (pv 1) (aa ao aq))))))) (ak (aB (pv 2))) aF)
   (aj (aR (PW.pt (gb (aD iu (aJ (pv 0) rfl) (bw (aa (aW rfl X.TA.TIM) (aa (aW rfl X.TA.DIV) (aa (aW rfl X.TA.POW) aq)))) rfl) (dX (fc (aK GW hr rfl FW.m FW.F.kp FW.b .nil passes (aa (pv 2) (aa ao aq))))))) (ak (aB (pv 1))) aF)
   (aj (aR (PW.pt (gb (aD aY (aJ (pv 0) rfl) (aW rfl X.TA.TIM) (aG _)) (dX (fc (aK GW hr rfl FW.m FW.F.kp FW.b .nil passes (aa (pv 1) (aa ao aq))))))) (ak (aB (pv 2))) aF)
   (ak (aB (pv 0))))))))),?_⟩
  refine⟨_,rfl,a,C,dx,_,_,rfl,h1,N.cl,N.nF,rfl,rfl,_,rfl,?_⟩
  cases e with
  | bin o x y =>
   obtain rfl:D=.int (eZ o):=gD
   obtain⟨p,p2,rfl,hx,hy⟩:∃p p2,as=[p,p2]∧aX C G x p∧aX C G y p2:=by
    cases gp with
    | cons u v=>cases v with
     | cons u2 v2=>cases v2;exact⟨_,_,rfl,u,u2⟩
   refine aN ⟨_,rfl,a,C,dx,_,_,rfl,h1,N.cl,N.nP,rfl,l,_,_,_,rfl,rfl,bF.of hl,at_of (j:=0) rfl rfl,?_⟩
   refine⟨_,rfl,a,C,dx,_,_,rfl,h1,N.cl,N.nP,rfl,l,_,_,_,rfl,rfl,bF.of hl,at_of (j:=1) rfl rfl,?_⟩
   have Y:∀J,az H J→¬((o=.add∨o=.sub)∧b7 0 y=true)→¬(o=.add∧b7 0 x=true)→¬((o=.mul∨(o=.div∨o=.pow))∧b7 1 y=true)→¬(o=.mul∧b7 1 x=true)→Q (.ref a) J:=fun J s4 O S Z n4=>by
    refine k a J s4 ?_
    rw[my,ml O,ml S,ml Z,ml n4]
    exact hn
   have ai:∀J,az H J→¬((o=.add∨o=.sub)∧b7 0 y=true)→¬(o=.add∧b7 0 x=true)→¬((o=.mul∨(o=.div∨o=.pow))∧b7 1 y=true)→(o=.mul∧b7 1 x=true)→Q (.ref p2) J:=fun J s4 O S Z n4=>by
    refine k p2 J s4 ?_
    rw[my,ml O,ml S,ml Z,mr n4]
    exact hy
   have af:∀J,az H J→¬((o=.add∨o=.sub)∧b7 0 y=true)→¬(o=.add∧b7 0 x=true)→((o=.mul∨(o=.div∨o=.pow))∧b7 1 y=true)→Q (.ref p) J:=fun J s4 O S Z=>by
    refine k p J s4 ?_
    rw[my,ml O,ml S,mr Z]
    exact hx
   have ag:∀J,az H J→¬((o=.add∨o=.sub)∧b7 0 y=true)→(o=.add∧b7 0 x=true)→Q (.ref p2) J:=fun J s4 O S=>by
    refine k p2 J s4 ?_
    rw[my,ml O,mr S]
    exact hy
   have ah:∀J,az H J→((o=.add∨o=.sub)∧b7 0 y=true)→Q (.ref p) J:=fun J s4 O=>by
    refine k p J s4 ?_
    rw[my,mr O]
    exact hx
   refine⟨_,rfl,a,C,dx,_,_,rfl,h1,N.cl,N.nD,rfl,(by show 2≤sizeLine;decide),fun T1 al=>⟨T1,_,rfl,.inr (bN.of au),rfl,rfl,_,rfl,?_⟩⟩
   have s1:az H (L2.upd H T1 (.tup [.int 0,.int 1])):=az.upd al
   generalize L2.upd H T1 (.tup [.int 0,.int 1])=H1 at *
   show if inV (.int (eZ o)) [.int 0,.int 1]=true then _ else _
   rw[YF]
   by_cases c1:o=.add∨o=.sub
   ·rw[mi c1]
    refine bj ⟨_,rfl,G,p2,y,0,rfl,sG.trans s1,hy,fun H2 s2=>⟨_,rfl,?_⟩⟩
    have ac:=s1.trans s2
    cases d1:b7 0 y with
    | true=>exact bj ⟨_,rfl,ah H2 ac ⟨c1,d1⟩⟩
    | false =>
     have O:¬((o=.add∨o=.sub)∧b7 0 y=true):=fun z=>by rw[d1]at z;cases z.2
     refine aN ⟨_,rfl,a,C,dx,_,_,rfl,ac _ _ h1,N.cl,N.nD,rfl,rfl,_,rfl,?_⟩
     rw[QQ]
     have Z:¬((o=.mul∨(o=.div∨o=.pow))∧b7 1 y=true):=fun z=>by rcases c1 with rfl | rfl<;>(rcases z.1 with h | h | h<;>cases h)
     have n4:¬(o=.mul∧b7 1 x=true):=fun z=>by rcases c1 with rfl | rfl<;>cases z.1
     have i3:inV (.int (eZ o)) [.int 2,.int 3,.int 6]=false:=by rcases c1 with rfl | rfl<;>rfl
     have i4:decide (V.int (eZ o:Nat)=V.int 2)=false:=by rcases c1 with rfl | rfl<;>rfl
     by_cases c2:o=.add
     ·rw[mi c2]
      refine bj ⟨_,rfl,G,p,x,0,rfl,sG.trans ac,hx,fun H3 s3=>⟨_,rfl,?_⟩⟩
      have L:=ac.trans s3
      cases d2:b7 0 x with
      | true=>exact bj ⟨_,rfl,ag H3 L O ⟨c2,d2⟩⟩
      | false =>
       have S:¬(o=.add∧b7 0 x=true):=fun z=>by rw[d2]at z;cases z.2
       refine aN ⟨_,rfl,a,C,dx,_,_,rfl,L _ _ h1,N.cl,N.nD,rfl,(by show 3≤sizeLine;decide),fun T3 ae=>⟨T3,_,rfl,.inr (bN.of au),rfl,rfl,_,rfl,?_⟩⟩
       have U:=L.trans (az.upd (o:=.tup [.int 2,.int 3,.int 6]) ae)
       show if inV (.int (eZ o)) [.int 2,.int 3,.int 6]=true then _ else _
       rw[i3]
       refine aN (aN ⟨_,rfl,a,C,dx,_,_,rfl,U _ _ h1,N.cl,N.nD,rfl,rfl,_,rfl,?_⟩)
       rw[i4]
       exact aN (aN ⟨_,rfl,Y _ U O S Z n4⟩)
     ·rw[mu c2]
      have S:¬(o=.add∧b7 0 x=true):=fun z=>c2 z.1
      refine aN (aN ⟨_,rfl,a,C,dx,_,_,rfl,ac _ _ h1,N.cl,N.nD,rfl,(by show 3≤sizeLine;decide),fun T3 ae=>⟨T3,_,rfl,.inr (bN.of au),rfl,rfl,_,rfl,?_⟩⟩)
      have U:=ac.trans (az.upd (o:=.tup [.int 2,.int 3,.int 6]) ae)
      show if inV (.int (eZ o)) [.int 2,.int 3,.int 6]=true then _ else _
      rw[i3]
      refine aN (aN ⟨_,rfl,a,C,dx,_,_,rfl,U _ _ h1,N.cl,N.nD,rfl,rfl,_,rfl,?_⟩)
      rw[i4]
      exact aN (aN ⟨_,rfl,Y _ U O S Z n4⟩)
   ·rw[mu c1]
    have O:¬((o=.add∨o=.sub)∧b7 0 y=true):=fun z=>c1 z.1
    have c2:¬o=.add:=fun z=>c1 (.inl z)
    have S:¬(o=.add∧b7 0 x=true):=fun z=>c2 z.1
    refine aN (aN ⟨_,rfl,a,C,dx,_,_,rfl,s1 _ _ h1,N.cl,N.nD,rfl,rfl,_,rfl,?_⟩)
    rw[QQ,mu c2]
    refine aN (aN ⟨_,rfl,a,C,dx,_,_,rfl,s1 _ _ h1,N.cl,N.nD,rfl,(by show 3≤sizeLine;decide),fun T3 ae=>⟨T3,_,rfl,.inr (bN.of au),rfl,rfl,_,rfl,?_⟩⟩)
    have s2:=s1.trans (az.upd (o:=.tup [.int 2,.int 3,.int 6]) ae)
    generalize L2.upd H1 T3 (.tup [.int 2,.int 3,.int 6])=H2 at *
    show if inV (.int (eZ o)) [.int 2,.int 3,.int 6]=true then _ else _
    rw[Uj]
    by_cases c3:o=.mul∨(o=.div∨o=.pow)
    ·rw[mi c3]
     refine bj ⟨_,rfl,G,p2,y,1,rfl,sG.trans s2,hy,fun H3 s3=>⟨_,rfl,?_⟩⟩
     have L:=s2.trans s3
     cases d3:b7 1 y with
     | true=>exact bj ⟨_,rfl,af H3 L O S ⟨c3,d3⟩⟩
     | false =>
      have Z:¬((o=.mul∨(o=.div∨o=.pow))∧b7 1 y=true):=fun z=>by rw[d3]at z;cases z.2
      refine aN ⟨_,rfl,a,C,dx,_,_,rfl,L _ _ h1,N.cl,N.nD,rfl,rfl,_,rfl,?_⟩
      rw[Jk]
      by_cases c4:o=.mul
      ·rw[mi c4]
       refine bj ⟨_,rfl,G,p,x,1,rfl,sG.trans L,hx,fun J s4=>⟨_,rfl,?_⟩⟩
       have U:=L.trans s4
       cases d4:b7 1 x with
       | true=>exact bj ⟨_,rfl,ai J U O S Z ⟨c4,d4⟩⟩
       | false=>exact aN ⟨_,rfl,Y J U O S Z fun z=>by rw[d4]at z;cases z.2⟩
      ·rw[mu c4]
       exact aN (aN ⟨_,rfl,Y H3 L O S Z fun z=>c4 z.1⟩)
    ·rw[mu c3]
     have Z:¬((o=.mul∨(o=.div∨o=.pow))∧b7 1 y=true):=fun z=>c3 z.1
     have c4:¬o=.mul:=fun z=>c3 (.inl z)
     refine aN (aN ⟨_,rfl,a,C,dx,_,_,rfl,s2 _ _ h1,N.cl,N.nD,rfl,rfl,_,rfl,?_⟩)
     rw[Jk,mu c4]
     exact aN (aN ⟨_,rfl,Y H2 s2 O S Z fun z=>c4 z.1⟩)
  | _=>exact bj ⟨_,rfl,k a H (az.refl H) hn⟩
theorem Vk:aO ["node","value"] ["node"] (aH O6):=⟨rfl,rfl,rfl,by decide +kernel,rfl,by decide +kernel,by decide +kernel⟩
theorem WT{f fS:Addr}{fd dS:FuncData}(F:Fn K mg "folded_if" O6 f fd ["node"])(X:FX P w K mg base C fN dN)(U:Fn K mg "standing_value" lF fS dS ["node"])(GS:aL P w K mg base (bc P w) 1 fS dS ["node"] (jE C)):aL P w K mg base (bc P w) 2 f fd ["node"] (Ob C):=by
 have N:=X.N
 refine dz F.F Vk (fun vs H Q E h=>?_) (fun cdv A outer s H vs Q E hr h=>?_)
 ·obtain⟨_,_,_,_,_,rfl,_⟩:=h
  rfl
 ·obtain⟨G,a,c,x,y,rfl,S,Z,k⟩:=h
  obtain⟨dx,D,l,as,g1,gD,gl,gp⟩:=cH Z
  obtain⟨p,p1,p2,rfl,hc,hx,hy⟩:∃p p1 p2,as=[p,p1,p2]∧aX C G c p∧aX C G x p1∧aX C G y p2:=by
   cases gp with
   | cons u v=>cases v with
    | cons u2 v2=>cases v2 with
     | cons u3 v3=>cases v3;exact⟨_,_,_,rfl,u,u2,u3⟩
  have h1:=S _ _ g1
  have hl:=S _ _ gl
  refine⟨_,aj (a_ (i:=1) Vk.nd rfl (Or.inl rfl) (aK GS hr rfl U.m U.F.kp U.b .nil passes (aa (aQ bA (aJ (pv 0) rfl) ao (fun _ _=>rfl)) aq)))
   (aj (aR (jM (lU (pv 1))) (ak (aB (pv 0))) aF)
   (ak (aB (eF (aD kh (aQ aU (pv 1) ao (fun _ _=>rfl)) ao (aG _)) (aQ bA (aJ (pv 0) rfl) ao (fun _ _=>rfl)) (aQ bA (aJ (pv 0) rfl) ao (fun _ _=>rfl)))))),?_⟩
  refine⟨_,rfl,a,C,dx,_,_,rfl,h1,N.cl,N.nP,rfl,l,_,_,_,rfl,rfl,bF.of hl,at_of (j:=0) rfl rfl,G,p,c,rfl,S,hc,?_⟩
  have J:oN (.cond c x y)=match Vbdeaa.litOf c with | some v=>if Vbdeaa.isZero v=true then y else x | none=>.cond c x y:=rfl
  cases hv:Vbdeaa.litOf c with
  | none =>
   rw[hv]at J
   rw[J]at k
   exact fun H1 s1=>⟨_,rfl,_,rfl,bj ⟨_,rfl,k a H1 s1 Z⟩⟩
  | some v =>
   rw[hv]at J
   refine fun t H1 s1 ht=>⟨_,rfl,_,rfl,aN ⟨_,rfl,t,_,_,_,rfl,rfl,bN.of ht,at0 _ _,rfl,_,rfl,?_⟩⟩
   have O:=s1 _ _ h1
   have L:=s1 _ _ hl
   by_cases hz:v.1=0
   ·have Y:oN (.cond c x y)=y:=by rw[J];show(if Vbdeaa.isZero v=true then y else x)=y;rw[mr (show Vbdeaa.isZero v=true from mi hz)]
    rw[Y]at k
    rw[show(!decide (V.int v.1=V.int 0))=false by rw[hz];rfl]
    exact aN ⟨_,rfl,a,C,dx,_,_,rfl,O,N.cl,N.nP,rfl,l,_,_,_,rfl,rfl,bF.of L,at_of (j:=2) rfl rfl,k p2 H1 s1 hy⟩
   ·have Y:oN (.cond c x y)=x:=by rw[J];show(if Vbdeaa.isZero v=true then y else x)=x;rw[ml (show ¬Vbdeaa.isZero v=true from fun z=>hz (mn z))]
    rw[Y]at k
    rw[show(!decide (V.int v.1=V.int 0))=true by rw[jt,mu hz];rfl]
    exact bj ⟨_,rfl,a,C,dx,_,_,rfl,O,N.cl,N.nP,rfl,l,_,_,_,rfl,rfl,bF.of L,at_of (j:=1) rfl rfl,k p1 H1 s1 hx⟩
theorem Sd:aO ["node"] ["node"] (aH vM):=⟨rfl,rfl,rfl,by decide +kernel,rfl,by decide +kernel,by decide +kernel⟩
theorem Qp{f:Addr}{fd:FuncData}(F:Fn K mg "gives_truth" vM f fd ["node"])(X:FX P w K mg base C fN dN):aL P w K mg base (bc P w) 1 f fd ["node"] (Ib C):=by
 have N:=X.N
 refine dz F.F Sd (fun vs H Q E h=>?_) (fun cdv A outer s H vs Q E Y h=>?_)
 ·obtain⟨_,_,_,rfl,_⟩:=h
  rfl
 ·obtain⟨G,a,e,rfl,L,J,k⟩:=h
  obtain⟨dx,D,l,as,h1,z,S,U⟩:=cH (J.same L)
  refine⟨_,aj (aR (aD aY (aJ (pv 0) rfl) (aW rfl X.TC.ONE) (aG _)) (ak (aB (bW aY (aJ (pv 0) rfl) (aW rfl X.TA.NOT) (aG _)))) aF)
   (aj (aR (aD aY (aJ (pv 0) rfl) (aW rfl X.TC.TWO) (aG _)) (ak (aB (bW lV (aJ (pv 0) rfl) (aW rfl X.TA.EQU) (aG _)))) aF)
   (ak (aB (bW iu (aJ (pv 0) rfl) (bw (aa (aW rfl X.TC.AND) (aa (aW rfl X.TC.OR) aq))) rfl)))),?_⟩
  refine⟨_,rfl,a,C,dx,_,_,rfl,h1,N.cl,N.nF,rfl,rfl,_,rfl,?_⟩
  have rest:∀b:Bool,e.isTruth=b→(∀T,H T=none→inV (.int (dZ e)) [.int 4,.int 5]=b)→∀T,H T=none→Q (.bl (inV (.int (dZ e)) [.int 4,.int 5])) (L2.upd H T (.tup [.int 4,.int 5])):=fun b O hi T j=>by
   rw[hi T j,←O]
   exact k _ (az.upd j)
  cases e with
  | un o x =>
   obtain rfl:D=.int (yS o):=z
   refine bj ⟨_,rfl,a,C,dx,_,_,rfl,h1,N.cl,N.nD,rfl,rfl,?_⟩
   have:=k H (az.refl H)
   cases o<;>exact this
  | bin o x y =>
   obtain rfl:D=.int (eZ o):=z
   refine aN ⟨_,rfl,a,C,dx,_,_,rfl,h1,N.cl,N.nF,rfl,rfl,_,rfl,bj ⟨_,rfl,a,C,dx,_,_,rfl,h1,N.cl,N.nD,rfl,_,_,rfl,rfl,?_⟩⟩
   have:=k H (az.refl H)
   cases o<;>exact this
  | _=>exact aN ⟨_,rfl,a,C,dx,_,_,rfl,h1,N.cl,N.nF,rfl,rfl,_,rfl,aN ⟨_,rfl,a,C,dx,_,_,rfl,h1,N.cl,N.nF,rfl,(by show 2≤sizeLine;decide),fun T j=>⟨T,_,rfl,.inr (bN.of au),rfl,rfl,rest _ rfl (fun _ _=>rfl) T j⟩⟩⟩
end
noncomputable def Vf(e y:Exp):Exp:=match Vbdeaa.litOf y with
 | some w=>.num (Vbdeaa.truth (!Vbdeaa.isZero w))
 | none=>if y.isTruth=true then y else e
theorem yF(b:Bool):Vbdeaa.lit (Vbdeaa.truth b)=.num (Vbdeaa.truth b):=by cases b<;>rfl
noncomputable def HY(C:Addr):Sp:=fun vs H Q _=>∃(M:List Addr)(a:Addr)(e x y:Exp),vs=[.ref a]∧Hx M H∧aX C (off M H) e a∧kids e=[x,y]∧D_ C M H Q (Vf e y)
noncomputable def V5(C:Addr):Sp:=fun vs H Q _=>∃(M:List Addr)(a:Addr)(e x y:Exp),vs=[.ref a]∧Hx M H∧aX C (off M H) e a∧(e=.and x y∨e=.or x y)∧D_ C M H Q (oN e)
noncomputable def Nz(C:Addr):Sp:=fun vs H Q _=>∃(G:Hp)(a l:Addr)(e:Exp)(j:List Vbdeaa.Q)(ts:List Addr),vs=[.ref a,.ref l]∧az G H∧aX C G e a∧Gg e∧H l=some (.lst (ts.map V.ref))∧Paired (VA H) j ts∧(∀q∈j,xq q)∧j.length=(kids e).length∧oh H Q (Fx e j)
noncomputable abbrev Oz:Stmt:=top 102
noncomputable abbrev Ym:Stmt:=top 101
noncomputable abbrev OD:Stmt:=top 97
theorem JP{x y:Exp}:oN (.and x y)=match Vbdeaa.litOf x with | some v=>if v.1=0 then .num (Vbdeaa.truth false)else Vf (.and x y) y | none=>.and x y:=by
 show Vbdeaa.foldAnd x y=_
 unfold Vbdeaa.foldAnd
 cases Vbdeaa.litOf x with
 | none=>rfl
 | some v =>
  show(if Vbdeaa.isZero v=true then _ else _)=if v.1=0 then _ else _
  by_cases h:v.1=0
  ·rw[mr h,mr (show Vbdeaa.isZero v=true from mi h)];rfl
  ·rw[ml h,ml (show ¬Vbdeaa.isZero v=true from fun z=>h (mn z))];rfl
theorem PX{x y:Exp}:oN (.or x y)=match Vbdeaa.litOf x with | some v=>if v.1=0 then Vf (.or x y) y else .num (Vbdeaa.truth true) | none=>.or x y:=by
 show Vbdeaa.foldOr x y=_
 unfold Vbdeaa.foldOr
 cases Vbdeaa.litOf x with
 | none=>rfl
 | some v =>
  show(if Vbdeaa.isZero v=false then _ else _)=if v.1=0 then _ else _
  by_cases h:v.1=0
  ·rw[mr h,ml (by rw[show Vbdeaa.isZero v=true from mi h];simp)];rfl
  ·rw[ml h,mr (show Vbdeaa.isZero v=false from mu h)];rfl
section
variable {P:Program} {w:World} {K:PySem.W.Frag} {mg:Str→Option Value} {base:Heap} {C fN:Addr} {dN:FuncData}
theorem Ol:aO ["node","right","value"] ["node"] (aH Oz):=⟨rfl,rfl,rfl,by decide +kernel,rfl,by decide +kernel,by decide +kernel⟩
theorem WK{f fS fU fG:Addr}{fd dS dU dG:FuncData}(F:Fn K mg "folded_to_right" Oz f fd ["node"])(X:FX P w K mg base C fN dN)(S:Fn K mg "standing_value" lF fS dS ["node"])(GS:aL P w K mg base (bc P w) 1 fS dS ["node"] (jE C))(FU:Fn K mg "standing_number" vD fU dU ["value"])(GU:aL P w K mg base (bc P w) 3 fU dU ["value"] (qY C))(FG:Fn K mg "gives_truth" vM fG dG ["node"])(GG:aL P w K mg base (bc P w) 1 fG dG ["node"] (Ib C)):aL P w K mg base (bc P w) 4 f fd ["node"] (HY C):=by
 have N:=X.N
 refine dz F.F Ol (fun vs H Q E h=>?_) (fun cdv A outer s H vs Q E hr h=>?_)
 ·obtain⟨_,_,_,_,_,rfl,_⟩:=h
  rfl
 ·obtain⟨M,a,e,x,y,rfl,G,hn,hk,k⟩:=h
  obtain⟨dx,D,l,as,g1,gD,gl,gp⟩:=cH hn
  rw[hk]at gp
  obtain⟨p,p2,rfl,hx,Y⟩:∃p p2,as=[p,p2]∧aX C (off M H) x p∧aX C (off M H) y p2:=by
   cases gp with
   | cons u v=>cases v with
    | cons u2 v2=>cases v2;exact⟨_,_,rfl,u,u2⟩
  have L:=aZ M H
  have h1:=L _ _ g1
  have hl:=L _ _ gl
  have z:bB 1 _:=hr.mono (by decide)
  refine⟨_,aj (a_ (i:=1) Ol.nd rfl (Or.inl rfl) (aQ bA (aJ (pv 0) rfl) ao (fun _ _=>rfl)))
   (aj (a_ (i:=2) Ol.nd rfl (Or.inl rfl) (aK GS z rfl S.m S.F.kp S.b .nil passes (aa (pv 1) aq)))
   (aj (aR (jM (SQ (pv 2))) (ak (aB (aK GU hr rfl FU.m FU.F.kp FU.b .nil passes (aa (eF (aD aY (aQ aU (pv 2) ao (fun _ _=>rfl)) ao (aG _)) (bw (aa ao (aa ao aq))) (bw (aa ao (aa ao aq)))) aq)))) aF)
   (ak (aB (eF (fc (aK GG z rfl FG.m FG.F.kp FG.b .nil passes (aa (pv 1) aq))) (pv 1) (pv 0)))))),?_⟩
  refine⟨_,rfl,a,C,dx,_,_,rfl,h1,N.cl,N.nP,rfl,l,_,_,_,rfl,rfl,bF.of hl,at_of (j:=1) rfl rfl,?_⟩
  refine⟨_,rfl,off M H,p2,y,rfl,L,Y,?_⟩
  cases hv:Vbdeaa.litOf y with
  | none =>
   have O:Vf e y=if y.isTruth=true then y else e:=by unfold Vf;rw[hv]
   rw[O]at k
   refine fun H1 s1=>⟨_,rfl,_,rfl,aN ⟨_,rfl,off M H,p2,y,rfl,L.trans s1,Y,fun H2 s2=>⟨_,rfl,?_⟩⟩⟩
   have kp:=cY.of_same G.there (s1.trans s2)
   cases J:y.isTruth with
   | true =>
    rw[J,mr rfl]at k
    exact bj ⟨_,rfl,k p2 H2 kp (Y.same kp.out)⟩
   | false =>
    rw[J,ml (by simp)]at k
    exact aN ⟨_,rfl,k a H2 kp (hn.same kp.out)⟩
  | some v =>
   have O:Vf e y=.num (Vbdeaa.truth (!Vbdeaa.isZero v)):=by unfold Vf;rw[hv]
   rw[O,←yF]at k
   refine fun t H1 s1 J=>⟨_,rfl,_,rfl,bj ⟨_,rfl,t,_,_,_,rfl,rfl,bN.of J,at0 _ _,rfl,_,rfl,?_⟩⟩
   by_cases hz:v.1=0
   ·rw[show decide (V.int v.1=V.int 0)=true from mi (by rw[hz])]
    have Z:Vbdeaa.truth (!Vbdeaa.isZero v)=(0,1):=by rw[show Vbdeaa.isZero v=true from mi hz];rfl
    rw[Z]at k
    refine bj ⟨(by show 2≤sizeLine;decide),fun T U=>?_⟩
    have s2:=s1.trans (az.upd (o:=.tup [.int 0,.int 1]) U)
    exact⟨M,T,(0,1),rfl,G.same s2,au,k.mono (cY.of_same G.there s2)⟩
   ·rw[show decide (V.int v.1=V.int 0)=false by rw[jt];exact mu hz]
    have Z:Vbdeaa.truth (!Vbdeaa.isZero v)=(1,1):=by rw[show Vbdeaa.isZero v=false from mu hz];rfl
    rw[Z]at k
    refine aN ⟨(by show 2≤sizeLine;decide),fun T U=>?_⟩
    have s2:=s1.trans (az.upd (o:=.tup [.int 1,.int 1]) U)
    exact⟨M,T,(1,1),rfl,G.same s2,au,k.mono (cY.of_same G.there s2)⟩
theorem Yj:aO ["node","value"] ["node"] (aH Ym):=⟨rfl,rfl,rfl,by decide +kernel,rfl,by decide +kernel,by decide +kernel⟩
theorem Yv{f fS fU fR:Addr}{fd dS dU dR:FuncData}(F:Fn K mg "folded_joining" Ym f fd ["node"])(X:FX P w K mg base C fN dN)(Z:Fn K mg "standing_value" lF fS dS ["node"])(GS:aL P w K mg base (bc P w) 1 fS dS ["node"] (jE C))(G:Fn K mg "standing_number" vD fU dU ["value"])(GU:aL P w K mg base (bc P w) 3 fU dU ["value"] (qY C))(FR:Fn K mg "folded_to_right" Oz fR dR ["node"])(GR:aL P w K mg base (bc P w) 4 fR dR ["node"] (HY C)):aL P w K mg base (bc P w) 5 f fd ["node"] (V5 C):=by
 have N:=X.N
 refine dz F.F Yj (fun vs H Q E h=>?_) (fun cdv A outer s H vs Q E hr h=>?_)
 ·obtain⟨_,_,_,_,_,rfl,_⟩:=h
  rfl
 ·obtain⟨M,a,e,x,y,rfl,J,hn,he,k⟩:=h
  obtain⟨dx,D,l,as,g1,gD,gl,gp⟩:=cH hn
  have hk:kids e=[x,y]:=by rcases he with rfl | rfl<;>rfl
  rw[hk]at gp
  obtain⟨p,p2,rfl,hx,hy⟩:∃p p2,as=[p,p2]∧aX C (off M H) x p∧aX C (off M H) y p2:=by
   cases gp with
   | cons u v=>cases v with
    | cons u2 v2=>cases v2;exact⟨_,_,rfl,u,u2⟩
  have sG:=aZ M H
  have h1:=sG _ _ g1
  have hl:=sG _ _ gl
  have Y:bB 1 _:=hr.mono (by decide)
  have S:bB 3 _:=hr.mono (by decide)
  refine⟨_,aj (a_ (i:=1) Yj.nd rfl (Or.inl rfl) (aK GS Y rfl Z.m Z.F.kp Z.b .nil passes (aa (aQ bA (aJ (pv 0) rfl) ao (fun _ _=>rfl)) aq)))
   (aj (aR (jM (lU (pv 1))) (ak (aB (pv 0))) aF)
   (aj (aR (PW.pt (gb (aD aY (aJ (pv 0) rfl) (aW rfl X.TC.AND) (aG _)) (dX (aD aY (aQ aU (pv 1) ao (fun _ _=>rfl)) ao (aG _))))) (ak (aB (aK GU S rfl G.m G.F.kp G.b .nil passes (aa (bw (aa ao (aa ao aq))) aq)))) aF)
   (aj (aR (PW.pt (gb (aD aY (aJ (pv 0) rfl) (aW rfl X.TC.OR) (aG _)) (dX (aD kh (aQ aU (pv 1) ao (fun _ _=>rfl)) ao (aG _))))) (ak (aB (aK GU S rfl G.m G.F.kp G.b .nil passes (aa (bw (aa ao (aa ao aq))) aq)))) aF)
   (ak (aB (aK GR hr rfl FR.m FR.F.kp FR.b .nil passes (aa (pv 0) aq))))))),?_⟩
  refine⟨_,rfl,a,C,dx,_,_,rfl,h1,N.cl,N.nP,rfl,l,_,_,_,rfl,rfl,bF.of hl,at_of (j:=0) rfl rfl,off M H,p,x,rfl,sG,hx,?_⟩
  cases U:Vbdeaa.litOf x with
  | none =>
   have L:oN e=e:=by
    rcases he with rfl | rfl
    ·rw[JP,U]
    ·rw[PX,U]
   rw[L]at k
   exact fun H1 s1=>⟨_,rfl,_,rfl,bj ⟨_,rfl,k a H1 (cY.of_same J.there s1) (hn.same (cY.of_same J.there s1).out)⟩⟩
  | some v =>
   refine fun t H1 s1 ht=>⟨_,rfl,_,rfl,aN ⟨_,rfl,a,C,dx,_,_,rfl,s1 _ _ h1,N.cl,N.nF,rfl,rfl,_,rfl,?_⟩⟩
   have O:=s1 _ _ h1
   have kp:=cY.of_same J.there s1
   have num:∀(b:Bool)(n:Int),Vbdeaa.truth b=(n,1)→oN e=.num (Vbdeaa.truth b)→∀T,H1 T=none→qY C [.ref T] (L2.upd H1 T (.tup [.int n,.int 1])) Q E:=fun b n hb L T hT=>by
    have s2:=s1.trans (az.upd (o:=.tup [.int n,.int 1]) hT)
    rw[L,←yF,hb]at k
    exact⟨M,T,(n,1),rfl,J.same s2,au,k.mono (cY.of_same J.there s2)⟩
   have z:oN e=Vf e y→HY C [.ref a] H1 Q E:=fun L=>by
    rw[L]at k
    exact⟨M,a,e,x,y,rfl,J.same s1,hn.same kp.out,hk,k.mono kp⟩
   rcases he with rfl | rfl
   ·rw[JP,U]at num z
    refine bj ⟨_,rfl,t,_,_,_,rfl,rfl,bN.of ht,at0 _ _,rfl,_,rfl,?_⟩
    by_cases hz:v.1=0
    ·rw[show decide (V.int v.1=V.int 0)=true from mi (by rw[hz])]
     exact bj ⟨(by show 2≤sizeLine;decide),num false 0 rfl (mr hz)⟩
    ·rw[show decide (V.int v.1=V.int 0)=false by rw[jt];exact mu hz]
     exact aN ⟨_,rfl,a,C,dx,_,_,rfl,O,N.cl,N.nF,rfl,rfl,_,rfl,aN (aN ⟨_,rfl,z (ml hz)⟩)⟩
   ·rw[PX,U]at num z
    refine aN (aN ⟨_,rfl,a,C,dx,_,_,rfl,O,N.cl,N.nF,rfl,rfl,_,rfl,bj ⟨_,rfl,t,_,_,_,rfl,rfl,bN.of ht,at0 _ _,rfl,_,rfl,?_⟩⟩)
    by_cases hz:v.1=0
    ·rw[show(!decide (V.int v.1=V.int 0))=false by rw[hz];rfl]
     exact aN ⟨_,rfl,z (mr hz)⟩
    ·rw[show(!decide (V.int v.1=V.int 0))=true by rw[jt,mu hz];rfl]
     exact bj ⟨(by show 2≤sizeLine;decide),num true 1 rfl (ml hz)⟩
theorem X_:aO ["node","values"] ["node","values"] (aH OD):=⟨rfl,rfl,rfl,by decide +kernel,rfl,by decide +kernel,by decide +kernel⟩
theorem WL{f f1 f2 f3:Addr}{fd d1 d2 d3:FuncData}(F:Fn K mg "result_of" OD f fd ["node","values"])(X:FX P w K mg base C fN dN)(F1:Fn K mg "result_of_one" Bw f1 d1 ["operation","value"])(G1:aL P w K mg base (bc P w) 2 f1 d1 ["operation","value"] EY)(F2:Fn K mg "result_of_two" Bs f2 d2 ["operation","left","right"])(G2:aL P w K mg base (bc P w) 7 f2 d2 ["operation","left","right"] Ny)
  (F3:Fn K mg "result_of_pick" vH f3 d3 ["operation","values"]) (G3:aL P w K mg base (bc P w) 2 f3 d3 ["operation","values"] yZ):aL P w K mg base (bc P w) 8 f fd ["node","values"] (Nz C):=by
 have N:=X.N
 refine dz F.F X_ (fun vs H Q E h=>?_) (fun cdv A outer s H vs Q E hr h=>?_)
 ·obtain⟨_,_,_,_,_,_,rfl,_⟩:=h
  rfl
 ·obtain⟨G,a,l,e,qs,ts,rfl,sG,hn,J,hl,O,L,z,k⟩:=h
  obtain⟨dx,D,pl,as,h1,hD,_,_⟩:=cH (hn.same sG)
  have Y:bB 2 _:=hr.mono (by decide)
  refine⟨_,aj (aR (aD aY (aJ (pv 0) rfl) (aW rfl X.TC.ONE) (aG _)) (ak (aB (aK G1 Y rfl F1.m F1.F.kp F1.b .nil passes (aa (aJ (pv 0) rfl) (aa (aQ bA (pv 1) ao (fun _ _=>rfl)) aq))))) aF)
   (aj (aR (aD aY (aJ (pv 0) rfl) (aW rfl X.TC.TWO) (aG _)) (ak (aB (aK G2 hr rfl F2.m F2.F.kp F2.b .nil passes (aa (aJ (pv 0) rfl) (aa (aQ bA (pv 1) ao (fun _ _=>rfl)) (aa (aQ bA (pv 1) ao (fun _ _=>rfl)) aq)))))) aF)
   (ak (aB (aK G3 Y rfl F3.m F3.F.kp F3.b .nil passes (aa (aJ (pv 0) rfl) (aa (pv 1) aq)))))),?_⟩
  refine⟨_,rfl,a,C,dx,_,_,rfl,h1,N.cl,N.nF,rfl,rfl,_,rfl,?_⟩
  cases e with
  | un o b =>
   obtain rfl:D=.int (yS o):=hD
   obtain⟨v,t,rfl,rfl,U⟩:∃v t,qs=[v]∧ts=[t]∧VA H v t:=by
    cases O with
    | nil=>cases z
    | cons u r=>cases r with
     | nil=>exact⟨_,_,rfl,rfl,u⟩
     | cons u2 r2=>simp[kids]at z
   have pv:=L v ci
   exact bj ⟨_,rfl,a,C,dx,_,_,rfl,h1,N.cl,N.nD,rfl,_,rfl,l,_,_,_,rfl,rfl,bF.of hl,at_of (j:=0) rfl rfl,t,v,o,rfl,U,pv.2.1,iM pv.1,k⟩
  | bin o b c =>
   obtain rfl:D=.int (eZ o):=hD
   obtain⟨v,Z,t,t2,rfl,rfl,U,ae⟩:∃v Z t t2,qs=[v,Z]∧ts=[t,t2]∧VA H v t∧VA H Z t2:=by
    cases O with
    | nil=>cases z
    | cons u r=>cases r with
     | nil=>simp[kids]at z
     | cons u2 r2=>cases r2 with
      | nil=>exact⟨_,_,_,_,rfl,rfl,u,u2⟩
      | cons u3 r3=>simp[kids]at z
   have pv:=L v ci
   have S:=L Z (am _ ci)
   exact aN ⟨_,rfl,a,C,dx,_,_,rfl,h1,N.cl,N.nF,rfl,rfl,_,rfl,bj ⟨_,rfl,a,C,dx,_,_,rfl,h1,N.cl,N.nD,rfl,_,rfl,l,_,_,_,rfl,rfl,bF.of hl,at_of (j:=0) rfl rfl,_,rfl,l,_,_,_,rfl,rfl,bF.of hl,at_of (j:=1) rfl rfl,t,t2,v,Z,o,rfl,U,ae,pv.1,S.1,pv.2,S.2,k⟩⟩
  | best g es =>
   obtain rfl:D=.int (if g=true then 1 else 0):=hD
   obtain⟨v,r,t,tr,rfl,rfl,U,ac⟩:∃v r t tr,qs=v::r∧ts=t::tr∧VA H v t∧Paired (VA H) r tr:=by
    cases O with
    | nil=>exact absurd (List.length_eq_zero_iff.mp z.symm) J
    | cons u r=>exact⟨_,_,_,_,rfl,rfl,u,r⟩
   exact aN ⟨_,rfl,a,C,dx,_,_,rfl,h1,N.cl,N.nF,rfl,rfl,_,rfl,aN ⟨_,rfl,a,C,dx,_,_,rfl,h1,N.cl,N.nD,rfl,_,rfl,l,t,tr,v,r,g,rfl,hl,U,ac,iM (L v ci).1,fun q hq=>iM (L q (am _ hq)).1,k⟩⟩
  | num q=>exact J.elim
  | name q=>exact J.elim
  | and b c=>exact J.elim
  | or b c=>exact J.elim
  | cond b c d=>exact J.elim
  | use t es=>exact J.elim
end
theorem zY:∀{l:Exps},MX.xj l→∀k∈jV l,MX.iy k
 | .nil,_,k,j=>by cases j
 | .cons e l,h,k,j=>by
  rcases j'.mp j with rfl | j
  ·exact h.1
  ·exact zY h.2 k j
theorem CZ{e k:Exp}(h:MX.iy e)(j:k∈kids e):MX.iy k:=by
 cases e with
 | num q=>cases j
 | name t=>cases j
 | un o a=>simp only[kids,j',l5,or_false]at j;subst j;exact h
 | bin o a b=>simp only[kids,j',l5,or_false]at j;rcases j with j | j<;>subst j<;>first | exact h.1 | exact h.2
 | and a b=>simp only[kids,j',l5,or_false]at j;rcases j with j | j<;>subst j<;>first | exact h.1 | exact h.2
 | or a b=>simp only[kids,j',l5,or_false]at j;rcases j with j | j<;>subst j<;>first | exact h.1 | exact h.2
 | cond c a b=>simp only[kids,j',l5,or_false]at j;rcases j with j | j | j<;>subst j<;>first | exact h.1 | exact h.2.1 | exact h.2.2
 | best g l=>exact zY h.1 k j
 | use t l=>exact zY h.2.1 k j
noncomputable def Aq(H:Hp):Option Vbdeaa.Q→V→Prop
 | some q,v=>∃t,v=.ref t∧VA H q t
 | none,v=>v=.non
theorem Aq.same{H H':Hp}(s:az H H'){o:Option Vbdeaa.Q}{v:V}(h:Aq H o v):Aq H' o v:=by
 cases o with
 | none=>exact h
 | some q=>obtain⟨t,e,j⟩:=h;exact⟨t,e,j.same s⟩
theorem HB:∀{l:List Exp},((l.map Vbdeaa.litOf).map Option.isNone).any id=true→oA l=none
 | [],h=>by cases h
 | e::l,h=>by
  show(match Vbdeaa.litOf e,oA l with | some q,some r=>some (q::r) | _,_=>none)=none
  cases h1:Vbdeaa.litOf e with
  | none=>rfl
  | some q =>
   simp only[mf,List.any_cons,h1,Option.isNone_some,id,Bool.false_or]at h
   rw[HB (l:=l) (by simpa using h)]
theorem Av:∀{l:List Exp},((l.map Vbdeaa.litOf).map Option.isNone).any id=false→∃j,oA l=some j∧l.map Vbdeaa.litOf=j.map some
 | [],_=>⟨[],rfl,rfl⟩
 | e::l,h=>by
  cases h1:Vbdeaa.litOf e with
  | none=>simp[h1]at h
  | some q =>
   simp only[mf,List.any_cons,h1,Option.isNone_some,id,Bool.false_or]at h
   obtain⟨j,D,z⟩:=Av (l:=l) (by simpa using h)
   refine⟨q::j,?_,by rw[mf,mf,h1,z]⟩
   show(match Vbdeaa.litOf e,oA l with | some q,some r=>some (q::r) | _,_=>none)=_
   rw[h1,D]
theorem yJ{H:Hp}{e:Exp}{D:V}(h:jz H e D):jz H (cV e) D:=by cases e<;>exact h
theorem Hh(e:Exp):dZ (cV e)=dZ e:=by cases e<;>rfl
theorem Nm{e:Exp}(h:kids e=[])(j:MX.iy e):e.fold=e:=by
 cases e with
 | num q=>rfl
 | name n=>rfl
 | best g l=>cases l with
  | nil=>exact absurd rfl j.2
  | cons a r=>cases h
 | use n l=>cases l with
  | nil=>exact absurd rfl j.2.2
  | cons a r=>cases h
 | _=>cases h
noncomputable def zg(C:Addr)(h:Nat):Sp:=fun vs H Q _=>∃(M:List Addr)(a:Addr)(e:Exp),vs=[.ref a]∧Hx M H∧aX C (off M H) e a∧MX.iy e∧e.height≤h∧Vbdeam.size e≤1900∧D_ C M H Q e.fold
noncomputable abbrev p_:Stmt:=top 94
structure FQ (P:Program) (w:World) (K:PySem.W.Frag) (mg:Str→Option Value) (base:Heap) (C fS fU fI fF fJ fR:Addr) (dS dU dI dF dJ dR:FuncData):Prop where
 S:Fn K mg "standing_value" lF fS dS ["node"]
 GS:aL P w K mg base (bc P w) 1 fS dS ["node"] (jE C)
 U:Fn K mg "standing_number" vD fU dU ["value"]
 GU:aL P w K mg base (bc P w) 3 fU dU ["value"] (qY C)
 I:Fn K mg "without_idle_number" BP fI dI ["node"]
 GI:aL P w K mg base (bc P w) 2 fI dI ["node"] (Fe C)
 F:Fn K mg "folded_if" O6 fF dF ["node"]
 GF:aL P w K mg base (bc P w) 2 fF dF ["node"] (Ob C)
 J:Fn K mg "folded_joining" Ym fJ dJ ["node"]
 GJ:aL P w K mg base (bc P w) 5 fJ dJ ["node"] (V5 C)
 R:Fn K mg "result_of" OD fR dR ["node","values"]
 GR:aL P w K mg base (bc P w) 8 fR dR ["node","values"] (Nz C)
 any:mg "any"=none
theorem Qw{M:List Addr}{p:Addr}{H:Hp}{o:HO}(h:H p=none):az (off M H) (off (p::M) (L2.upd H p o)):=fun b u e=>by
 have F:=jP e
 have D:=aZ _ _ _ _ e
 have j:b≠p:=aP D h
 refine bU (by rw[aA j];exact D) fun z=>?_
 rcases j'.mp z with z | z
 ·exact j z
 ·exact F z
theorem rN{M:List Addr}{p:Addr}{H:Hp}:az (off (p::M) H) (off M H):=fun b o e=>bU (aZ _ _ _ _ e) fun z=>jP e (am _ z)
section
variable {P:Program} {w:World} {K:PySem.W.Frag} {mg:Str→Option Value} {base:Heap} {C fN:Addr} {dN:FuncData}
theorem fH:aO ["node","whole","values","result","part","value"] ["node"] (aH p_):=⟨rfl,rfl,rfl,by decide +kernel,rfl,by decide +kernel,by decide +kernel⟩
theorem K8{f fS fU fI fF fJ fR:Addr}{fd dS dU dI dF dJ dR:FuncData}(F:Fn K mg "folded" p_ f fd ["node"])(X:FX P w K mg base C fN dN)(W:FQ P w K mg base C fS fU fI fF fJ fR dS dU dI dF dJ dR):∀h:Nat,aL P w K mg base (bc P w) (h+9) f fd ["node"] (zg C h):=by
 have N:=X.N
 have NN:=X.NN
 intro h
 induction h with
 | zero =>
  refine dz F.F fH (fun vs H Q E h=>?_) (fun cdv A outer s H vs Q E hr h=>?_)
  ·obtain⟨_,_,_,rfl,_⟩:=h
   rfl
  ·obtain⟨M,a,e,rfl,_,_,_,hh,_⟩:=h
   have:0<e.height:=by rw[gP];lia
   lia
 | succ h ih =>
  refine dz F.F fH (fun vs H Q E h=>?_) (fun cdv A outer s H vs Q E hr h=>?_)
  ·obtain⟨_,_,_,rfl,_⟩:=h
   rfl
  ·obtain⟨M,a,e,rfl,hM,hn,hf,hh,hsz,k⟩:=h
   obtain⟨dx,D,l,as,g1,gD,gl,gp⟩:=cH hn
   have sG:=aZ M H
   have h1:=sG _ _ g1
   have hl:=sG _ _ gl
   have cx:=C_ e
   have bS:bB 1 _:=hr.mono (by lia)
   have a2:bB 2 _:=hr.mono (by lia)
   have cq:bB 3 _:=hr.mono (by lia)
   have bP:bB 5 _:=hr.mono (by lia)
   have bX:bB 8 _:=hr.mono (by lia)
   refine⟨_,aj (aR (iC (iB (aJ (pv 0) rfl) (fun _=>rfl))) (ak (aB (pv 0))) aF)
    (aj (a_ (i:=1) fH.nd rfl (Or.inl rfl) (dh NN.mk_ NN.ok a2 rfl NN.m NN.b .nil passes (aa (aJ (pv 0) rfl) (aa (aJ (pv 0) rfl) (aa (yr (own:=[("part",4)]) (te:=lA (zg C h) [] E0 (bh (jB 4) dj)) rfl fH.nd (gU (aJ (pv 0) rfl)) (g_ (by kernel_rfl))
      (fun _ _ _ _ _=>by exact bT (i:=4) fH.nd rfl (Or.inl rfl)) (fun _ _ _ _ _=>by exact iW)
      (fun _ _ _ _ _=>by exact aK ih hr rfl F.m F.F.kp F.b .nil Gh (aa (pv 4) aq))) aq)))))
    (aj (aR (aD aY (aJ (pv 1) rfl) (aW rfl X.CALL) (aG _)) (ak (aB (pv 1))) aF)
    (aj (aR (aD aY (aJ (pv 1) rfl) (aW rfl X.TC.IF) (aG _)) (ak (aB (aK W.GF a2 rfl W.F.m W.F.F.kp W.F.b .nil passes (aa (pv 1) aq)))) aF)
    (aj (aR (aD iu (aJ (pv 1) rfl) (bw (aa (aW rfl X.TC.AND) (aa (aW rfl X.TC.OR) aq))) rfl) (ak (aB (aK W.GJ bP rfl W.J.m W.J.F.kp W.J.b .nil passes (aa (pv 1) aq)))) aF)
    (aj (BZ (i:=2) (own:=[("part",4)]) (te:=lA (jE C) [] E0 (bh (jB 4) dj)) rfl fH.nd rfl rfl (HH rfl rfl rfl rfl) (gU (aJ (pv 1) rfl)) (g_ (by kernel_rfl))
      (fun _ _ _ _ _=>by exact bT (i:=4) fH.nd rfl (Or.inl rfl)) (fun _ _ _ _ _=>by exact iW)
      (fun _ _ _ _ _=>by exact aK W.GS bS rfl W.S.m W.S.F.kp W.S.b .nil Gh (aa (pv 4) aq)))
    (aj (aR (fc (bH (r:=Yp K) (id:="any") (W_ rfl) (by rfl) W.any (by decide +kernel) (aa (yr (own:=[("value",5)]) (te:=Bc (jB 5)) rfl fH.nd (gU (pv 2)) (g_ (by kernel_rfl))
      (fun _ _ _ _ _=>by exact bT (i:=5) fH.nd rfl (Or.inl rfl)) (fun _ _ _ _ _=>by exact iW)
      (fun _ _ _ _ _=>by exact Ww (lU (pv 5)))) aq))) (ak (aB (aK W.GI a2 rfl W.I.m W.I.F.kp W.I.b .nil passes (aa (pv 1) aq)))) aF)
    (aj (a_ (i:=3) fH.nd rfl (Or.inl rfl) (aK W.GR bX rfl W.R.m W.R.F.kp W.R.b .nil passes (aa (pv 1) (aa (pv 2) aq))))
    (ak (aB (eF (jM (lU (pv 3))) (pv 1) (aK W.GU cq rfl W.U.m W.U.F.kp W.U.b .nil passes (aa (pv 3) aq)))))))))))),?_⟩
   refine⟨_,rfl,a,C,dx,_,_,rfl,h1,N.cl,N.nP,rfl,_,.inl ⟨_,bF.of hl,rfl⟩,?_⟩
   cases aM:kids e with
   | nil =>
    rw[aM]at gp
    have has:as=[]:=by cases gp;rfl
    subst has
    rw[Nm aM hf]at k
    exact bj ⟨_,rfl,k a H ⟨fun _ _=>rfl,az.refl _⟩ hn⟩
   | cons k0 kr =>
    obtain⟨a0,ar,rfl⟩:∃a0 ar,as=a0::ar:=by
     rw[aM]at gp
     cases gp with
     | cons u v=>exact⟨_,_,rfl⟩
    refine aN ⟨_,rfl,a,C,dx,_,_,rfl,h1,N.cl,N.nF,rfl,_,rfl,a,C,dx,_,_,rfl,h1,N.cl,N.nD,rfl,_,rfl,a,C,dx,_,_,rfl,h1,N.cl,N.nP,rfl,l,rfl,⟨_,bF.of hl⟩,fun L hL=>?_⟩
    have LM:L∉M:=hM.new hL
    generalize cA:a0::ar=as at *
    refine jb (K:=K) (a:=l) (xs:=as.map V.ref) (fun i H'=>az H H'∧az (off M H) (off (L::M) H')∧∃ps:List Addr,H' L=some (.lst (ps.map V.ref))∧Paired (aX C (off (L::M) H')) (((kids e).map Exp.fold).take i) ps) ⟨az.upd hL,Qw hL,[],au,.nil⟩ (fun i H' _ ⟨s1,_⟩=>bF.of (s1 _ _ hl)) ?_ ?_
    ·rintro i y H' hi ⟨s1,sg,ps,ay,ag⟩
     obtain⟨b,hb,rfl⟩:=jK hi
     obtain⟨kd,O,a7⟩:=ww gp hb
     have a4:=mw O
     have a3:i<(kids e).length:=(lf.mp O).1
     have bR:ps.length=i:=by
      rw[←Paired.length ag,lp,ap]
      lia
     have cm:Hx (L::M) H':=fun c hc=>by
      rcases j'.mp hc with z | z
      ·rw[z];exact⟨_,ay⟩
      ·exact(hM.same s1) c z
     refine⟨rfl,_,rfl,L::M,b,kd,rfl,cm,a7.same sg,CZ hf a4,by have:=gm a4;lia,by have:=Dc a4;lia,fun r H2 k2 bd=>?_⟩
     have cf:H2 L=some (.lst (ps.map V.ref)):=gO k2 _ _ ay
     have oe:off (L::M) (L2.upd H2 L (.lst (ps.map V.ref++[V.ref r])))=off (L::M) H2:=gw ci
     refine⟨_,cf,?_,?_,?_,ps++[r],?_,?_⟩
     ·rw[ap,bR]
      exact lm (by lia:i<1900) (by decide)
     ·intro c o q
      rw[aA (aP q hL)]
      exact gO k2 _ _ (s1 _ _ q)
     ·rw[oe]
      exact sg.trans k2.out
     ·rw[au,mB]
      rfl
     ·have e1:((kids e).map Exp.fold)[i]?=some kd.fold:=by rw[l0,O];rfl
      rw[oe,List.take_succ,e1]
      exact cO (bZ k2.out ag) bd
    rintro H2 ⟨s1,sg,ps,ay,ag⟩
    rw[ap,←Paired.length gp,show(kids e).length=((kids e).map Exp.fold).length by rw[ap],List.take_length,←jR]at ag
    have ba:ps.length=(kids e).length:=by rw[←Paired.length ag,jR,ap]
    have a5:=hM.same s1
    have bM:az (off M H) (off M H2):=sg.trans rN
    intro x cj hx be _
    have b6:cY M H H2:=cY.of_same hM.there s1
    have mk:=lY (C:=C) (M:=M) (H1:=H2) (e:=cV e) (D:=D) (l:=L) (as:=ps) (E:=E) (x:=x) (dx:=cj) (R:=fun H3=>cY M H2 H3→aX C (off M H3) (cV e) x→True) a5.there (yJ (eN (fun b xs q=>bM b _ q) gD)) (bU ay LM) (bZ rN ag) (by rw[ba];lia) hx be (fun _ _ _ _ _=>trivial)
    clear mk
    rw[←Hh e]
    refine lY (C:=C) (M:=M) (H1:=H2) (e:=cV e) (D:=D) (l:=L) (as:=ps) a5.there (yJ (eN (fun b xs q=>bM b _ q) gD)) (bU ay LM) (bZ rN ag) (by rw[ba];lia) hx be fun H3 k3 hw=>?_
    have b0:=b6.trans k3
    have k':D_ C M H3 Q (oN (cV e)):=by rw[←Q7];exact k.mono b0
    have ae:Hx M H3:=a5.same (gO k3)
    obtain⟨dw,DW,lw,aw,w1,wD,wl,wp⟩:=cH hw
    have sW:=aZ M H3
    have aE:=sW _ _ w1
    have b3:=sW _ _ wl
    have bE:∀kd∈kids (cV e),MX.iy kd∧NP kd:=fun kd O=>by
     rw[jR]at O
     obtain⟨k1,ck,rfl⟩:=List.mem_map.mp O
     have:=eX k1 (CZ hf ck)
     exact⟨this.fit,this.np⟩
    have br:(kids (cV e)).length=(kids e).length:=by rw[jR,ap]
    have Y:kids (cV e)≠[]:=fun z=>by rw[z,aM]at br;cases br
    refine⟨_,rfl,x,C,dw,_,_,rfl,aE,N.cl,N.nF,rfl,rfl,_,rfl,bC (fun hc=>?_) fun bt=>?_⟩
    ·have aC:dZ (cV e)=8:=cZ (mn hc)
     have et:oN (cV e)=cV e:=by
      cases q:cV e with
      | use n es=>rfl
      | _=>rw[q]at aC;cases aC
     rw[et]at k'
     exact⟨_,rfl,k' x H3 ⟨fun _ _=>rfl,az.refl _⟩ hw⟩
    refine⟨_,rfl,x,C,dw,_,_,rfl,aE,N.cl,N.nF,rfl,rfl,_,rfl,bC (fun hc=>?_) fun bn=>?_⟩
    ·have aC:dZ (cV e)=6:=cZ (mn hc)
     obtain⟨c1,c2,c3,a8⟩:∃c1 c2 c3,cV e=.cond c1 c2 c3:=by
      cases q:cV e with
      | cond c1 c2 c3=>exact⟨_,_,_,rfl⟩
      | _=>rw[q]at aC;cases aC
     rw[a8]at k' hw
     refine⟨_,rfl,off M H3,x,c1,c2,c3,rfl,sW,hw,fun r H4 s4 cw=>?_⟩
     have ax:=cY.of_same ae.there s4
     exact k' r H4 ax (cw.same ax.out)
    refine⟨_,rfl,x,C,dw,_,_,rfl,aE,N.cl,N.nF,rfl,(by show 2≤sizeLine;decide),fun T4 b2=>⟨T4,_,rfl,.inr (bN.of au),rfl,rfl,_,rfl,?_⟩⟩
    have s4:az H3 (L2.upd H3 T4 (.tup [.int 4,.int 5])):=az.upd b2
    generalize L2.upd H3 T4 (.tup [.int 4,.int 5])=H4 at *
    have ax:=cY.of_same ae.there s4
    have a9:=ae.same s4
    have ca:=hw.same ax.out
    have k4:=k'.mono ax
    refine bC (fun hc=>?_) fun al=>?_
    ·obtain⟨y1,y2,a8⟩:∃y1 y2,cV e=.and y1 y2∨cV e=.or y1 y2:=by
      cases q:cV e with
      | and y1 y2=>exact⟨_,_,.inl rfl⟩
      | or y1 y2=>exact⟨_,_,.inr rfl⟩
      | _=>rw[q]at hc;exact absurd hc (by intro z;cases z)
     exact⟨_,rfl,M,x,cV e,y1,y2,rfl,a9,ca,a8,k4⟩
    have av:Gg (cV e):=by
     cases q:cV e with
     | un o b=>exact trivial
     | bin o b c=>exact trivial
     | best g es=>rw[q]at Y;exact Y
     | num z=>rw[q]at Y;exact absurd rfl Y
     | name z=>rw[q]at Y;exact absurd rfl Y
     | and b c=>rw[q]at al;exact absurd (by rfl) al
     | or b c=>rw[q]at al;exact absurd (by rfl) al
     | cond b c d=>rw[q]at bn;exact absurd (by rfl) bn
     | use t es=>rw[q]at bt;exact absurd (by rfl) bt
    have j:=J2 av bE
    have w4:=s4 _ _ aE
    have bv:=s4 _ _ b3
    have a6:az (off M H3) H4:=sW.trans s4
    generalize cc:kids (cV e)=ks at *
    refine⟨_,rfl,x,C,dw,_,_,rfl,w4,N.cl,N.nP,rfl,lw,rfl,⟨_,bF.of bv⟩,fun VL bp=>?_⟩
    refine jb (K:=K) (a:=lw) (xs:=aw.map V.ref) (fun i H'=>az H4 H'∧∃vs:List V,H' VL=some (.lst vs)∧Paired (Aq H') ((ks.map Vbdeaa.litOf).take i) vs) ⟨az.upd bp,[],au,.nil⟩ (fun i H' _ ⟨s5,_⟩=>bF.of (s5 _ _ bv)) ?_ ?_
    ·rintro i y H' hi ⟨s5,vs,af,ac⟩
     obtain⟨b,hb,rfl⟩:=jK hi
     obtain⟨kd,O,a7⟩:=ww wp hb
     have a3:i<ks.length:=(lf.mp O).1
     have b1:vs.length=i:=by
      rw[←Paired.length ac,lp,ap]
      lia
     have e1:(ks.map Vbdeaa.litOf)[i]?=some (Vbdeaa.litOf kd):=by rw[l0,O];rfl
     have small:vs.length<sizeLine:=by rw[b1];exact lm (by lia:i<1900) (by decide)
     have G:∀(H6:Hp)(v:V),az H' H6→Aq H6 (Vbdeaa.litOf kd) v→az H4 (L2.upd H6 VL (.lst (vs++[v])))∧∃bq:List V,(L2.upd H6 VL (.lst (vs++[v]))) VL=some (.lst bq)∧Paired (Aq (L2.upd H6 VL (.lst (vs++[v])))) ((ks.map Vbdeaa.litOf).take (i+1)) bq:=fun H6 v Z cp=>by
      have b5:=Z _ _ af
      have up:∀{o:Option Vbdeaa.Q}{z:V},Aq H6 o z→Aq (L2.upd H6 VL (.lst (vs++[v]))) o z:=fun{o z} hz=>by
       cases o with
       | none=>exact hz
       | some q =>
        obtain⟨t,et,ht⟩:=hz
        refine⟨t,et,?_⟩
        unfold VA at ht ⊢
        rw[aA (qt ht b5 (by intro z;cases z))]
        exact ht
      refine⟨fun c o q=>by rw[aA (aP q bp)];exact Z _ _ (s5 _ _ q),vs++[v],au,?_⟩
      rw[List.take_succ,e1]
      exact cO (cU ac fun o z _ hz=>up (hz.same Z)) (up cp)
     refine⟨rfl,_,rfl,off M H3,b,kd,rfl,a6.trans s5,a7,?_⟩
     cases hq:Vbdeaa.litOf kd with
     | none =>
      rw[hq]at G
      exact fun H6 Z=>⟨_,Z _ _ af,small,G H6 .non Z rfl⟩
     | some q =>
      rw[hq]at G
      exact fun t H6 Z ht=>⟨_,Z _ _ af,small,G H6 (.ref t) Z ⟨t,rfl,ht⟩⟩
    rintro H5 ⟨s5,vs,af,ac⟩
    have b9:=Paired.length wp
    rw[ap,←b9,show ks.length=(ks.map Vbdeaa.litOf).length by rw[ap],List.take_length]at ac
    have bo:vs.length=ks.length:=by rw[←Paired.length ac,ap]
    have w5:=s5 _ _ w4
    refine⟨_,rfl,VL,rfl,⟨_,bF.of af⟩,fun BL bb=>?_⟩
    refine jb (K:=K) (a:=VL) (xs:=vs) (fun i H'=>az H5 H'∧H' BL=some (.lst ((((ks.map Vbdeaa.litOf).map Option.isNone).take i).map V.bl))) ⟨az.upd bb,au⟩ (fun i H' _ ⟨Z,_⟩=>bF.of (Z _ _ af)) ?_ ?_
    ·rintro i y H' hi ⟨Z,aI⟩
     have a3:i<ks.length:=by rw[←bo];exact(lf.mp hi).1
     obtain⟨o,ho⟩:∃o,(ks.map Vbdeaa.litOf)[i]?=some o:=⟨_,ln (by rw[ap];exact a3)⟩
     obtain⟨y',bi,bx⟩:=cz ac ho
     rw[hi]at bi
     cases bi
     have ey:decide (y=.non)=o.isNone:=by
      cases o with
      | none=>rw[show y=.non from bx];rfl
      | some q=>obtain⟨t,rfl,_⟩:=bx;rfl
     refine⟨rfl,_,rfl,_,aI,?_,?_,?_⟩
     ·rw[ap,lp]
      exact l6 (Nat.min_le_left _ _) (lm (by lia:i<1900) (by decide))
     ·intro c u q
      rw[aA (aP q bb)]
      exact Z _ _ q
     ·rw[au,ey]
      have e2:((ks.map Vbdeaa.litOf).map Option.isNone)[i]?=some o.isNone:=by rw[l0,ho];rfl
      rw[List.take_succ,e2,mB]
      rfl
    rintro H6 ⟨Z,aI⟩
    rw[bo,show ks.length=((ks.map Vbdeaa.litOf).map Option.isNone).length by rw[ap,ap],List.take_length]at aI
    have ai:=s5.trans Z
    have cy:=cY.of_same a9.there ai
    refine⟨BL,_,rfl,bF.of aI,_,rfl,?_⟩
    have w6:=Z _ _ w5
    cases aT:((ks.map Vbdeaa.litOf).map Option.isNone).any id with
    | true =>
     rw[HB aT]at j
     refine bj ⟨_,rfl,off M H3,x,cV e,rfl,a6.trans ai,hw,fun r H7 s7 cg=>?_⟩
     have ah:=cY.of_same ae.there ((s4.trans ai).trans s7)
     rw[j]at k'
     exact k' r H7 ah (cg.same ah.out)
    | false =>
     obtain⟨qs,e1,e2⟩:=Av aT
     rw[e1]at j
     have j:oN (cV e)=match Fx (cV e) qs with | none=>cV e | some q=>Vbdeaa.lit q:=j
     obtain⟨ts,rfl,a1⟩:∃ts,vs=ts.map V.ref∧Paired (VA H5) qs ts:=by
      rw[e2]at ac
      clear e1 j
      have:∀(qs:List Vbdeaa.Q)(vs:List V),Paired (Aq H5) (qs.map some) vs→∃ts,vs=ts.map V.ref∧Paired (VA H5) qs ts:=by
       intro qs
       induction qs with
       | nil=>intro vs h;cases h;exact⟨[],rfl,.nil⟩
       | cons q qs cv =>
        intro vs h
        cases h with
        | cons u v =>
         obtain⟨t,rfl,ht⟩:=u
         obtain⟨ts,rfl,a1⟩:=cv _ v
         exact⟨t::ts,rfl,.cons ht a1⟩
      exact this qs vs ac
     have lq:qs.length=ks.length:=by have:=congrArg List.length e2;simpa using this.symm
     have cb:∀q∈qs,xq q:=fun q hq=>by
      have:some q∈ks.map Vbdeaa.litOf:=by rw[e2];exact List.mem_map_of_mem hq
      obtain⟨kd,O,b4⟩:=List.mem_map.mp this
      exact mq (bE kd O).1 b4
     refine aN ⟨_,rfl,_,rfl,off M H3,x,VL,cV e,qs,ts,rfl,a6.trans ai,hw,av,Z _ _ af,cU a1 fun _ _ _ q=>q.same Z,cb,by rw[cc];exact lq,?_⟩
     cases aS:Fx (cV e) qs with
     | none =>
      rw[aS]at j
      refine fun H7 s7=>⟨_,rfl,_,rfl,bj ⟨_,rfl,?_⟩⟩
      have ah:=cY.of_same ae.there ((s4.trans ai).trans s7)
      rw[j]at k'
      exact k' x H7 ah (hw.same ah.out)
     | some q =>
      rw[aS]at j
      refine fun t H7 s7 ht=>⟨_,rfl,_,rfl,aN ⟨_,rfl,M,t,q,rfl,ae.same ((s4.trans ai).trans s7),ht,?_⟩⟩
      have ah:=cY.of_same ae.there ((s4.trans ai).trans s7)
      rw[j]at k'
      exact k'.mono ah
end
noncomputable abbrev zE:Stmt:=top 127
theorem Q8{n:Int}{c:List Int}(h:¬(0≤n∧n≤8)):PyVbdeam.fold n c=[-1]:=by
 show Vbdeam.given (if Vbdeam.within n 0 8=false then .error (-1)else _)=_
 rw[mr (JW h)]
 rfl
theorem Jv{n:Nat}{c:List Int}(h:n≤8):PyVbdeam.fold n c=Vbdeam.given ((Vbdeam.taken n c).map fun e=>Vbdeam.row (Vbdeam.numbers n e.fold)):=by
 show Vbdeam.given (if Vbdeam.within n 0 8=false then .error (-1)else _)=_
 rw[ml (by rw[Ec h];simp)]
 rfl
theorem zW{n:Nat}{e:Int}{c:List Int}(h:n≤8)(h1:Vbdeam.taken n c=.error e):PyVbdeam.fold n c=[e]:=by rw[Jv h,h1];rfl
theorem Q6{n:Nat}{c:List Int}{a:Exp}(h:n≤8)(h1:Vbdeam.taken n c=.ok a):PyVbdeam.fold n c=0::Vbdeam.row (Vbdeam.numbers n a.fold):=by rw[Jv h,h1];rfl
noncomputable def zc(K:PySem.W.Frag):Sp:=fun vs H Q _=>∃(n:Int)(l:Addr)(code:List Int),vs=[.int n,.ref l]∧bF K H l (vI code)∧Ry H Q (vI (PyVbdeam.fold n code))
section
theorem Ip:aO ["n","code","refusal"] ["n","code"] (aH zE):=⟨rfl,rfl,rfl,by decide +kernel,rfl,by decide +kernel,by decide +kernel⟩
theorem Qs{f C Rc Cw Cl Cn Cd f1 f2 f4 f6 f8:Addr}{fd d1 d2 d4 d6 d8:FuncData}(F:Fn K mg "fold" zE f fd ["n","code"])(hR:mg "Refusal"=some (.ref Rc))
  (F1:Fn K mg "check_parameters" OJ f1 d1 ["n"]) (G1:aL P w K mg base (bc P w) 4 f1 d1 ["n"] (NT Cw)) (F2:Fn K mg "taken_code" vC f2 d2 ["n","numbers"]) (G2:aL P w K mg base (bc P w) 37 f2 d2 ["n","numbers"] (yW K C Cl Cn Cd))
  (F4:Fn K mg "folded" p_ f4 d4 ["node"]) (G4:aL P w K mg base (bc P w) 41 f4 d4 ["node"] (zg C 32))
  (F6:Fn K mg "code_of" qb f6 d6 ["node","n"]) (G6:aL P w K mg base (bc P w) 40 f6 d6 ["node","n"] (vg C))
  (F8:Fn K mg "done" BR f8 d8 ["row"]) (G8:aL P w K mg base (bc P w) 1 f8 d8 ["row"] Od)
  (cw:ux K Cw) (cl:ux K Cl) (cn:ux K Cn) (cd:ux K Cd) (xw:PySem.W.exmOne K (.ref Cw) (.ref Rc)=some true) (xl:PySem.W.exmOne K (.ref Cl) (.ref Rc)=some true) (xn:PySem.W.exmOne K (.ref Cn) (.ref Rc)=some true) (xd:PySem.W.exmOne K (.ref Cd) (.ref Rc)=some true) :
  aL P w K mg base (bc P w) 67 f fd ["n","code"] (zc K):=by
 refine dz F.F Ip (fun vs H Q E h=>?_) (fun cdv A outer s H vs Q E S h=>?_)
 ·obtain⟨_,_,_,rfl,_⟩:=h
  rfl
 ·obtain⟨n,l,code,rfl,hl,k⟩:=h
  have Z:bB 1 _:=S.mono (by decide)
  have af:bB 4 _:=S.mono (by decide)
  have O:bB 37 _:=S.mono (by decide)
  have J:bB 40 _:=S.mono (by decide)
  have U:bB 41 _:=S.mono (by decide)
  refine⟨_,ak (Kv (Rc:=Rc) (i:=2) rfl Ip.nd rfl rfl rfl hR rfl rfl (fun pn xe E th=>aj (bQ (aK G1 af rfl F1.m F1.F.kp F1.b .nil th.passes (aa (pv 0) aq)))
   (ak (aB (aK G8 Z rfl F8.m F8.F.kp F8.b .nil th.passes (aa (aK G6 J rfl F6.m F6.F.kp F6.b .nil th.passes (aa (aK G4 U rfl F4.m F4.F.kp F4.b .nil th.passes (aa (aK G2 O rfl F2.m F2.F.kp F2.b .nil th.passes (aa (pv 0) (aa (pv 1) aq))) aq)) (aa (pv 0) aq))) aq)))))),?_⟩
  refine⟨_,rfl,n,rfl,fun hn=>?_,fun hn=>caught cw xw k (by rw[Q8 hn];rfl)⟩
  obtain⟨m,rfl⟩:∃m:Nat,n=m:=⟨n.toNat,by lia⟩
  have j:m≤8:=by lia
  refine⟨_,rfl,_,rfl,l,m,code,rfl,hl,j,fun z=>caught cl xl k (by rw[zW j (J8 z)];rfl),fun z D=>caught cn xn k (by rw[zW j (Ba z D)];rfl),fun e z D=>⟨fun hd=>caught cd xd k (by rw[zW j (El j z D hd)];rfl),fun hd a H1 s1 Y=>?_⟩⟩
  rw[Q6 j (Em j z D hd)]at k
  obtain⟨G,ag⟩:=sI j D
  have I:=eX e G
  have av:=I.size
  have al:=I.high
  have o0:az H1 (off [] H1):=fun b o q=>bU q (by simp)
  refine⟨[],a,e,rfl,fun c z=>absurd z (by simp),Y.same o0,G,hd.1,by lia,fun r H2 k2 ac=>?_⟩
  have s2:=s1.trans (gO k2)
  have ah:=hd.1
  refine⟨_,rfl,r,e.fold,m,rfl,j,ac.same (aZ [] H2),fY e (Rf D),by lia,by lia,fun nl H3 ai s3 L=>?_⟩
  have s4:=s2.trans s3
  have h1:=su (Vbdeam.codeOf m e.fold)
  have h2:=di m e.fold
  refine⟨nl,_,rfl,L,?_,fun l8 H8 ae s8 h8=>k l8 H8 (same_none s4 ae) (s4.trans s8) ?_⟩
  ·rw[eO]
   unfold Vbdeam.numbers
   rw[x_]
   lia
  ·rw[h8,eO]
   rfl
end
theorem mQ{us:List Value}{n:Nat}(h:us.length=n+1):∃a r,us=a::r∧r.length=n:=by
 cases us with
 | nil=>cases h
 | cons a r=>exact⟨a,r,rfl,Nat.succ.inj h⟩
theorem mU{us:List Value}(h:us.length=1):∃a,us=[a]:=by
 obtain⟨a,r,rfl,h2⟩:=mQ h
 exact⟨a,by rw[List.length_eq_zero_iff.mp h2]⟩
theorem jA{us:List Value}(h:us.length=2):∃j z,us=[j,z]:=by
 obtain⟨j,r,rfl,h2⟩:=mQ h
 obtain⟨z,rfl⟩:=mU h2
 exact⟨j,z,rfl⟩
theorem XS{us:List Value}(h:us.length=3):∃j D z,us=[j,D,z]:=by
 obtain⟨j,r,rfl,h2⟩:=mQ h
 obtain⟨D,z,rfl⟩:=jA h2
 exact⟨j,D,z,rfl⟩
theorem Zm{us:List Value}(h:us.length=4):∃j F D z,us=[j,F,D,z]:=by
 obtain⟨j,r,rfl,h2⟩:=mQ h
 obtain⟨F,D,z,rfl⟩:=XS h2
 exact⟨j,F,D,z,rfl⟩
theorem us5{us:List Value}(h:us.length=5):∃j G D z F,us=[j,G,D,z,F]:=by
 obtain⟨j,r,rfl,h2⟩:=mQ h
 obtain⟨G,D,z,F,rfl⟩:=Zm h2
 exact⟨j,G,D,z,F,rfl⟩
theorem us6{us:List Value}(h:us.length=6):∃j G D z F J,us=[j,G,D,z,F,J]:=by
 obtain⟨j,r,rfl,h2⟩:=mQ h
 obtain⟨G,D,z,F,J,rfl⟩:=us5 h2
 exact⟨j,G,D,z,F,J,rfl⟩
theorem Ht:aV "kind_of" "kind_of" yo ["form","detail"]:=fun _ _ _ _ _ _ us j=>by obtain⟨z,D,rfl⟩:=jA j;rfl
theorem DK:aV "place_of" "place_of" rC ["kind","position"]:=fun _ _ _ _ _ _ us j=>by obtain⟨z,D,rfl⟩:=jA j;rfl
theorem Aj:aV "around_of" "around_of" qe ["kind","position"]:=fun _ _ _ _ _ _ us j=>by obtain⟨z,D,rfl⟩:=jA j;rfl
theorem uo:aV "name_of_read" "name_of_read" ym ["number"]:=fun _ _ _ _ _ _ us j=>by obtain⟨z,rfl⟩:=mU j;rfl
theorem qL:aV "common_divisor" "common_divisor" Fw ["a","b"]:=fun _ _ _ _ _ _ us j=>by obtain⟨z,D,rfl⟩:=jA j;rfl
theorem sZ:aV "is_right_pair" "is_right_pair" Bv ["numerator","denominator"]:=fun _ _ _ _ _ _ us j=>by obtain⟨z,D,rfl⟩:=jA j;rfl
theorem qG:aV "wants_brackets" "wants_brackets" vB ["node","position"]:=fun _ _ _ _ _ _ us j=>by obtain⟨z,D,rfl⟩:=jA j;rfl
theorem xT:aV "nesting_of" "nesting_of" Bx ["node"]:=fun _ _ _ _ _ _ us j=>by obtain⟨z,rfl⟩:=mU j;rfl
theorem pC:aV "instructions_in" "instructions_in" O5 ["code","n"]:=fun _ _ _ _ _ _ us j=>by obtain⟨z,D,rfl⟩:=jA j;rfl
theorem jy:aV "is_right_instruction" "is_right_instruction" vG ["row","n"]:=fun _ _ _ _ _ _ us j=>by obtain⟨z,D,rfl⟩:=jA j;rfl
theorem xV:aV "choices_of" "choices_of" lJ ["first","n"]:=fun _ _ _ _ _ _ us j=>by obtain⟨z,D,rfl⟩:=jA j;rfl
theorem ut:aV "formula_node" "formula_node" lH ["formula","parts"]:=fun _ _ _ _ _ _ us j=>by obtain⟨z,D,rfl⟩:=jA j;rfl
theorem Ah:aV "pick_node" "pick_node" Bu ["detail","parts"]:=fun _ _ _ _ _ _ us j=>by obtain⟨z,D,rfl⟩:=jA j;rfl
theorem jx:aV "simple_expression_of" "simple_expression_of" pX ["code","n"]:=fun _ _ _ _ _ _ us j=>by obtain⟨z,D,rfl⟩:=jA j;rfl
theorem n_:aV "check_parameters" "check_parameters" OJ ["n"]:=fun _ _ _ _ _ _ us j=>by obtain⟨z,rfl⟩:=mU j;rfl
theorem uw:aV "check_length" "check_length" O3 ["numbers"]:=fun _ _ _ _ _ _ us j=>by obtain⟨z,rfl⟩:=mU j;rfl
theorem wZ:aV "check_depth" "check_depth" vN ["node"]:=fun _ _ _ _ _ _ us j=>by obtain⟨z,rfl⟩:=mU j;rfl
theorem xR:aV "taken_code" "taken_code" vC ["n","numbers"]:=fun _ _ _ _ _ _ us j=>by obtain⟨z,D,rfl⟩:=jA j;rfl
theorem sY:aV "number_within" "number_within" jJ ["name","head","tail","count"]:=fun _ _ _ _ _ _ us j=>by obtain⟨z,G,F,D,rfl⟩:=Zm j;rfl
theorem qJ:aV "number_of_read" "number_of_read" O2 ["name"]:=fun _ _ _ _ _ _ us j=>by obtain⟨z,rfl⟩:=mU j;rfl
theorem jl:aV "bare_name_instruction" "bare_name_instruction" BW ["name","n"]:=fun _ _ _ _ _ _ us j=>by obtain⟨z,D,rfl⟩:=jA j;rfl
theorem iQ:aV "called_name_instruction" "called_name_instruction" qd ["name","count"]:=fun _ _ _ _ _ _ us j=>by obtain⟨z,D,rfl⟩:=jA j;rfl
theorem nZ:aV "own_instructions" "own_instructions" O1 ["node","sizes","n"]:=fun _ _ _ _ _ _ us j=>by obtain⟨z,F,D,rfl⟩:=XS j;rfl
theorem mL:aV "last_instructions" "last_instructions" BJ ["node","n"]:=fun _ _ _ _ _ _ us j=>by obtain⟨z,D,rfl⟩:=jA j;rfl
theorem pB:aV "instructions_of" "instructions_of" vL ["node","n"]:=fun _ _ _ _ _ _ us j=>by obtain⟨z,D,rfl⟩:=jA j;rfl
theorem Mx:aV "joined" "joined" pZ ["rows"]:=fun _ _ _ _ _ _ us j=>by obtain⟨z,rfl⟩:=mU j;rfl
theorem Hv:aV "code_of" "code_of" qb ["node","n"]:=fun _ _ _ _ _ _ us j=>by obtain⟨z,D,rfl⟩:=jA j;rfl
theorem UL:aV "done" "done" BR ["row"]:=fun _ _ _ _ _ _ us j=>by obtain⟨z,rfl⟩:=mU j;rfl
theorem uq:aV "lowest_terms" "lowest_terms" m8 ["numerator","denominator"]:=fun _ _ _ _ _ _ us j=>by obtain⟨z,D,rfl⟩:=jA j;rfl
theorem DQ:aV "is_small" "is_small" rB ["value"]:=fun _ _ _ _ _ _ us j=>by obtain⟨z,rfl⟩:=mU j;rfl
theorem Ro:aV "truth" "truth" rA ["holds"]:=fun _ _ _ _ _ _ us j=>by obtain⟨z,rfl⟩:=mU j;rfl
theorem Hq:aV "sign_of" "sign_of" pY ["number"]:=fun _ _ _ _ _ _ us j=>by obtain⟨z,rfl⟩:=mU j;rfl
theorem DN:aV "order_of" "order_of" rD ["left","right"]:=fun _ _ _ _ _ _ us j=>by obtain⟨z,D,rfl⟩:=jA j;rfl
theorem DP:aV "opposite" "opposite" Ft ["value"]:=fun _ _ _ _ _ _ us j=>by obtain⟨z,rfl⟩:=mU j;rfl
theorem Rp:aV "added" "added" rE ["left","right"]:=fun _ _ _ _ _ _ us j=>by obtain⟨z,D,rfl⟩:=jA j;rfl
theorem xU:aV "multiplied" "multiplied" vK ["left","right"]:=fun _ _ _ _ _ _ us j=>by obtain⟨z,D,rfl⟩:=jA j;rfl
theorem Hu:aV "inverse" "inverse" Fv ["value"]:=fun _ _ _ _ _ _ us j=>by obtain⟨z,rfl⟩:=mU j;rfl
theorem uv:aV "divided_down" "divided_down" yp ["left","right"]:=fun _ _ _ _ _ _ us j=>by obtain⟨z,D,rfl⟩:=jA j;rfl
theorem Hr:aV "rest_of" "rest_of" Bt ["left","right"]:=fun _ _ _ _ _ _ us j=>by obtain⟨z,D,rfl⟩:=jA j;rfl
theorem n6:aV "multiplied_often" "multiplied_often" vJ ["value","times"]:=fun _ _ _ _ _ _ us j=>by obtain⟨z,D,rfl⟩:=jA j;rfl
theorem Hs:aV "powered" "powered" lG ["value","exponent"]:=fun _ _ _ _ _ _ us j=>by obtain⟨z,D,rfl⟩:=jA j;rfl
theorem sX:aV "result_of_one" "result_of_one" Bw ["operation","value"]:=fun _ _ _ _ _ _ us j=>by obtain⟨z,D,rfl⟩:=jA j;rfl
theorem DR:aV "compared" "compared" O7 ["operation","left","right"]:=fun _ _ _ _ _ _ us j=>by obtain⟨z,F,D,rfl⟩:=XS j;rfl
theorem xQ:aV "worked_out" "worked_out" Br ["operation","left","right"]:=fun _ _ _ _ _ _ us j=>by obtain⟨z,F,D,rfl⟩:=XS j;rfl
theorem sV:aV "result_of_two" "result_of_two" Bs ["operation","left","right"]:=fun _ _ _ _ _ _ us j=>by obtain⟨z,F,D,rfl⟩:=XS j;rfl
theorem qI:aV "result_of_pick" "result_of_pick" vH ["operation","values"]:=fun _ _ _ _ _ _ us j=>by obtain⟨z,D,rfl⟩:=jA j;rfl
theorem My:aV "folded" "folded" p_ ["node"]:=fun _ _ _ _ _ _ us j=>by obtain⟨z,rfl⟩:=mU j;rfl
theorem qH:aV "standing_value" "standing_value" lF ["node"]:=fun _ _ _ _ _ _ us j=>by obtain⟨z,rfl⟩:=mU j;rfl
theorem ph:aV "standing_number" "standing_number" vD ["value"]:=fun _ _ _ _ _ _ us j=>by obtain⟨z,rfl⟩:=mU j;rfl
theorem Ag:aV "result_of" "result_of" OD ["node","values"]:=fun _ _ _ _ _ _ us j=>by obtain⟨z,D,rfl⟩:=jA j;rfl
theorem pA:aV "is_whole_number" "is_whole_number" vA ["node","number"]:=fun _ _ _ _ _ _ us j=>by obtain⟨z,D,rfl⟩:=jA j;rfl
theorem j6:aV "without_idle_number" "without_idle_number" BP ["node"]:=fun _ _ _ _ _ _ us j=>by obtain⟨z,rfl⟩:=mU j;rfl
theorem Ai:aV "folded_if" "folded_if" O6 ["node"]:=fun _ _ _ _ _ _ us j=>by obtain⟨z,rfl⟩:=mU j;rfl
theorem qK:aV "folded_joining" "folded_joining" Ym ["node"]:=fun _ _ _ _ _ _ us j=>by obtain⟨z,rfl⟩:=mU j;rfl
theorem pD:aV "folded_to_right" "folded_to_right" Oz ["node"]:=fun _ _ _ _ _ _ us j=>by obtain⟨z,rfl⟩:=mU j;rfl
theorem wY:aV "gives_truth" "gives_truth" vM ["node"]:=fun _ _ _ _ _ _ us j=>by obtain⟨z,rfl⟩:=mU j;rfl
theorem JK:aV "fold" "fold" zE ["n","code"]:=fun _ _ _ _ _ _ us j=>by obtain⟨z,D,rfl⟩:=jA j;rfl
theorem Rn:aV "limit" "Choice.limit" (BV 1) ["self"]:=fun _ _ _ _ _ _ us j=>by obtain⟨z,rfl⟩:=mU j;rfl
theorem Uz:aV "step" "Recovery.step" (cG 1) ["self"]:=fun _ _ _ _ _ _ us j=>by obtain⟨z,rfl⟩:=mU j;rfl
theorem UG:aV "free" "Recovery.free" (cG 2) ["self"]:=fun _ _ _ _ _ _ us j=>by obtain⟨z,rfl⟩:=mU j;rfl
theorem xO:aV "take_parts" "Recovery.take_parts" (cG 3) ["self","count"]:=fun _ _ _ _ _ _ us j=>by obtain⟨z,D,rfl⟩:=jA j;rfl
theorem Ae:aV "take_only" "Recovery.take_only" (cG 4) ["self"]:=fun _ _ _ _ _ _ us j=>by obtain⟨z,rfl⟩:=mU j;rfl
theorem xN:aV "take_plain" "Recovery.take_plain" (cG 5) ["self","row"]:=fun _ _ _ _ _ _ us j=>by obtain⟨z,D,rfl⟩:=jA j;rfl
theorem xP:aV "plain_node" "Recovery.plain_node" (cG 6) ["self","row"]:=fun _ _ _ _ _ _ us j=>by obtain⟨z,D,rfl⟩:=jA j;rfl
theorem um:aV "begin_choice" "Recovery.begin_choice" (cG 7) ["self","length"]:=fun _ _ _ _ _ _ us j=>by obtain⟨z,D,rfl⟩:=jA j;rfl
theorem ul:aV "go_on_choice" "Recovery.go_on_choice" (cG 8) ["self"]:=fun _ _ _ _ _ _ us j=>by obtain⟨z,rfl⟩:=mU j;rfl
theorem wV:aV "end_joining" "Recovery.end_joining" (cG 9) ["self"]:=fun _ _ _ _ _ _ us j=>by obtain⟨z,rfl⟩:=mU j;rfl
theorem sU:aV "place_of_nine" "Recovery.place_of_nine" (cG 10) ["self","choice"]:=fun _ _ _ _ _ _ us j=>by obtain⟨z,D,rfl⟩:=jA j;rfl
theorem Hn:aV "end_ifs" "Recovery.end_ifs" (cG 11) ["self"]:=fun _ _ _ _ _ _ us j=>by obtain⟨z,rfl⟩:=mU j;rfl
theorem UJ:aV "__init__" "Node.__init__" Ir ["self","form","detail","parts"]:=fun _ _ _ _ _ _ us j=>by obtain⟨z,G,F,D,rfl⟩:=Zm j;rfl
theorem Ms:aV "__init__" "Choice.__init__" (BV 0) ["self","condition","start","middle","end","base"]:=fun _ _ _ _ _ _ us j=>by obtain⟨z,L,G,D,J,F,rfl⟩:=us6 j;rfl
theorem Dz:aV "__init__" "Recovery.__init__" (cG 0) ["self","rows"]:=fun _ _ _ _ _ _ us j=>by obtain⟨z,D,rfl⟩:=jA j;rfl
theorem Ho:aV "__init__" "Refusal.__init__" zB ["self","number"]:=fun _ _ _ _ _ _ us j=>by obtain⟨z,D,rfl⟩:=jA j;rfl
theorem j5:aV "__init__" "WrongParameterCount.__init__" (nU 47) ["self"]:=fun _ _ _ _ _ _ us j=>by obtain⟨z,rfl⟩:=mU j;rfl
theorem wW:aV "__init__" "CodeTooLong.__init__" (nU 48) ["self"]:=fun _ _ _ _ _ _ us j=>by obtain⟨z,rfl⟩:=mU j;rfl
theorem Mr:aV "__init__" "NoCode.__init__" (nU 49) ["self"]:=fun _ _ _ _ _ _ us j=>by obtain⟨z,rfl⟩:=mU j;rfl
theorem wX:aV "__init__" "CodeTooDeep.__init__" (nU 50) ["self"]:=fun _ _ _ _ _ _ us j=>by obtain⟨z,rfl⟩:=mU j;rfl
theorem Af:aV "__init__" "WrongName.__init__" zA ["self"]:=fun _ _ _ _ _ _ us j=>by obtain⟨z,rfl⟩:=mU j;rfl
noncomputable def consts:List (Str×TV):=([("ONE",.i 2),("TWO",.i 3),("AND",.i 4),("OR",.i 5),("IF",.i 6),("STRONGEST",.i 9),("ONE_KINDS",tvs Xx),("TWO_KINDS",tvs Xq),("PLACES",.t (iR.map tvs)),("AROUND",.t (f9.map tvs)),("NUMBER",.i 0),("NAME",.i 1),("PICK",.i 7),("ONE_WORDS",RM Y5),("PICK_WORDS",RM Vx),("TWO_SIGNS",.t (YZ.map tvs)),("LENGTHS",tvs Hy),("NUMBER_ZERO",tvs [0,0,1]),("NUMBER_ONE",tvs [0,1,1]),("FORMULAS",.i 64),("TABLES",.i 64),("MOST_ARGUMENTS",.i 8),("CALL",.i 8),("MOST_PARAMETERS",.i 8),("LONGEST_CODE",.i 500),("HIGHEST",.i 32),("DEEPEST",.i 32),("LARGEST",.i 1000000000000000000),("READ_ROWS",.t (ROWS.map Iu)),("NEGATE",.i 0)]:List (Str×TV))++([("NOT",.i 1),("FLOOR",.i 2),("CEIL",.i 3),("ABS",.i 4),("SIGN",.i 5),("NUM",.i 6),("PLUS",.i 0),("MINUS",.i 1),("TIMES",.i 2),("DIVIDE",.i 3),("DIVIDE_DOWN",.i 4),("REST",.i 5),("POWER",.i 6),("EQUAL",.i 7),("UNEQUAL",.i 8),("BELOW",.i 9),("AT_MOST",.i 10),("ABOVE",.i 11),("LEAST",.i 0),("GREATEST",.i 1),("HIGHEST_EXPONENT",.i 64)]:List (Str×TV))
noncomputable def absent:List Str:=["max","enumerate","len","str","list","range","tuple","Exception","int","zip","abs","any"]
noncomputable def constsOk(K:PySem.W.Frag):Bool:=consts.all fun p=>Z5 K p.1 p.2
noncomputable def DY(K:PySem.W.Frag):Bool:=absent.all fun x=>isAbsent K x
theorem YM{K:PySem.W.Frag}{h:Heap}{mg:Str→Option Value}{x:Str}{c:TV}(X:K.In h)(G:h.Ns mainGlobals mg)(j:constsOk K=true)(i:Nat)(e:consts[i]?=some (x,c)):GC K mg x c :=
 YL X G (mv.mp j (x,c) (mw e))
theorem YB{K:PySem.W.Frag}{h:Heap}{mg:Str→Option Value}{x:Str}(X:K.In h)(G:h.Ns mainGlobals mg)(j:DY K=true)(i:Nat)(e:absent[i]?=some x):mg x=none:=by
 have:=mv.mp j x (mw e)
 unfold isAbsent at this
 split at this
 ·rename_i q
  exact PySem.W.mg_none_of X G q
 ·cases this
theorem Xm{P:Program}{w:World}{K:PySem.W.Frag}{h:Heap}{mg:Str→Option Value}{fa:Addr}(X:K.In h)(G:h.Ns mainGlobals mg)(kF:mg "fold"=some (.ref fa))(hc:constsOk K=true)(ha:DY K=true)(hd:∃d,mg "READ_ALONE"=some (.ref d)∧KDict K w d jf)
  (gp:∃f fd,Fn K mg "kind_of" yo f fd ["form","detail"])
  (gd:∃f fd,Fn K mg "place_of" rC f fd ["kind","position"])
  (fB:∃f fd,Fn K mg "around_of" qe f fd ["kind","position"])
  (ey:∃f fd,Fn K mg "name_of_read" ym f fd ["number"])
  (dy:∃f fd,Fn K mg "common_divisor" Fw f fd ["a","b"])
  (ec:∃f fd,Fn K mg "is_right_pair" Bv f fd ["numerator","denominator"])
  (dB:∃f fd,Fn K mg "wants_brackets" vB f fd ["node","position"])
  (e2:∃f fd,Fn K mg "nesting_of" Bx f fd ["node"])
  (cw:∃f fd,Fn K mg "instructions_in" O5 f fd ["code","n"])
  (be:∃f fd,Fn K mg "is_right_instruction" vG f fd ["row","n"])
  (e1:∃f fd,Fn K mg "choices_of" lJ f fd ["first","n"])
  (eu:∃f fd,Fn K mg "formula_node" lH f fd ["formula","parts"])
  (fh:∃f fd,Fn K mg "pick_node" Bu f fd ["detail","parts"])
  (bd:∃f fd,Fn K mg "simple_expression_of" pX f fd ["code","n"])
  (b3:∃f fd,Fn K mg "check_parameters" OJ f fd ["n"])
  (en:∃f fd,Fn K mg "check_length" O3 f fd ["numbers"])
  (eC:∃f fd,Fn K mg "check_depth" vN f fd ["node"])
  (eM:∃f fd,Fn K mg "taken_code" vC f fd ["n","numbers"])
  (dV:∃f fd,Fn K mg "number_within" jJ f fd ["name","head","tail","count"])
  (c3:∃f fd,Fn K mg "number_of_read" O2 f fd ["name"])
  (a4:∃f fd,Fn K mg "bare_name_instruction" BW f fd ["name","n"])
  (aM:∃f fd,Fn K mg "called_name_instruction" qd f fd ["name","count"])
  (b4:∃f fd,Fn K mg "own_instructions" O1 f fd ["node","sizes","n"])
  (bM:∃f fd,Fn K mg "last_instructions" BJ f fd ["node","n"])
  (cy:∃f fd,Fn K mg "instructions_of" vL f fd ["node","n"])
  (he:∃f fd,Fn K mg "joined" pZ f fd ["rows"])
  (gl:∃f fd,Fn K mg "code_of" qb f fd ["node","n"])
  (hO:∃f fd,Fn K mg "done" BR f fd ["row"])
  (eh:∃f fd,Fn K mg "lowest_terms" m8 f fd ["numerator","denominator"])
  (fW:∃f fd,Fn K mg "is_small" rB f fd ["value"])
  (hH:∃f fd,Fn K mg "truth" rA f fd ["holds"])
  (gu:∃f fd,Fn K mg "sign_of" pY f fd ["number"])
  (fK:∃f fd,Fn K mg "order_of" rD f fd ["left","right"])
  (f7:∃f fd,Fn K mg "opposite" Ft f fd ["value"])
  (hB:∃f fd,Fn K mg "added" rE f fd ["left","right"])
  (e0:∃f fd,Fn K mg "multiplied" vK f fd ["left","right"])
  (gT:∃f fd,Fn K mg "inverse" Fv f fd ["value"])
  (ew:∃f fd,Fn K mg "divided_down" yp f fd ["left","right"])
  (gE:∃f fd,Fn K mg "rest_of" Bt f fd ["left","right"])
  (ca:∃f fd,Fn K mg "multiplied_often" vJ f fd ["value","times"])
  (gN:∃f fd,Fn K mg "powered" lG f fd ["value","exponent"])
  (dW:∃f fd,Fn K mg "result_of_one" Bw f fd ["operation","value"])
  (gi:∃f fd,Fn K mg "compared" O7 f fd ["operation","left","right"])
  (e8:∃f fd,Fn K mg "worked_out" Br f fd ["operation","left","right"])
  (eb:∃f fd,Fn K mg "result_of_two" Bs f fd ["operation","left","right"])
  (dc:∃f fd,Fn K mg "result_of_pick" vH f fd ["operation","values"])
  (hn:∃f fd,Fn K mg "folded" p_ f fd ["node"])
  (dw:∃f fd,Fn K mg "standing_value" lF f fd ["node"])
  (c2:∃f fd,Fn K mg "standing_number" vD f fd ["value"])
  (fx:∃f fd,Fn K mg "result_of" OD f fd ["node","values"])
  (c0:∃f fd,Fn K mg "is_whole_number" vA f fd ["node","number"])
  (br:∃f fd,Fn K mg "without_idle_number" BP f fd ["node"])
  (fq:∃f fd,Fn K mg "folded_if" O6 f fd ["node"])
  (dk:∃f fd,Fn K mg "folded_joining" Ym f fd ["node"])
  (cB:∃f fd,Fn K mg "folded_to_right" Oz f fd ["node"])
  (eD:∃f fd,Fn K mg "gives_truth" vM f fd ["node"])
  (hP:∃f fd,Fn K mg "fold" zE f fd ["n","code"])
  (HN:∃C,(∃f fd,Vb K mg "Node" "Node.__init__" Ir ["self","form","detail","parts"] C f fd)∧bu K C "form"∧bu K C "detail"∧bu K C "parts"∧bu K C "height")
  (HC:∃C,(∃f fd,Vb K mg "Choice" "Choice.__init__" (BV 0) ["self","condition","start","middle","end","base"] C f fd)∧bu K C "condition"∧bu K C "start"∧bu K C "middle"∧bu K C "end"∧bu K C "base"∧bu K C "first_part"∧(∃f fd,Fm K C "limit" "Choice.limit" (BV 1) f fd ["self"]))
  (HR:∃C,(∃f fd,Vb K mg "Recovery" "Recovery.__init__" (cG 0) ["self","rows"] C f fd)∧bu K C "rows"∧bu K C "at"∧bu K C "waiting"∧bu K C "choices"∧(∃f fd,Fm K C "step" "Recovery.step" (cG 1) f fd ["self"])∧(∃f fd,Fm K C "free" "Recovery.free" (cG 2) f fd ["self"])∧(∃f fd,Fm K C "take_parts" "Recovery.take_parts" (cG 3) f fd ["self","count"])∧(∃f fd,Fm K C "take_only" "Recovery.take_only" (cG 4) f fd ["self"])∧(∃f fd,Fm K C "take_plain" "Recovery.take_plain" (cG 5) f fd ["self","row"])∧(∃f fd,Fm K C "plain_node" "Recovery.plain_node" (cG 6) f fd ["self","row"])∧(∃f fd,Fm K C "begin_choice" "Recovery.begin_choice" (cG 7) f fd ["self","length"])∧(∃f fd,Fm K C "go_on_choice" "Recovery.go_on_choice" (cG 8) f fd ["self"])∧(∃f fd,Fm K C "end_joining" "Recovery.end_joining" (cG 9) f fd ["self"])∧(∃f fd,Fm K C "place_of_nine" "Recovery.place_of_nine" (cG 10) f fd ["self","choice"])∧(∃f fd,Fm K C "end_ifs" "Recovery.end_ifs" (cG 11) f fd ["self"]))
  (HX:∃Rc,(mg "Refusal"=some (.ref Rc)∧∃f fd,j_ K Rc "__init__" f∧kZ K "__init__" "Refusal.__init__" zB f fd∧Binds K fd ["self","number"] [])∧(∃C f fd,M3 K mg "WrongParameterCount" "WrongParameterCount.__init__" (nU 47) Rc C f fd)∧(∃C f fd,M3 K mg "CodeTooLong" "CodeTooLong.__init__" (nU 48) Rc C f fd)∧(∃C f fd,M3 K mg "NoCode" "NoCode.__init__" (nU 49) Rc C f fd)∧(∃C f fd,M3 K mg "CodeTooDeep" "CodeTooDeep.__init__" (nU 50) Rc C f fd)∧(∃C f fd,M3 K mg "WrongName" "WrongName.__init__" zA Rc C f fd))
  : ∃fd:FuncData,(∀(s:Shared)(us:List Value),us.length=(["n","code"]:List Str).length→BindsTo s fd ⟨us,[]⟩ ((["n","code"]:List Str).zip us))∧∀base:Heap,K.In base→base.Ns mainGlobals mg→aL P w K mg base (bc P w) 67 fa fd ["n","code"] (zc K):=by
 obtain⟨ip,h9,gX⟩:=gp
 obtain⟨h8,h7,gj⟩:=gd
 obtain⟨hT,hN,fk⟩:=fB
 obtain⟨bt,bE,ah⟩:=ey
 obtain⟨g7,g0,a0⟩:=dy
 obtain⟨hf,hp,ea⟩:=ec
 obtain⟨g9,g4,c8⟩:=dB
 obtain⟨e3,fb,cj⟩:=e2
 obtain⟨cv,cS,aC⟩:=cw
 obtain⟨bn,bo,O⟩:=be
 obtain⟨hK,hM,eP⟩:=e1
 obtain⟨er,ez,bv⟩:=eu
 obtain⟨fw,fy,c7⟩:=fh
 obtain⟨bi,ba,S⟩:=bd
 obtain⟨b6,b9,aw⟩:=b3
 obtain⟨et,ek,bx⟩:=en
 obtain⟨eH,eA,bP⟩:=eC
 obtain⟨e4,eL,cg⟩:=eM
 obtain⟨d6,dE,J⟩:=dV
 obtain⟨dt,dr,a1⟩:=c3
 obtain⟨a5,a7,L⟩:=a4
 obtain⟨aT,ax,D⟩:=aM
 obtain⟨b5,cf,av⟩:=b4
 obtain⟨b2,bX,ac⟩:=bM
 obtain⟨cE,c1,aI⟩:=cy
 obtain⟨iF,iE,hg⟩:=he
 obtain⟨gx,gS,eK⟩:=gl
 obtain⟨j1,j3,g5⟩:=hO
 obtain⟨eo,el,af⟩:=eh
 obtain⟨f6,fG,bS⟩:=fW
 obtain⟨iO,d_truth,f8⟩:=hH
 obtain⟨iv,ib,gL⟩:=gu
 obtain⟨h3,h6,eg⟩:=fK
 obtain⟨h4,h5,b1⟩:=f7
 obtain⟨hJ,hG,eI⟩:=hB
 obtain⟨eS,e6,Z⟩:=e0
 obtain⟨ij,iq,cN⟩:=gT
 obtain⟨em,ev,ai⟩:=ew
 obtain⟨gv,gy,eB⟩:=gE
 obtain⟨cc,cb,al⟩:=ca
 obtain⟨gr,gz,eJ⟩:=gN
 obtain⟨ed,d8,bb⟩:=dW
 obtain⟨f0,gg,ef⟩:=gi
 obtain⟨fe,eR,ck⟩:=e8
 obtain⟨dQ,ee,a9⟩:=eb
 obtain⟨de,c9,a2⟩:=dc
 obtain⟨hj,hb,ff⟩:=hn
 obtain⟨dn,c5,j⟩:=dw
 obtain⟨cK,cC,z⟩:=c2
 obtain⟨fz,fi,db⟩:=fx
 obtain⟨gD,gI,aS⟩:=c0
 obtain⟨bq,bp,Y⟩:=br
 obtain⟨ft,fv,c4⟩:=fq
 obtain⟨da,dv,a3⟩:=dk
 obtain⟨cx,cL,ay⟩:=cB
 obtain⟨hC,hF,b0⟩:=eD
 obtain⟨j4,hU,fm⟩:=hP
 obtain⟨C,⟨fN,dN,KN⟩,hX,ho,hD,hl⟩:=HN
 obtain⟨CC,⟨fC,dC,KC⟩,fg,hA,hk,ih,hV,e5,fL,dL,FL⟩:=HC
 obtain⟨R,⟨lh,li,KR⟩,hW,iN,gq,gs,⟨hS,hQ,fE⟩,⟨jI,j2,g6⟩,⟨cp,cm,a6⟩,⟨c6,df,U⟩,⟨e9,eW,a8⟩,⟨eT,e7,cq⟩,⟨hs,ht,ae⟩,⟨hq,hr,ag⟩,⟨hE,hI,aE⟩,⟨hm,hh,dG⟩,⟨ic,ia,cA⟩⟩:=HR
 obtain⟨Rc,⟨mR,fR,dR,hv,FR,bR⟩,⟨Cw,kw,kC,Xw⟩,⟨Cl,kt,kA,Xl⟩,⟨Cn,jv,i3,Xn⟩,⟨Cd,kB,kz,Xd⟩,⟨Cg,ky,kg,Xg⟩⟩:=HX
 have e:=kF.symm.trans fm.m
 cases e
 have no:∀(i:Nat){x:Str},absent[i]?=some x→mg x=none:=fun i _ e=>YB X G ha i e
 have gc:∀(i:Nat){x:Str}{c:TV},consts[i]?=some (x,c)→GC K mg x c:=fun i _ _ e=>YM X G hc i e
 have TN:oK K C:=⟨KN.cl,hX,ho,hD,hl⟩
 have TR:Xu K R:=⟨KR.cl,hW,iN,gq,gs⟩
 have TC:Vc K CC:=⟨KC.cl,fg,hA,hk,ih,hV,e5⟩
 have TQ:CN K mg:=⟨gc 0 rfl,gc 1 rfl,gc 2 rfl,gc 3 rfl,gc 4 rfl,gc 5 rfl,gc 6 rfl,gc 7 rfl,gc 8 rfl,gc 9 rfl⟩
 have TP:CP K mg:=⟨gc 10 rfl,gc 11 rfl,gc 12 rfl,gc 13 rfl,gc 14 rfl,gc 15 rfl,no 3 rfl,no 4 rfl,no 5 rfl,no 2 rfl⟩
 have TS:SB.CR K mg:=⟨gc 16 rfl,gc 17 rfl,gc 18 rfl,gc 19 rfl,gc 20 rfl,gc 21 rfl,gc 22 rfl,no 6 rfl⟩
 have TU:CS K mg:=⟨gc 23 rfl,gc 24 rfl,gc 25 rfl,gc 26 rfl,no 2 rfl⟩
 have hL:GC K mg "LARGEST" (.i 1000000000000000000):=gc 27 rfl
 have TM:CM K w mg:=⟨hd,gc 28 rfl,no 3 rfl⟩
 have T:RT K mg C R CC:=⟨TN,TR,TC,TP,TQ,TS⟩
 have hZ:mg "max"=none:=no 0 rfl
 have kX:mg "enumerate"=none:=no 1 rfl
 have hex:mg "Exception"=none:=no 7 rfl
 have i4:mg "len"=none:=no 2 rfl
 have hint:mg "int"=none:=no 8 rfl
 have i6:mg "str"=none:=no 3 rfl
 have iP:mg "zip"=none:=no 9 rfl
 have iS:mg "abs"=none:=no 10 rfl
 have i8:mg "any"=none:=no 11 rfl
 have hY:mg "range"=none:=no 5 rfl
 obtain⟨oc,od,kV,doc,pm,an,cdv,ct,osl,kq,_,_⟩:=fm.F.ex
 refine⟨hU,fun s us hu=>by rw[kq];exact .of_eq (JK kV doc pm an cdv ct us hu),fun base _ _=>?_⟩
 have Yw:XC P w K mg base "WrongParameterCount" Cw kw kC (-1):=⟨Xw.made,Xw.cls,Xw.m,Xw.b,WD Xw.F FR bR mR hv hex⟩
 have Yl:XC P w K mg base "CodeTooLong" Cl kt kA (-2):=⟨Xl.made,Xl.cls,Xl.m,Xl.b,Tp Xl.F FR bR mR hv hex⟩
 have Yn:XC P w K mg base "NoCode" Cn jv i3 (-3):=⟨Xn.made,Xn.cls,Xn.m,Xn.b,K5 Xn.F FR bR mR hv hex⟩
 have Yd:XC P w K mg base "CodeTooDeep" Cd kB kz (-4):=⟨Xd.made,Xd.cls,Xd.m,Xd.b,TY Xd.F FR bR mR hv hex⟩
 have Yg:XC P w K mg base "WrongName" Cg ky kg (-8):=⟨Xg.made,Xg.cls,Xg.m,Xg.b,P0 Xg.F FR bR mR hv hex⟩
 have NN:NK P w K mg base C fN dN:=⟨KN.mk_,Th KN.F TN hZ,KN.b,KN.m⟩
 have kL:aL P w K mg base (bc P w) 4 cp cm ["self","count"] (lE C R CC Cn):=Qe a6.F g6 T Yn
 have i7:aL P w K mg base (bc P w) 4 c6 df ["self"] (jD C R CC Cn):=Qg U.F g6 T Yn
 have lb:aL P w K mg base (bc P w) 1 bt bE ["number"] Fb:=Jb ah TM
 have hy:RF P w K mg base C R CC Cn jv i3 fN cp c6 er fw bt dN cm df ez fy bE :=
  ⟨T,Yn,NN,kL,a6.me,a6.b,i7,U.me,U.b,Gu bv T NN,bv,Te c7 T NN,c7,lb,ah⟩
 have la:aL P w K mg base (bc P w) 5 eT e7 ["self","row"] (vd C R CC Cn):=KZ cq.F hy
 have ke:aL P w K mg base (bc P w) 6 e9 eW ["self","row"] (u9 C R CC Cn):=KJ a8.F T cq la
 have W:ChK P w K mg base CC fC fL dC dL:=⟨KC.mk_,T5 KC.F TC,KC.b,KC.m,Qn FL.F TC,FL.me,FL.b⟩
 have kU:aL P w K mg base (bc P w) 7 hS hQ ["self"] (Ey C R CC Cn):=S9 fE.F ⟨T,Qu ae.F hy W,ae.me,ae.b,Tu ag.F hy,ag.me,ag.b,Tv aE.F hy dG,aE.me,aE.b,ke,a8.me,a8.b,Tw cA.F hy,cA.me,cA.b⟩
 have kr:aL P w K mg base (bc P w) 3 bn bo ["row","n"] yX:=Qj O ea hL a0 ah eP TP TS TM
 have ko:aL P w K mg base (bc P w) 4 cv cS ["code","n"] (N8 K Cn):=WR aC O kr Yn TP TS
 have kd:aL P w K mg base (bc P w) 8 bi ba ["code","n"] (u_ K C Cn):=KQ S ⟨T,aC,ko,KR.mk_,Td KR.F TR,KR.b,KR.m,kU,fE.me,fE.b,i7,U.me,U.b⟩
 have kS:aL P w K mg base (bc P w) 35 e3 fb ["node"] (E_ C 32):=Tj cj TN gX fk c8 gj TQ hZ kX 32
 have js:aL P w K mg base (bc P w) 4 b6 b9 ["n"] (NT Cw):=WM aw Yw TU
 have iL:aL P w K mg base (bc P w) 4 et ek ["numbers"] (N6 K Cl):=WQ bx Yl TU
 have ja:aL P w K mg base (bc P w) 36 eH eA ["node"] (zm C Cd):=Qt bP cj kS TN Yd TU
 have kc:aL P w K mg base (bc P w) 37 e4 eL ["n","numbers"] (yW K C Cl Cn Cd):=Qc cg bx iL S kd bP ja
 have im:aL P w K mg base (bc P w) 1 d6 dE ["name","head","tail","count"] lD:=KH J i4 hint i6
 have kQ:aL P w K mg base (bc P w) 2 dt dr ["name"] N5:=WP a1 TM J im
 have kx:aL P w K mg base (bc P w) 4 a5 a7 ["name","n"] (Fg Cg):=T6 L J im a1 kQ Yg TS
 have ka:aL P w K mg base (bc P w) 4 aT ax ["name","count"] (vh Cg):=K_ D J im Yg TS
 have kR:aL P w K mg base (bc P w) 5 b2 bX ["node","n"] (Fd C):=Tq ac TN TP TQ L kx D ka
 have kD:aL P w K mg base (bc P w) 6 b5 cf ["node","sizes","n"] (NZ C):=WN av TN TP TQ ac kR
 have kM:aL P w K mg base (bc P w) 39 cE c1 ["node","n"] (uD C 32):=Qo aI TN TP iP av kD 32
 have ku:aL P w K mg base (bc P w) 40 gx gS ["node","n"] (vg C):=K9 eK aI kM hg
 have TF:CF K mg:=⟨hL,iS⟩
 have TA:CA K mg:=⟨gc 29 rfl,gc 30 rfl,gc 31 rfl,gc 32 rfl,gc 33 rfl,gc 34 rfl,gc 35 rfl,gc 36 rfl,gc 37 rfl,gc 38 rfl,gc 39 rfl,gc 40 rfl,gc 41 rfl,gc 42 rfl,gc 43 rfl,gc 44 rfl,gc 45 rfl,gc 46 rfl,gc 47 rfl,gc 48 rfl,gc 49 rfl,gc 50 rfl⟩
 have TX:FX P w K mg base C fN dN:=⟨TN,TP,TQ,TA,gc 22 rfl,NN⟩
 have iX:aL P w K mg base (bc P w) 1 f6 fG ["value"] uC:=Qi bS TF
 have i9:aL P w K mg base (bc P w) 2 eo el ["numerator","denominator"] pL:=K6 af TF a0
 have i5:aL P w K mg base (bc P w) 3 hJ hG ["left","right"] uE:=Qv eI af i9
 have il:aL P w K mg base (bc P w) 3 eS e6 ["left","right"] vf:=Tn Z af i9
 have i2:aL P w K mg base (bc P w) 4 em ev ["left","right"] zj:=Tz ai Z il cN
 have GRE:aL P w K mg base (bc P w) 5 gv gy ["left","right"] Ez:=Tc eB eI i5 b1 Z il ai i2
 have kb:aL P w K mg base (bc P w) 2 cc cb ["value","times"] za:=Qm al hY bS iX
 have kf:aL P w K mg base (bc P w) 3 gr gz ["value","exponent"] qZ:=Gq eJ TF TA al kb cN
 have kk:aL P w K mg base (bc P w) 2 ed d8 ["operation","value"] EY:=Tg bb TF TA b1 f8 gL
 have kT:aL P w K mg base (bc P w) 2 f0 gg ["operation","left","right"] Oe:=WW ef TA eg f8
 have ki:aL P w K mg base (bc P w) 6 fe eR ["operation","left","right"] Ex:=S7 ck TA ⟨eI,i5,b1,Z,il,cN,ai,i2,eB,GRE,eJ,kf⟩
 have kG:aL P w K mg base (bc P w) 7 dQ ee ["operation","left","right"] Ny:=S8 a9 TA ef kT ck ki bS iX
 have kH:aL P w K mg base (bc P w) 2 de c9 ["operation","values"] yZ:=Ql a2 TA eg
 have hR:aL P w K mg base (bc P w) 1 dn c5 ["node"] (jE C):=Qh j TX
 have iA:aL P w K mg base (bc P w) 3 cK cC ["value"] (qY C):=S_ z TX
 have kK:aL P w K mg base (bc P w) 2 bq bp ["node"] (Fe C):=Tr Y TX aS (P_ aS TX)
 have kN:aL P w K mg base (bc P w) 2 ft fv ["node"] (Ob C):=WT c4 TX j hR
 have kP:aL P w K mg base (bc P w) 4 cx cL ["node"] (HY C):=WK ay TX j hR z iA b0 (Qp b0 TX)
 have kl:aL P w K mg base (bc P w) 5 da dv ["node"] (V5 C):=Yv a3 TX j hR z iA ay kP
 have kv:aL P w K mg base (bc P w) 8 fz fi ["node","values"] (Nz C):=WL db TX bb kk a9 kG a2 kH
 have kn:aL P w K mg base (bc P w) 41 hj hb ["node"] (zg C 32):=K8 ff TX ⟨j,hR,z,iA,Y,kK,c4,kN,a3,kl,db,kv,i8⟩ 32
 exact Qs fm mR aw js cg kc ff kn eK ku g5 (TJ g5 TU) Xw.cls Xl.cls Xn.cls Xd.cls Xw.ex Xl.ex Xn.ex Xd.ex
end SB
end
section
namespace SB
open PySem PySem.Spec PyProof.Rows L2
open PySem.W (Codec OpenSpec)
variable {P:Program} {w:World} {K:PySem.W.Frag} {mg:Str→Option Value} {base:Heap}
theorem VG{r:OpenSpec}{k:Nat}{q:Program}{D:List Str}{Y:(Str→Option Value)→Heap→Prop}{J:World→Heap→Prop}{d:DefRec}{K:Params→PySem.W.Frag}{ps:List Str}{sp:PySem.W.Frag→Sp}
  (j:r.wellSaid=true) (O:d.params.defaults=[]) (G:r.args.length=ps.length) (hr:bB k callerA) (Z:∀(w:World)(h:Heap),J w h→(K w.params).In h)
  (F:∀(w:World)(mg:Str→Option Value)(S:Addr)(h:Heap),J w h→(K w.params).In h→h.Ns mainGlobals mg→mg d.name=some (.ref S) →
   ∃fd:FuncData,(∀(s:Shared)(us:List Value),us.length=ps.length→BindsTo s fd ⟨us,[]⟩ (ps.zip us))∧∀base:Heap,(K w.params).In base→base.Ns mainGlobals mg→aL r.prog w (K w.params) mg base (XL.bc r.prog w) k S fd ps (sp (K w.params)))
  (L:∀(K:PySem.W.Frag)(H:Hp)(xs:List V)(a:Codec.denoteAll r.args),kJ K H xs (Codec.encAll r.args a)→sp K xs H (fun v H'=>Dw K H' v (r.ret.enc (Codec.app r.args r.f a))) fun _ _ _=>False) :
  PySem.W.WalkOS q D Y J r d [] (fun f vs=>PySem.call f vs) :=
 JX (K:=K) (CX:=fun w=>XL.bc r.prog w) (sp:=fun w=>sp (K w.params)) j O G hr Z F (fun w H xs a _ _ _ U=>L (K w.params) H xs a U) fun w H s e s' z=>by
  obtain⟨_,_,_,_,_,_,_,_,_,_,q⟩:=z
  exact q
end SB
open PySem PySem.W PyProof.Rows
set_option maxRecDepth 100000 in
set_option maxHeartbeats 0 in
theorem PySem.Challenge.cw_stackback_s03_fold_holds : PySem.Challenge.rw_stackback_s03_fold.Holds := by
 w_on;k_headS;(case hw=>exact⟨[.int 0,.list []],by decide +kernel,by decide +kernel⟩)
 k_fillS
 refine SB.VG (r:=PySem.Challenge.rw_stackback_s03_fold) (k:=67) (ps:=["n","code"]) (sp:=SB.zc) (by decide +kernel) rfl rfl ⟨rfl,by decide,by decide⟩ (fun w h Y=>PySem.W.kIn_of Y) ?jF ?jS
 case jF =>
  intro w mg fa h Y KX G hmg
  refine' SB.Xm KX G hmg ?jcs ?jab ?jkd ?jh0 ?jh1 ?jh2 ?jh3 ?jh4 ?jh5 ?jh6 ?jh7 ?jh8 ?jh9 ?jh10 ?jh11 ?jh12 ?jh13 ?jh14 ?jh15 ?jh16 ?jh17 ?jh18 ?jh19 ?jh20 ?jh21 ?jh22 ?jh23 ?jh24 ?jh25 ?jh26 ?jh27 ?jh28 ?jh29 ?jh30 ?jh31 ?jh32 ?jh33 ?jh34 ?jh35 ?jh36 ?jh37 ?jh38 ?jh39 ?jh40 ?jh41 ?jh42 ?jh43 ?jh44 ?jh45 ?jh46 ?jh47 ?jh48 ?jh49 ?jh50 ?jh51 ?jh52 ?jh53 ?jh54 ?jh55 ?jh56 ?jhN ?jhC ?jhR ?jhX
  (case jcs=>kernel_rfl)
  (case jab=>kernel_rfl)
  (case jkd =>
   refine' SB.kdx KX G ?jd_a ?jd_l ?jd_s ?jd_e
   (case jd_a=>k_is);(case jd_l=>k_is);(case jd_s=>rfl)
   exact⟨⟨_,_,rfl,rfl⟩,rfl,⟨_,_,rfl,rfl⟩,rfl,⟨_,_,rfl,rfl⟩,rfl,⟨_,_,rfl,rfl⟩,rfl,⟨_,_,rfl,rfl⟩,rfl,⟨_,_,rfl,rfl⟩,rfl,⟨_,_,rfl,rfl⟩,rfl,trivial⟩)
  (case jh0 =>
   refine' SB.gG SB.Ht KX G ?jh0_a ?jh0_l ?jh0_c ?jh0_k
   (case jh0_a=>k_is);(case jh0_l=>k_is);(case jh0_c=>k_is);(case jh0_k=>k_is))
  (case jh1 =>
   refine' SB.gG SB.DK KX G ?jh1_a ?jh1_l ?jh1_c ?jh1_k
   (case jh1_a=>k_is);(case jh1_l=>k_is);(case jh1_c=>k_is);(case jh1_k=>k_is))
  (case jh2 =>
   refine' SB.gG SB.Aj KX G ?jh2_a ?jh2_l ?jh2_c ?jh2_k
   (case jh2_a=>k_is);(case jh2_l=>k_is);(case jh2_c=>k_is);(case jh2_k=>k_is))
  (case jh3 =>
   refine' SB.gG SB.uo KX G ?jh3_a ?jh3_l ?jh3_c ?jh3_k
   (case jh3_a=>k_is);(case jh3_l=>k_is);(case jh3_c=>k_is);(case jh3_k=>k_is))
  (case jh4 =>
   refine' SB.gG SB.qL KX G ?jh4_a ?jh4_l ?jh4_c ?jh4_k
   (case jh4_a=>k_is);(case jh4_l=>k_is);(case jh4_c=>k_is);(case jh4_k=>k_is))
  (case jh5 =>
   refine' SB.gG SB.sZ KX G ?jh5_a ?jh5_l ?jh5_c ?jh5_k
   (case jh5_a=>k_is);(case jh5_l=>k_is);(case jh5_c=>k_is);(case jh5_k=>k_is))
  (case jh6 =>
   refine' SB.gG SB.qG KX G ?jh6_a ?jh6_l ?jh6_c ?jh6_k
   (case jh6_a=>k_is);(case jh6_l=>k_is);(case jh6_c=>k_is);(case jh6_k=>k_is))
  (case jh7 =>
   refine' SB.gG SB.xT KX G ?jh7_a ?jh7_l ?jh7_c ?jh7_k
   (case jh7_a=>k_is);(case jh7_l=>k_is);(case jh7_c=>k_is);(case jh7_k=>k_is))
  (case jh8 =>
   refine' SB.gG SB.pC KX G ?jh8_a ?jh8_l ?jh8_c ?jh8_k
   (case jh8_a=>k_is);(case jh8_l=>k_is);(case jh8_c=>k_is);(case jh8_k=>k_is))
  (case jh9 =>
   refine' SB.gG SB.jy KX G ?jh9_a ?jh9_l ?jh9_c ?jh9_k
   (case jh9_a=>k_is);(case jh9_l=>k_is);(case jh9_c=>k_is);(case jh9_k=>k_is))
  (case jh10 =>
   refine' SB.gG SB.xV KX G ?jh10_a ?jh10_l ?jh10_c ?jh10_k
   (case jh10_a=>k_is);(case jh10_l=>k_is);(case jh10_c=>k_is);(case jh10_k=>k_is))
  (case jh11 =>
   refine' SB.gG SB.ut KX G ?jh11_a ?jh11_l ?jh11_c ?jh11_k
   (case jh11_a=>k_is);(case jh11_l=>k_is);(case jh11_c=>k_is);(case jh11_k=>k_is))
  (case jh12 =>
   refine' SB.gG SB.Ah KX G ?jh12_a ?jh12_l ?jh12_c ?jh12_k
   (case jh12_a=>k_is);(case jh12_l=>k_is);(case jh12_c=>k_is);(case jh12_k=>k_is))
  (case jh13 =>
   refine' SB.gG SB.jx KX G ?jh13_a ?jh13_l ?jh13_c ?jh13_k
   (case jh13_a=>k_is);(case jh13_l=>k_is);(case jh13_c=>k_is);(case jh13_k=>k_is))
  (case jh14 =>
   refine' SB.gG SB.n_ KX G ?jh14_a ?jh14_l ?jh14_c ?jh14_k
   (case jh14_a=>k_is);(case jh14_l=>k_is);(case jh14_c=>k_is);(case jh14_k=>k_is))
  (case jh15 =>
   refine' SB.gG SB.uw KX G ?jh15_a ?jh15_l ?jh15_c ?jh15_k
   (case jh15_a=>k_is);(case jh15_l=>k_is);(case jh15_c=>k_is);(case jh15_k=>k_is))
  (case jh16 =>
   refine' SB.gG SB.wZ KX G ?jh16_a ?jh16_l ?jh16_c ?jh16_k
   (case jh16_a=>k_is);(case jh16_l=>k_is);(case jh16_c=>k_is);(case jh16_k=>k_is))
  (case jh17 =>
   refine' SB.gG SB.xR KX G ?jh17_a ?jh17_l ?jh17_c ?jh17_k
   (case jh17_a=>k_is);(case jh17_l=>k_is);(case jh17_c=>k_is);(case jh17_k=>k_is))
  (case jh18 =>
   refine' SB.gG SB.sY KX G ?jh18_a ?jh18_l ?jh18_c ?jh18_k
   (case jh18_a=>k_is);(case jh18_l=>k_is);(case jh18_c=>k_is);(case jh18_k=>k_is))
  (case jh19 =>
   refine' SB.gG SB.qJ KX G ?jh19_a ?jh19_l ?jh19_c ?jh19_k
   (case jh19_a=>k_is);(case jh19_l=>k_is);(case jh19_c=>k_is);(case jh19_k=>k_is))
  (case jh20 =>
   refine' SB.gG SB.jl KX G ?jh20_a ?jh20_l ?jh20_c ?jh20_k
   (case jh20_a=>k_is);(case jh20_l=>k_is);(case jh20_c=>k_is);(case jh20_k=>k_is))
  (case jh21 =>
   refine' SB.gG SB.iQ KX G ?jh21_a ?jh21_l ?jh21_c ?jh21_k
   (case jh21_a=>k_is);(case jh21_l=>k_is);(case jh21_c=>k_is);(case jh21_k=>k_is))
  (case jh22 =>
   refine' SB.gG SB.nZ KX G ?jh22_a ?jh22_l ?jh22_c ?jh22_k
   (case jh22_a=>k_is);(case jh22_l=>k_is);(case jh22_c=>k_is);(case jh22_k=>k_is))
  (case jh23 =>
   refine' SB.gG SB.mL KX G ?jh23_a ?jh23_l ?jh23_c ?jh23_k
   (case jh23_a=>k_is);(case jh23_l=>k_is);(case jh23_c=>k_is);(case jh23_k=>k_is))
  (case jh24 =>
   refine' SB.gG SB.pB KX G ?jh24_a ?jh24_l ?jh24_c ?jh24_k
   (case jh24_a=>k_is);(case jh24_l=>k_is);(case jh24_c=>k_is);(case jh24_k=>k_is))
  (case jh25 =>
   refine' SB.gG SB.Mx KX G ?jh25_a ?jh25_l ?jh25_c ?jh25_k
   (case jh25_a=>k_is);(case jh25_l=>k_is);(case jh25_c=>k_is);(case jh25_k=>k_is))
  (case jh26 =>
   refine' SB.gG SB.Hv KX G ?jh26_a ?jh26_l ?jh26_c ?jh26_k
   (case jh26_a=>k_is);(case jh26_l=>k_is);(case jh26_c=>k_is);(case jh26_k=>k_is))
  (case jh27 =>
   refine' SB.gG SB.UL KX G ?jh27_a ?jh27_l ?jh27_c ?jh27_k
   (case jh27_a=>k_is);(case jh27_l=>k_is);(case jh27_c=>k_is);(case jh27_k=>k_is))
  (case jh28 =>
   refine' SB.gG SB.uq KX G ?jh28_a ?jh28_l ?jh28_c ?jh28_k
   (case jh28_a=>k_is);(case jh28_l=>k_is);(case jh28_c=>k_is);(case jh28_k=>k_is))
  (case jh29 =>
   refine' SB.gG SB.DQ KX G ?jh29_a ?jh29_l ?jh29_c ?jh29_k
   (case jh29_a=>k_is);(case jh29_l=>k_is);(case jh29_c=>k_is);(case jh29_k=>k_is))
  (case jh30 =>
   refine' SB.gG SB.Ro KX G ?jh30_a ?jh30_l ?jh30_c ?jh30_k
   (case jh30_a=>k_is);(case jh30_l=>k_is);(case jh30_c=>k_is);(case jh30_k=>k_is))
  (case jh31 =>
   refine' SB.gG SB.Hq KX G ?jh31_a ?jh31_l ?jh31_c ?jh31_k
   (case jh31_a=>k_is);(case jh31_l=>k_is);(case jh31_c=>k_is);(case jh31_k=>k_is))
  (case jh32 =>
   refine' SB.gG SB.DN KX G ?jh32_a ?jh32_l ?jh32_c ?jh32_k
   (case jh32_a=>k_is);(case jh32_l=>k_is);(case jh32_c=>k_is);(case jh32_k=>k_is))
  (case jh33 =>
   refine' SB.gG SB.DP KX G ?jh33_a ?jh33_l ?jh33_c ?jh33_k
   (case jh33_a=>k_is);(case jh33_l=>k_is);(case jh33_c=>k_is);(case jh33_k=>k_is))
  (case jh34 =>
   refine' SB.gG SB.Rp KX G ?jh34_a ?jh34_l ?jh34_c ?jh34_k
   (case jh34_a=>k_is);(case jh34_l=>k_is);(case jh34_c=>k_is);(case jh34_k=>k_is))
  (case jh35 =>
   refine' SB.gG SB.xU KX G ?jh35_a ?jh35_l ?jh35_c ?jh35_k
   (case jh35_a=>k_is);(case jh35_l=>k_is);(case jh35_c=>k_is);(case jh35_k=>k_is))
  (case jh36 =>
   refine' SB.gG SB.Hu KX G ?jh36_a ?jh36_l ?jh36_c ?jh36_k
   (case jh36_a=>k_is);(case jh36_l=>k_is);(case jh36_c=>k_is);(case jh36_k=>k_is))
  (case jh37 =>
   refine' SB.gG SB.uv KX G ?jh37_a ?jh37_l ?jh37_c ?jh37_k
   (case jh37_a=>k_is);(case jh37_l=>k_is);(case jh37_c=>k_is);(case jh37_k=>k_is))
  (case jh38 =>
   refine' SB.gG SB.Hr KX G ?jh38_a ?jh38_l ?jh38_c ?jh38_k
   (case jh38_a=>k_is);(case jh38_l=>k_is);(case jh38_c=>k_is);(case jh38_k=>k_is))
  (case jh39 =>
   refine' SB.gG SB.n6 KX G ?jh39_a ?jh39_l ?jh39_c ?jh39_k
   (case jh39_a=>k_is);(case jh39_l=>k_is);(case jh39_c=>k_is);(case jh39_k=>k_is))
  (case jh40 =>
   refine' SB.gG SB.Hs KX G ?jh40_a ?jh40_l ?jh40_c ?jh40_k
   (case jh40_a=>k_is);(case jh40_l=>k_is);(case jh40_c=>k_is);(case jh40_k=>k_is))
  (case jh41 =>
   refine' SB.gG SB.sX KX G ?jh41_a ?jh41_l ?jh41_c ?jh41_k
   (case jh41_a=>k_is);(case jh41_l=>k_is);(case jh41_c=>k_is);(case jh41_k=>k_is))
  (case jh42 =>
   refine' SB.gG SB.DR KX G ?jh42_a ?jh42_l ?jh42_c ?jh42_k
   (case jh42_a=>k_is);(case jh42_l=>k_is);(case jh42_c=>k_is);(case jh42_k=>k_is))
  (case jh43 =>
   refine' SB.gG SB.xQ KX G ?jh43_a ?jh43_l ?jh43_c ?jh43_k
   (case jh43_a=>k_is);(case jh43_l=>k_is);(case jh43_c=>k_is);(case jh43_k=>k_is))
  (case jh44 =>
   refine' SB.gG SB.sV KX G ?jh44_a ?jh44_l ?jh44_c ?jh44_k
   (case jh44_a=>k_is);(case jh44_l=>k_is);(case jh44_c=>k_is);(case jh44_k=>k_is))
  (case jh45 =>
   refine' SB.gG SB.qI KX G ?jh45_a ?jh45_l ?jh45_c ?jh45_k
   (case jh45_a=>k_is);(case jh45_l=>k_is);(case jh45_c=>k_is);(case jh45_k=>k_is))
  (case jh46 =>
   refine' SB.gG SB.My KX G ?jh46_a ?jh46_l ?jh46_c ?jh46_k
   (case jh46_a=>k_is);(case jh46_l=>k_is);(case jh46_c=>k_is);(case jh46_k=>k_is))
  (case jh47 =>
   refine' SB.gG SB.qH KX G ?jh47_a ?jh47_l ?jh47_c ?jh47_k
   (case jh47_a=>k_is);(case jh47_l=>k_is);(case jh47_c=>k_is);(case jh47_k=>k_is))
  (case jh48 =>
   refine' SB.gG SB.ph KX G ?jh48_a ?jh48_l ?jh48_c ?jh48_k
   (case jh48_a=>k_is);(case jh48_l=>k_is);(case jh48_c=>k_is);(case jh48_k=>k_is))
  (case jh49 =>
   refine' SB.gG SB.Ag KX G ?jh49_a ?jh49_l ?jh49_c ?jh49_k
   (case jh49_a=>k_is);(case jh49_l=>k_is);(case jh49_c=>k_is);(case jh49_k=>k_is))
  (case jh50 =>
   refine' SB.gG SB.pA KX G ?jh50_a ?jh50_l ?jh50_c ?jh50_k
   (case jh50_a=>k_is);(case jh50_l=>k_is);(case jh50_c=>k_is);(case jh50_k=>k_is))
  (case jh51 =>
   refine' SB.gG SB.j6 KX G ?jh51_a ?jh51_l ?jh51_c ?jh51_k
   (case jh51_a=>k_is);(case jh51_l=>k_is);(case jh51_c=>k_is);(case jh51_k=>k_is))
  (case jh52 =>
   refine' SB.gG SB.Ai KX G ?jh52_a ?jh52_l ?jh52_c ?jh52_k
   (case jh52_a=>k_is);(case jh52_l=>k_is);(case jh52_c=>k_is);(case jh52_k=>k_is))
  (case jh53 =>
   refine' SB.gG SB.qK KX G ?jh53_a ?jh53_l ?jh53_c ?jh53_k
   (case jh53_a=>k_is);(case jh53_l=>k_is);(case jh53_c=>k_is);(case jh53_k=>k_is))
  (case jh54 =>
   refine' SB.gG SB.pD KX G ?jh54_a ?jh54_l ?jh54_c ?jh54_k
   (case jh54_a=>k_is);(case jh54_l=>k_is);(case jh54_c=>k_is);(case jh54_k=>k_is))
  (case jh55 =>
   refine' SB.gG SB.wY KX G ?jh55_a ?jh55_l ?jh55_c ?jh55_k
   (case jh55_a=>k_is);(case jh55_l=>k_is);(case jh55_c=>k_is);(case jh55_k=>k_is))
  (case jh56 =>
   refine' SB.gG SB.JK KX G ?jh56_a ?jh56_l ?jh56_c ?jh56_k
   (case jh56_a=>k_is);(case jh56_l=>k_is);(case jh56_c=>k_is);(case jh56_k=>k_is))
  (case jhN =>
   refine'⟨_,SB.Z7 SB.UJ KX G ?jhN_aC ?jhN_pg ?jhN_hd ?jhN_po ?jhN_sa ?jhN_mk ?jhN_kc ?jhN_a ?jhN_i ?jhN_l ?jhN_c ?jhN_k,?jhN_n0,?jhN_n1,?jhN_n2,?jhN_n3⟩
   (case jhN_aC=>k_is);(case jhN_pg=>k_is);(case jhN_hd=>k_is);(case jhN_po=>k_is);(case jhN_sa=>k_is);(case jhN_mk=>k_is);(case jhN_kc=>k_is);(case jhN_a=>k_is);(case jhN_i=>k_is);(case jhN_l=>k_is);(case jhN_c=>k_is);(case jhN_k=>k_is)
   (case jhN_n0=>unfold L2.bu;k_is);(case jhN_n1=>unfold L2.bu;k_is);(case jhN_n2=>unfold L2.bu;k_is);(case jhN_n3=>unfold L2.bu;k_is))
  (case jhC =>
   refine'⟨_,SB.Z7 SB.Ms KX G ?jhC_aC ?jhC_pg ?jhC_hd ?jhC_po ?jhC_sa ?jhC_mk ?jhC_kc ?jhC_a ?jhC_i ?jhC_l ?jhC_c ?jhC_k,?jhC_n0,?jhC_n1,?jhC_n2,?jhC_n3,?jhC_n4,?jhC_n5,(SB.M7 SB.Rn ?ja_limit ?ji_limit ?jl_limit ?jc_limit ?jk_limit)⟩
   (case jhC_aC=>k_is);(case jhC_pg=>k_is);(case jhC_hd=>k_is);(case jhC_po=>k_is);(case jhC_sa=>k_is);(case jhC_mk=>k_is);(case jhC_kc=>k_is);(case jhC_a=>k_is);(case jhC_i=>k_is);(case jhC_l=>k_is);(case jhC_c=>k_is);(case jhC_k=>k_is)
   (case jhC_n0=>unfold L2.bu;k_is);(case jhC_n1=>unfold L2.bu;k_is);(case jhC_n2=>unfold L2.bu;k_is);(case jhC_n3=>unfold L2.bu;k_is);(case jhC_n4=>unfold L2.bu;k_is);(case jhC_n5=>unfold L2.bu;k_is)
   (case ja_limit=>k_is);(case ji_limit=>k_is);(case jl_limit=>k_is);(case jc_limit=>k_is);(case jk_limit=>k_is))
  (case jhR =>
   refine'⟨_,SB.Z7 SB.Dz KX G ?jhR_aC ?jhR_pg ?jhR_hd ?jhR_po ?jhR_sa ?jhR_mk ?jhR_kc ?jhR_a ?jhR_i ?jhR_l ?jhR_c ?jhR_k,?jhR_n0,?jhR_n1,?jhR_n2,?jhR_n3,(SB.M7 SB.Uz ?ja_step ?ji_step ?jl_step ?jc_step ?jk_step),(SB.M7 SB.UG ?ja_free ?ji_free ?jl_free ?jc_free ?jk_free),(SB.M7 SB.xO ?ja_take_parts ?ji_take_parts ?jl_take_parts ?jc_take_parts ?jk_take_parts),(SB.M7 SB.Ae ?ja_take_only ?ji_take_only ?jl_take_only ?jc_take_only ?jk_take_only),(SB.M7 SB.xN ?ja_take_plain ?ji_take_plain ?jl_take_plain ?jc_take_plain ?jk_take_plain),(SB.M7 SB.xP ?ja_plain_node ?ji_plain_node ?jl_plain_node ?jc_plain_node ?jk_plain_node),(SB.M7 SB.um ?ja_begin_choice ?ji_begin_choice ?jl_begin_choice ?jc_begin_choice ?jk_begin_choice),(SB.M7 SB.ul ?ja_go_on_choice ?ji_go_on_choice ?jl_go_on_choice ?jc_go_on_choice ?jk_go_on_choice),(SB.M7 SB.wV ?ja_end_joining ?ji_end_joining ?jl_end_joining ?jc_end_joining ?jk_end_joining),(SB.M7 SB.sU ?ja_place_of_nine ?ji_place_of_nine ?jl_place_of_nine ?jc_place_of_nine ?jk_place_of_nine),(SB.M7 SB.Hn ?ja_end_ifs ?ji_end_ifs ?jl_end_ifs ?jc_end_ifs ?jk_end_ifs)⟩
   (case jhR_aC=>k_is);(case jhR_pg=>k_is);(case jhR_hd=>k_is);(case jhR_po=>k_is);(case jhR_sa=>k_is);(case jhR_mk=>k_is);(case jhR_kc=>k_is);(case jhR_a=>k_is);(case jhR_i=>k_is);(case jhR_l=>k_is);(case jhR_c=>k_is);(case jhR_k=>k_is)
   (case jhR_n0=>unfold L2.bu;k_is);(case jhR_n1=>unfold L2.bu;k_is);(case jhR_n2=>unfold L2.bu;k_is);(case jhR_n3=>unfold L2.bu;k_is)
   (case ja_step=>k_is);(case ji_step=>k_is);(case jl_step=>k_is);(case jc_step=>k_is);(case jk_step=>k_is)
   (case ja_free=>k_is);(case ji_free=>k_is);(case jl_free=>k_is);(case jc_free=>k_is);(case jk_free=>k_is)
   (case ja_take_parts=>k_is);(case ji_take_parts=>k_is);(case jl_take_parts=>k_is);(case jc_take_parts=>k_is);(case jk_take_parts=>k_is)
   (case ja_take_only=>k_is);(case ji_take_only=>k_is);(case jl_take_only=>k_is);(case jc_take_only=>k_is);(case jk_take_only=>k_is)
   (case ja_take_plain=>k_is);(case ji_take_plain=>k_is);(case jl_take_plain=>k_is);(case jc_take_plain=>k_is);(case jk_take_plain=>k_is)
   (case ja_plain_node=>k_is);(case ji_plain_node=>k_is);(case jl_plain_node=>k_is);(case jc_plain_node=>k_is);(case jk_plain_node=>k_is)
   (case ja_begin_choice=>k_is);(case ji_begin_choice=>k_is);(case jl_begin_choice=>k_is);(case jc_begin_choice=>k_is);(case jk_begin_choice=>k_is)
   (case ja_go_on_choice=>k_is);(case ji_go_on_choice=>k_is);(case jl_go_on_choice=>k_is);(case jc_go_on_choice=>k_is);(case jk_go_on_choice=>k_is)
   (case ja_end_joining=>k_is);(case ji_end_joining=>k_is);(case jl_end_joining=>k_is);(case jc_end_joining=>k_is);(case jk_end_joining=>k_is)
   (case ja_place_of_nine=>k_is);(case ji_place_of_nine=>k_is);(case jl_place_of_nine=>k_is);(case jc_place_of_nine=>k_is);(case jk_place_of_nine=>k_is)
   (case ja_end_ifs=>k_is);(case ji_end_ifs=>k_is);(case jl_end_ifs=>k_is);(case jc_end_ifs=>k_is);(case jk_end_ifs=>k_is))
  (case jhX =>
   refine'⟨_,⟨PySem.W.mg_of KX G ?jX_aR,_,_,⟨?jX_ga,?jX_rd,?jX_at,?jX_kp⟩,L2.rW ?jX_l ?jX_c ?jX_k,L2.kZ.binds (L2.rW ?jX_l ?jX_c ?jX_k) SB.Ho⟩,(SB.Yo SB.j5 KX G ?jaC_r0 ?jcls_r0 ?jkc_r0 ?ja_r0 ?ji_r0 ?jl_r0 ?jc_r0 ?jk_r0 ?jov_r0 ?jsa_r0 ?jtk_r0 ?jhd_r0 ?jga_r0 ?jgh_r0 ?jnn_r0 ?jex_r0),(SB.Yo SB.wW KX G ?jaC_r1 ?jcls_r1 ?jkc_r1 ?ja_r1 ?ji_r1 ?jl_r1 ?jc_r1 ?jk_r1 ?jov_r1 ?jsa_r1 ?jtk_r1 ?jhd_r1 ?jga_r1 ?jgh_r1 ?jnn_r1 ?jex_r1),(SB.Yo SB.Mr KX G ?jaC_r2 ?jcls_r2 ?jkc_r2 ?ja_r2 ?ji_r2 ?jl_r2 ?jc_r2 ?jk_r2 ?jov_r2 ?jsa_r2 ?jtk_r2 ?jhd_r2 ?jga_r2 ?jgh_r2 ?jnn_r2 ?jex_r2),(SB.Yo SB.wX KX G ?jaC_r3 ?jcls_r3 ?jkc_r3 ?ja_r3 ?ji_r3 ?jl_r3 ?jc_r3 ?jk_r3 ?jov_r3 ?jsa_r3 ?jtk_r3 ?jhd_r3 ?jga_r3 ?jgh_r3 ?jnn_r3 ?jex_r3),(SB.Yo SB.Af KX G ?jaC_r4 ?jcls_r4 ?jkc_r4 ?ja_r4 ?ji_r4 ?jl_r4 ?jc_r4 ?jk_r4 ?jov_r4 ?jsa_r4 ?jtk_r4 ?jhd_r4 ?jga_r4 ?jgh_r4 ?jnn_r4 ?jex_r4)⟩
   (case jX_aR=>k_is);(case jX_ga=>k_is);(case jX_rd=>k_is);(case jX_at=>k_is);(case jX_kp=>k_is);(case jX_l=>k_is);(case jX_c=>k_is);(case jX_k=>k_is)
   (case jaC_r0=>k_is)
   (case jcls_r0 =>
    refine' SB.XR ?jlk_r0 ?je1_r0 ?je2_r0 ?je3_r0 ?je4_r0
    (case jlk_r0=>k_is)
    all_goals kernel_rfl)
   (case jkc_r0=>k_is);(case ja_r0=>k_is);(case ji_r0=>k_is);(case jl_r0=>k_is);(case jc_r0=>k_is);(case jk_r0=>k_is)
   (case jov_r0=>kernel_rfl);(case jsa_r0=>k_is);(case jtk_r0=>k_is);(case jhd_r0=>k_is);(case jga_r0=>k_is);(case jgh_r0=>k_is);(case jnn_r0=>k_is);(case jex_r0=>kernel_rfl)
   (case jaC_r1=>k_is)
   (case jcls_r1 =>
    refine' SB.XR ?jlk_r1 ?je1_r1 ?je2_r1 ?je3_r1 ?je4_r1
    (case jlk_r1=>k_is)
    all_goals kernel_rfl)
   (case jkc_r1=>k_is);(case ja_r1=>k_is);(case ji_r1=>k_is);(case jl_r1=>k_is);(case jc_r1=>k_is);(case jk_r1=>k_is)
   (case jov_r1=>kernel_rfl);(case jsa_r1=>k_is);(case jtk_r1=>k_is);(case jhd_r1=>k_is);(case jga_r1=>k_is);(case jgh_r1=>k_is);(case jnn_r1=>k_is);(case jex_r1=>kernel_rfl)
   (case jaC_r2=>k_is)
   (case jcls_r2 =>
    refine' SB.XR ?jlk_r2 ?je1_r2 ?je2_r2 ?je3_r2 ?je4_r2
    (case jlk_r2=>k_is)
    all_goals kernel_rfl)
   (case jkc_r2=>k_is);(case ja_r2=>k_is);(case ji_r2=>k_is);(case jl_r2=>k_is);(case jc_r2=>k_is);(case jk_r2=>k_is)
   (case jov_r2=>kernel_rfl);(case jsa_r2=>k_is);(case jtk_r2=>k_is);(case jhd_r2=>k_is);(case jga_r2=>k_is);(case jgh_r2=>k_is);(case jnn_r2=>k_is);(case jex_r2=>kernel_rfl)
   (case jaC_r3=>k_is)
   (case jcls_r3 =>
    refine' SB.XR ?jlk_r3 ?je1_r3 ?je2_r3 ?je3_r3 ?je4_r3
    (case jlk_r3=>k_is)
    all_goals kernel_rfl)
   (case jkc_r3=>k_is);(case ja_r3=>k_is);(case ji_r3=>k_is);(case jl_r3=>k_is);(case jc_r3=>k_is);(case jk_r3=>k_is)
   (case jov_r3=>kernel_rfl);(case jsa_r3=>k_is);(case jtk_r3=>k_is);(case jhd_r3=>k_is);(case jga_r3=>k_is);(case jgh_r3=>k_is);(case jnn_r3=>k_is);(case jex_r3=>kernel_rfl)
   (case jaC_r4=>k_is)
   (case jcls_r4 =>
    refine' SB.XR ?jlk_r4 ?je1_r4 ?je2_r4 ?je3_r4 ?je4_r4
    (case jlk_r4=>k_is)
    all_goals kernel_rfl)
   (case jkc_r4=>k_is);(case ja_r4=>k_is);(case ji_r4=>k_is);(case jl_r4=>k_is);(case jc_r4=>k_is);(case jk_r4=>k_is)
   (case jov_r4=>kernel_rfl);(case jsa_r4=>k_is);(case jtk_r4=>k_is);(case jhd_r4=>k_is);(case jga_r4=>k_is);(case jgh_r4=>k_is);(case jnn_r4=>k_is);(case jex_r4=>kernel_rfl))
 case jS =>
  intro K H xs a hx
  cases hx with
  | cons h1 h2 =>
   cases h2 with
   | cons h2 h3 =>
    cases h3
    cases h1
    cases h2 with
    | lst hs ha =>
     have e:=L2.Jo a.2.1 _ ha
     subst e
     exact⟨_,_,a.2.1,rfl,hs,fun l H' _ _ hl=>.lst (L2.bF.of hl) (L2.Jy _)⟩
end
