import PyProof.Rows.All
import Wide.All
import OpenK.AllK
import PySem.Challenge.RW_setsays_k57_lines_refused
set_option compiler.extract_closed false
set_option bootstrap.genMatcherCode false
set_option genSizeOf false
set_option genSizeOfSpec false
set_option maxHeartbeats 4000000
noncomputable section
local macro_rules|`(tactic|omega)=>`(tactic|first|assumption|exact Nat.le_refl _|exact Nat.le_add_left _ _|exact Nat.le_add_right _ _|exact Nat.le_of_lt (by assumption)|exact Nat.le_of_succ_le_succ (by assumption)|exact Nat.lt_of_succ_lt (by assumption)|exact Nat.le_of_succ_le (by assumption)|exact Nat.lt_of_succ_lt_succ (by assumption)|exact Nat.le_trans (by assumption) (by decide)|exact Nat.lt_of_le_of_lt (by assumption) (by decide)|exact Nat.min_le_left _ _|decide|lia|omega+splitDisjunctions)
local macro_rules|`(tactic|let $d:letDecl)=>do
 match d with
 |`(letDecl|$p:term:=$e)=>
  let rec go:Nat->Lean.Syntax->Lean.MacroM (Lean.TSyntax `rcasesPat)
   |0,_=>Lean.Macro.throwUnsupported
   |n+1,s=>do match (⟨s⟩:Lean.Term) with
    |`(($a,$b,*))=>do
     let x<-(#[a]++b.getElems).mapM λx=>go n x.raw
     let x<-x.mapM λx=>`(Lean.Parser.Tactic.rcasesPatMed|$x:rcasesPat)
     let x:Array (Lean.TSyntax `Lean.Parser.Tactic.rcasesPatLo)<-x.mapM λx=>`(Lean.Parser.Tactic.rcasesPatLo|$x:rcasesPatMed)
     `(rcasesPat|⟨$x,*⟩)
    |`(_)=>`(rcasesPat|_)
    |`($i:ident)=>`(rcasesPat|$i:ident)
    |_=>Lean.Macro.throwUnsupported
  let q<-go 9 p
  `(tactic|obtain $q:rcasesPat:=$e)
 |_=>`(tactic|have $d:letDecl)
local macro_rules|`(tactic|show $e:term)=>`(tactic|exact $e)
local macro_rules|`(tactic|apply $e:term)=>`(tactic|refine $e)
set_option hygiene false
local macro_rules|`(tactic|nofun)=>`(tactic|first|(cases h;subst_vars;rfl)|(rcases h with ⟨_,rfl,_⟩;rfl)|(rcases h with ⟨_,_,rfl,_⟩;rfl)|(rcases h with ⟨_,_,_,rfl,_⟩;rfl)|(rcases h with ⟨_,_,_,_,rfl,_⟩;rfl)|(rcases h with ⟨_,_,_,_,_,rfl,_⟩;rfl)|(rcases h with ⟨_,_,_,_,_,_,rfl,_⟩;rfl)|(rcases h with ⟨_,_,_,_,_,_,_,rfl,_⟩;rfl)|(rcases h with ⟨_,_,_,_,_,_,_,_,rfl,_⟩;rfl)|(rcases h with ⟨_,_,_,_,_,_,_,_,_,rfl,_⟩;rfl)|(rcases h with ⟨_,_,_,_,_,_,_,_,_,_,rfl,_⟩;rfl))
set_option hygiene true
universe u v
theorem R{d:Sort u}{a:d}:a=a:=rfl
theorem Xp{c:Prop}{h:Decidable c}(n:¬c){d:Sort u}{t e:d}:ite c t e=e:=if_neg n
theorem Xq{c:Prop}{h:Decidable c}(n:c){d:Sort u}{t e:d}:ite c t e=t:=if_pos n
theorem Xa{a b:Prop}(h:a)(n:¬a):b:=absurd h n
theorem Xf{p:Prop}[i:Decidable p](h:¬p):decide p=false:=decide_eq_false h
theorem Xg{p:Prop}[i:Decidable p](h:p):decide p=true:=decide_eq_true h
open PySem renaming Addr → Ad,Value → Va
open Option renaming some → G,none → B
open Bool renaming true → N,false → Fa
set_option Elab.async false
set_option linter.all false
set_option maxRecDepth 100000
namespace PySem.W.Fast
abbrev Z:=Nat
def tw1845493904131523102:=Z
def tw9983935760241172829:=Z
def tw17248723127819209706:=Z
def tw11897223782840936939:=Z
def tw6079187344203067272:=Z
def tw3704838835784390008:=Z
def tw3302811417325048628:=Z
def tw3921813302566528169:=Z
def tw12528721293666290470:=Z
def tw12629329570359442764:=Z
def tw2425915158028669301:=Z
def tw5939488772551659879:=Z
def tw17303171754315623386:=Z
def tw17186040353228855501:=Z
def tw13758886572044511055:=Z
def tw16960749861441929826:=Z
def tw2911320888559986973:=Z
def tw17548856452548062537:=Z
def tw17736576176992883017:=Z
def tw10973713330888040641:=Z
def tw14404858087532498792:=Z
def tw403469109178599704:=Z
def tw25481349117540430:=Z
def tw11725136227376399164:=Z
def tw5610846736298553199:=Z
def tw16919948864608603538:=Z
def tw3558698992631779528:=Z
def tw3720970405170366594:=Z
def tw7264096046717099785:=Z
def tw7010526503082130429:=Z
def tw5742593019574236082:=Z
def tw11593690852999459616:=Z
def tw4219525086013452820:=Z
def tw1426039163025394814:=Z
def tw364469574641551040:=Z
def tw458193150822557494:=Z
def tw7423886290518813959:=Z
def tw6640562318882502786:=Z
def tw18265531161220339579:=Z
def tw7007343376520843611:=Z
def tw10515012937034399179:=Z
def tw18008403900301762646:=Z
def tw11365936924650840993:=Z
def tw3450276488458835093:=Z
def tw3375057460188321634:=Z
def tw14678072303138634297:=Z
def tw12772585543002508241:=Z
def tw15668162899394828875:=Z
def tw6152071860249167435:=Z
def tw3890045312479836345:=Z
def tw4432696882315497185:=Z
def tw10773560197866110006:=Z
def tw17777881538788370283:=Z
def tw10447469443959813410:=Z
def tw6789391691469668130:=Z
def tw13195202737579115229:=Z
def tw11370362293830285689:=Z
def tw16650694349510481960:=Z
def tw7702557359998385182:=Z
def tw11152937896425033067:=Z
def tw1583082192504555227:=Z
def tw1706671325077604251:=Z
def tw16377472540828274903:=Z
def tw16177564472515902282:=Z
def tw17287578785476044135:=Z
def tw94312369156794807:=Z
def tw7874091595998357893:=Z
def tw4858342798584191801:=Z
def tw5064875532240029374:=Z
def tw6631215429657517785:=Z
def tw7691898122354419227:=Z
def tw7919678704030120392:=Z
def tw7436801061771752070:=Z
def tw1445692441522581213:=Z
def tw14360820061282994426:=Z
def tw11364337024742858680:=Z
def tw13598295994346881823:=Z
def tw5201439970778346952:=Z
def tw3797300690974233934:=Z
def tw13484413069630305440:=Z
def tw8388551247895793903:=Z
def tw12863423857544739882:=Z
def tw15934638170662338972:=Z
def tw9487836372720062715:=Z
def tw3166515960843161648:=Z
def tw16265753608964126237:=Z
def tw1080543337418065352:=Z
def tw4477720759430228282:=Z
def tw5878826673135620721:=Z
def tw15093368838134435:=Z
def tw11435391619590941314:=Z
def tw1935916103710862345:=Z
def tw12919030836724000111:=Z
def tw7856366617642422951:=Z
def tw17319465659006786200:=Z
def tw7991381263852058442:=Z
def tw9140988504525319348:=Z
def tw12549236495366979181:=Z
def tw12114802680203865219:=Z
def tw15797561266976653686:=Z
def tw4877520079002938526:=Z
def tw3723177373317537601:=Z
def tw2441244445479423082:=Z
def tw13937447743923076125:=Z
def tw12255659254239988888:=Z
def tw6489391182173414287:=Z
def tw11081201899694047314:=Z
def tw7471782390009903681:=Z
def tw17394426228497018588:=Z
def tw3019469949455086360:=Z
def tw9507497468520644574:=Z
def tw942869215506676227:=Z
def tw12502990643044651330:=Z
def tw10959502279142616385:=Z
def tw15603082487305424121:=Z
def tw15946059240643880343:=Z
def tw3481125642421782495:=Z
def tw8811829294995502691:=Z
def tw13218395427782074052:=Z
def tw9437125512719922277:=Z
def tw16293240915958999274:=Z
def tw11164126175202148545:=Z
def tw9531923861127612310:=Z
def tw1140207687960164541:=Z
def tw12646201633312866470:=Z
def tw8600396462605569934:=Z
def tw12541263485161198205:=Z
def tw7968951724926223929:=Z
def tw3928190779004742125:=Z
def tw4351698689999212943:=Z
def tw12585168246023265348:=Z
def tw8564130097255318471:=Z
def tw4011314796010634301:=Z
def tw9825204371644591898:=Z
def tw345614751814102749:=Z
def tw2906630234987049585:=Z
def tw8022574053685436727:=Z
def tw11314678246958923041:=Z
def tw10608706364209625476:=Z
def tw18272578698108203428:=Z
def tw13943940324916339923:=Z
def tw15484327021457262774:=Z
def tw8990612356016395962:=Z
def tw702434908443484134:=Z
def tw13537983921936202266:=Z
def tw16300821235226906413:=Z
def tw834649287068003534:=Z
def tw2219824416027681282:=Z
def tw5102564316427039747:=Z
def tw4965868089462060063:=Z
def tw657412986481394591:=Z
def tw14466069117565695546:=Z
def tw10634526335260786408:=Z
def tw15078077610679079894:=Z
def tw14215123122354833209:=Z
def tw12620750862402277421:=Z
def tw18254640258553435794:=Z
def tw6225532646710409926:=Z
def tw1406887157926730738:=Z
def tw7757829612694936006:=Z
def tw15892090399213116031:=Z
def tw13572190104796226573:=Z
def tw550970613757312479:=Z
def tw15449629156236113012:=Z
def tw5121324893827464432:=Z
def tw8799843197480935225:=Z
def tw9490309155736654723:=Z
def tw2761972055565042846:=Z
def tw15635021653711906561:=Z
def tw10405599694063812739:=Z
def tw2354034852605817712:=Z
def tw17320941017906573961:=Z
def tw13326879605935550310:=Z
def tw1541844247297520286:=Z
def tw12361726279443604072:=Z
def tw10418048365930485521:=Z
def tw15829547997167673982:=Z
def tw13354989398945762970:=Z
def tw8527514369018007257:=Z
def tw3682201383558988232:=Z
def tw4713069534419796162:=Z
def tw13933598072016657756:=Z
def tw8206308077353077152:=Z
def tw11594446826732008288:=Z
def tw4029000634431701355:=Z
def tw2154145614821177048:=Z
def tw13656641336819677139:=Z
def tw13112545718370287331:=Z
def tw11920347305827331542:=Z
def tw1495973284965917952:=Z
def tw10267624684649909220:=Z
def tw2913326399590932868:=Z
def tw6021518616687916795:=Z
def tw9735821931208282710:=Z
def tw1470940579560529589:=Z
def tw8243663711508983085:=Z
def tw10296619520700962666:=Z
def tw18122505570158028760:=Z
def tw524048258799688333:=Z
def tw15048338034750435528:=Z
def tw10336500330731997569:=Z
def tw12021309773596684918:=Z
def tw11584437843894268061:=Z
def tw16939963862100655999:=Z
def tw9704961292572253178:=Z
def tw6952005599824648004:=Z
def tw11674666907471650257:=Z
def tw1492534315095241964:=Z
def tw12253003181905998971:=Z
def tw16303290952775889906:=Z
def tw11035741090231338881:=Z
def tw14319998673970433405:=Z
def tw9308976407678652887:=Z
def tw11299500888830994319:=Z
def tw15673245096592354141:=Z
def tw1275438384871646307:=Z
def tw6832014229881987696:=Z
def tw12738888062330648496:=Z
def tw4690365415497170053:=Z
def tw10607058192282039685:=Z
def tw5814548082606291424:=Z
def tw3230255935634896069:=Z
def tw2611873140177220868:=Z
def tw6773530256975149701:=Z
def tw5898995299599593840:=Z
def tw8653466076819977750:=Z
def tw510474459344450861:=Z
def tw7222261686387887083:=Z
def tw15027230264651535303:=Z
def tw10385178431912962437:=Z
def tw11850468176616010314:=Z
def tw2621764990835653673:=Z
def tw5532230830803253278:=Z
def tw14385721587886636608:=Z
def tw17462214875643844242:=Z
def tw12277332928456287399:=Z
def tw11070629219782796279:=Z
def tw9617132747901357244:=Z
def tw11371428006593430020:=Z
def tw16601209679299077434:=Z
def tw16738802809170340383:=Z
def tw13715859635340528996:=Z
def tw7602320758946591936:=Z
def tw12549439521719691834:=Z
def tw17833299349283812095:=Z
def tw3658717247614812554:=Z
def tw12493575998441812055:=Z
def tw12854131776258026056:=Z
def tw7394711482365575798:=Z
def tw8310924538936311254:=Z
def tw10519803351992640348:=Z
def tw13118480719370024398:=Z
def tw12185636834206920843:=Z
def tw16621055288179733572:=Z
def tw17053860226579071322:=Z
def tw6534638269923451698:=Z
def tw2100303338328872314:=Z
def tw17526474709442782642:=Z
def tw9030311337530289954:=Z
def tw8890067713494089578:=Z
def tw17814170585569770555:=Z
def tw4550551621403207681:=Z
def tw18135836161813606872:=Z
def tw1791285225760201387:=Z
def tw16571092839454270792:=Z
def tw16370947409574807644:=Z
def tw2820001725760277863:=Z
def tw13839079010758941282:=Z
def tw9411876675700126472:=Z
def tw4147172054237745600:=Z
def tw6562495770406627015:=Z
def tw5618704081367992974:=Z
def tw3178918529748216085:=Z
def tw2011555492112828246:=Z
def tw13301291505750516960:=Z
def tw18440469551446415907:=Z
def tw6336810315096831058:=Z
def tw15535141418324576845:=Z
def tw13401354008174147642:=Z
def tw1969275052281309186:=Z
def tw15040187060045286449:=Z
def tw13395928122616157352:=Z
def tw7665099563914829251:=Z
def tw9143438935812720737:=Z
def tw2641776999433522293:=Z
def tw5268945621321606819:=Z
def tw749535203436275088:=Z
def tw13320229121842498971:=Z
def tw12273328002279823398:=Z
def tw6923828956726058166:=Z
def tw13330442626456223456:=Z
def tw10116655897132095901:=Z
def tw2778617374505699503:=Z
def tw14843347528962581828:=Z
def tw9682464776232955886:=Z
def tw7623038827320487181:=Z
def tw3813410779409231638:=Z
def tw17095139741727789705:=Z
def tw15672753558651411490:=Z
def tw14720310561434911567:=Z
def tw14511448695305008439:=Z
def tw14188994159716540630:=Z
def tw10444024752661012937:=Z
def tw2938962504937143400:=Z
def tw16863946444375655495:=Z
def tw15666685994828894687:=Z
def tw13921026743781489350:=Z
def tw12947404294107896272:=Z
def tw4062561085211183239:=Z
def tw10323030359388251718:=Z
def tw8231027407842749250:=Z
def tw2693249061775602646:=Z
def tw8935234141450513339:=Z
def tw3933184146734922484:=Z
def tw17258161852213530925:=Z
def tw917337710372036723:=Z
def tw3906453053357832964:=Z
def tw15699863016569598264:=Z
def tw8018907282174481353:=Z
def tw1916129475366820216:=Z
def tw8994995011787857516:=Z
def tw17785670394790641944:=Z
def tw13434053614691055782:=Z
def tw8831346728554376552:=Z
def tw16693665330406178084:=Z
def tw8863032751403379839:=Z
def tw4661913934292462982:=Z
def tw8358301076202330920:=Z
def tw2344292890008453064:=Z
def tw7541085803411327407:=Z
def tw9581593926909855932:=Z
def tw2504313450237132770:=Z
def tw16576805125047158556:=Z
def tw5425981583747230298:=Z
def tw3817821955130038182:=Z
def tw4660974710332887931:=Z
def tw3089454076476448162:=Z
def tw7024217113650771631:=Z
def tw16077915678027328600:=Z
def tw3861606038893987337:=Z
def tw7250266115057885554:=Z
def tw6495966422785669206:=Z
def tw13284986261401224365:=Z
def tw10215046895910327015:=Z
def tw17932610595878791321:=Z
def tw6215533152039126534:=Z
def tw6075535063484946855:=Z
def tw4125366037688262095:=Z
def tw15107956728174687201:=Z
def tw15097151832389050100:=Z
def tw12568553590447402063:=Z
def tw9157589350751304737:=Z
def tw772657874765288961:=Z
def tw5311949027486367893:=Z
def tw14352405326576224817:=Z
def tw13424009735776669124:=Z
def tw12910276793347104840:=Z
def tw2815197545554746675:=Z
def tw8653984309956016162:=Z
def tw8620533275595119947:=Z
def tw7827199926834777277:=Z
def tw8205921478930665647:=Z
def tw6823255452266843197:=Z
def tw5417864108911599316:=Z
def tw15968170299271303673:=Z
def tw12761712647346565970:=Z
def tw5720408105953493389:=Z
def tw4304239475801117149:=Z
def tw3907586277253645097:=Z
def tw3538019497977664112:=Z
def tw14793528613841356241:=Z
def tw11047751347631091827:=Z
def tw5732601891569811610:=Z
def tw3569682346032787453:=Z
def tw12535168219514665516:=Z
def tw11684820928529727840:=Z
def tw11433929975891882672:=Z
def tw10891832162847521679:=Z
def tw17442294656432587993:=Z
def tw14012828897847783752:=Z
def tw11766006601110418814:=Z
def tw10502333760148425580:=Z
def tw15328714800068425390:=Z
def tw13345255716235234187:=Z
def tw7194236489510154445:=Z
def tw5821911006821443499:=Z
def tw2955376334476329085:=Z
def tw251300949455718942:=Z
def tw17868243287415312093:=Z
def tw17052796983068791434:=Z
def tw15865710152223597601:=Z
def tw15621976337650108401:=Z
def tw1514344064824093552:=Z
def tw13342077861458292948:=Z
def tw12762170892830866863:=Z
def tw12544126094507759576:=Z
def tw946860814155284815:=Z
def tw3013017930218729373:=Z
def tw16569931499038282646:=Z
def tw10926737936791278328:=Z
def tw8462681007095224893:=Z
def tw5245458672508240684:=Z
def tw17688860007147443142:=Z
def tw17651009731352378086:=Z
def tw15104624696282731153:=Z
def tw14792473070074900555:=Z
def tw12307263872765737386:=Z
def tw10320752571988328849:=Z
def tw909209579666521076:=Z
def tw14097661504929121555:=Z
def tw8073348059362966656:=Z
def tw17635371195831389510:=Z
def tw12141376564654145885:=Z
def tw10363861559899566648:=Z
def tw15662631657644082128:=Z
def tw8667717744889200915:=Z
def tw502495836982246989:=Z
def tw2421380606649744575:=Z
def tw9178179058778410696:=Z
def tw7007480984082095211:=Z
def tw2562458989861277799:=Z
def tw2524090735876988561:=Z
def tw1845818362578280308:=Z
def tw14941578191834990718:=Z
def tw13702891178513515200:=Z
def tw8799371766316806195:=Z
def tw7463806764515090297:=Z
def tw6391278037306106111:=Z
def tw4710178389734660098:=Z
def tw2891220202907601008:=Z
def tw17732300699792209884:=Z
def tw16946864209008080458:=Z
def tw15500475492585482179:=Z
def tw11690546079099957906:=Z
def tw7627212981247519944:=Z
def tw660990302595897368:=Z
def tw5834721042618256061:=Z
def tw11867774271635991182:=Z
def tw11242382462594640402:=Z
def tw9605781566741075254:=Z
def tw3310003191857137361:=Z
def tw10115618877673005015:=Z
def tw243014645851030326:=Z
def tw3421782300755063950:=Z
def tw3315807339538290543:=Z
def tw16838607783343589375:=Z
def tw4698872473200378980:=Z
def tw14870904656566379462:=Z
def tw6568488023317353995:=Z
def tw3310474441111162943:=Z
def tw18057817570977750915:=Z
def tw5742238672392831559:=Z
def tw16496239058014000790:=Z
def tw5274323582478993231:=Z
def tw13092458314787671302:=Z
def tw7969766742950106731:=Z
def tw2772608487025113559:=Z
def tw17097572129063985214:=Z
def tw11215009313291275738:=Z
def tw3761220389164215930:=Z
def tw17871783018722114982:=Z
def tw16894146059907710441:=Z
def tw18093989898940529549:=Z
def tw4390279131836267088:=Z
def tw1047169307133417189:=Z
def tw7926837570122743213:=Z
def tw2126626906519902842:=Z
def tw11408032075819563114:=Z
def tw10996526213340549019:=Z
def tw10884504835522081619:=Z
def tw6138748847494444489:=Z
def tw3687594823114701914:=Z
def tw10683490133551891102:=Z
def tw16274425047615367574:=Z
def tw13045148607265153628:=Z
def tw13940807443798281087:=Z
def tw16478268676386189032:=Z
def tw17272878522769818577:=Z
def tw7601485478738791909:=Z
def tw6327129590609866705:=Z
def tw11616818752273162345:=Z
def tw6004625546920555698:=Z
def tw9261912173675001780:=Z
def tw7583253911553056191:=Z
def tw5299695273483502998:=Z
def tw3914406624783610863:=Z
def tw6310702670083243333:=Z
def tw3405933723016063254:=Z
def tw11039204249384436790:=Z
def tw10536855134227218326:=Z
def tw5369127667296710494:=Z
def tw8954915349175331789:=Z
def tw18240768071218748548:=Z
def tw6990771862922980847:=Z
def tw690076699259883706:=Z
def tw6634899264410076467:=Z
def tw10295489694689422546:=Z
def tw3188044218953437616:=Z
def tw6789528481574968856:=Z
def tw1018156635351747975:=Z
def tw15184719589391248835:=Z
def tw6055733791399981480:=Z
def tw8440458137534088382:=Z
def tw7763899285281672527:=Z
def tw2757542016783992952:=Z
def tw14258859123568034900:=Z
def tw3046510812258041633:=Z
def tw2202985319021082558:=Z
def tw10480276214492456264:=Z
def tw5522736162312235153:=Z
def tw7359527180395260068:=Z
def tw11521242049146232390:=Z
end PySem.W.Fast
set_option maxHeartbeats 0 in
open_top Tp for PySem.Challenge.rw_setsays_k57_lines_refused
open List renaming getElem?_eq_getElem → y00, length_map → y01, getD_eq_getElem?_getD → y02, getElem?_map → y04, size_toArray → y07, mem_cons_of_mem → y08, mem_cons → y09, mem_append_left → y0a, getElem_mem → y0b, mem_cons_self → y0c, getElem?_eq_some_iff → y0d, mem_singleton → y0e, mem_map → y0f, length_cons → y0i, length_append → y0j, not_mem_nil → y0l, take_of_length_le → y0n, map_cons → y0o, mem_append_right → y0p, mem_of_getElem? → y0q, all_eq_true → y0s, map_map → y0t, length_singleton → y0u, lookup_cons → y0w, mem_range → y0x, map_append → y0y, getElem?_eq_none → y0z, getElem?_append_left → y11, length_take → y12, getElem?_append_right → y13, take_add_one → y14, mem_append → y16, length_range → y18, getElem?_range → y1a, idxOf_lt_length_iff → y1e, getElem?_cons_succ → y1h, nodup_cons → y1j, length_nil → y1k, map_congr_left → y1l, length_filter_le → y1n, mem_flatMap → y1q, cons_append → y1r, getElem_of_mem → y1s, length_replicate → y1t, filter_cons_of_pos → y1v, filter_cons_of_neg → y1w, of_mem_zip → y1y, append_nil → y1z, all_map → y23, all_cons → y24, forIn_cons → y27, find?_cons → y28, ext_getElem? → y29, any_eq_true → y2a, range_succ_eq_map → y2b, drop_eq_nil_of_le → y2c, mem_filter → y2e, foldl_cons → y2f, ext_getElem → y2i, filterMap_cons → y2j, nil_append → y2k, idxOf_cons → y2l, getElem_idxOf → y2m, getElem?_cons_zero → y2n, filter_append → y2o, getElem?_set_self → y2p, foldl_append → y2q, forIn_nil → y2s, length_drop → y2u, sum_cons → y2v, any_cons → y2w, range_succ → y2x, map_nil → y30, nodup_append → y32, flatMap_cons → y33, filter_congr → y34, append_assoc → y35, getElem?_replicate → y36, getElem?_set_ne → y3d, nodup_nil → y3f, reverse_cons → y3i, all_eq_false → y3j, take_append_of_le_length → y3l, nodup_range → y3m, getElem_map → y3n, filter_map → y3p, exists_cons_of_ne_nil → y3q, getElem?_zip_eq_some → y3s, drop_eq_getElem_cons → y3t, length_erase_of_mem → y3u, getElem?_take_of_lt → y3v, sum_replicate_nat → y3x, length_pos_of_mem → y3y
open PySem.Heap renaming get?_push_of_some → y03, lt_size → y0g, get?_push_size → y0h, get?_update_other → y1d, size_push → y1g, get?_update_self → y1o
open Bool renaming and_eq_true → y05, false_ne_true → y0k, eq_false_iff → y19, false_and → y1b, true_and → y1c, eq_iff_iff → y1f, false_eq_true → y1u, and_false → y25, and_eq_true_iff → y2g, or_eq_true → y2y, or_false → y3h, false_or → y3w
open Nat renaming le_refl → y06, ne_of_lt → y0m, lt_of_lt_of_le → y0r, le_trans → y0v, zero_le → y17, le_of_lt → y1i, lt_irrefl → y1p, le_of_not_lt → y20, lt_trans → y22, lt_succ_of_lt → y26, ne_of_gt → y2d, succ_le_succ → y2h, lt_succ_self → y2t, le_of_succ_le_succ → y37, sub_self → y38, not_lt_zero → y39, le_add_left → y3a, mod_lt → y3b, not_succ_le_zero → y3c, mul_le_mul → y3e, le_succ → y3g, mul_comm → y3k, min_eq_left → y3o, zero_add → y3z, le_of_eq → y40
open Option renaming map_eq_some_iff → y10, getD_some → y15, map_some → y1x, toList_some → y21, isSome_iff_exists → y31
open Array renaming length_toList → y1m, getElem?_eq_some_iff → y2z
open Int renaming toNat_natCast → y2r, fdiv_eq_ediv_of_nonneg → y3r
open PySem renaming wpAny_bind → ia, wpAny_pure → ib, Shared → ig, sizeLine → ii, Program → ik, starEach → im, Around → io, wpAny_mono → ip, mainGlobals → ir, wpAny_field → iu, compareOp → iw, wpAny_holding → iy, cellsFrom → iz, wpAny_callSpecial?_slot → i0, wpAny_Call_Name_kw → i4, FuncData → i5, wpAny_setField_rec → i6, wpAny_call_entry → i7, boot_len → i8, Paired → i9, codeAny_mono → iA, builtinLookup_eq_fast → iB, wpAny_truthy_bool → iC, binaryOp → iD, sysModules → iE, rawInt → iF, wpAny_newObj_type → iG, wpAny_seqItems → iH, wpAny_loadPart_at → iI, codeAny_builtin → iJ, wpAny_execs_cons → iK, Arguments → iL, typeLookup_type → iM, backTo → iN, wpAny_call → iO, isSubtype_type → iQ, codeAny_call_function → iS, wpAny_specialOf → iT, wpAny_execs_nil → iU, wpAny_passesOwn → iW, letOwnedTupleGo → iX, bootBuiltins → iY, codeAny → iZ, codeAny_call_builtin → ja, wpAny_standAt → jb, sizeLine_eq → jc, builtinsNs → jd, call_meets → je, bindArgs → jf, wpAny_pyIter_list → jg, NameKind → jh, wpAny_newFunctionEnv_cells → ji, plainId_quiet → jj, ZipApart → jl, wpAny_updateSeq → jm, assignEach → jn, typeLookup → jo, sliceBounds → jp, GenState → jq, foldedSetIterable → jr, wpAny_pyIter_enum → js, codeAmong → jt, swapsWith → ju, wpAny_rule → jw, wpAny_pyIter_zip → jx, checkBuiltinCall → jy, behindInMarks → jz, InCallC → j0, wpAny_onRaise → j3, wpAny_letGo → j4, pyNext → j5, codeAny_of_tree → j6, IsEnum → j7, codeAny_func → j9, wpAny_typeOf → jA, storeName → jB, tupleKind_room_in1 → jC, wpAny_setField → jD, IsPair → jE, wpAny_letOwnedTupleGo_enum → jF, newFunctionEnv → jG, getItem → jH, findBy → jI, wpAny_attempt → jJ, tupleKind → jK, wpAny_isInstance → jL, Keyword → jN, recursionLimit → jO, subscripted → jP, wpAny_newTuple → jQ, wpAny_bindName → jR, BindsTo → jS, leaving → jT, callerA → jU, valueAt → jV, scanBound → jW, updateSeq → jX, IsPart → jY, qualnameIn → jZ, FuncBody → ld, pyIter → lf
open PyProof.Rows renaming boot_isinstance → iq, envOfC → iP, boot_tuple → iR, kindOf → jv, AllBare → j8, boot_all → jM, IntsAre → la
open PySem PySem.Spec PyProof.Rows
open PySem.W (Frag)
abbrev Y0:=Va->ig->Prop
abbrev Y1:=Str->Option Va
abbrev Y2:=List<|Ad×Obj
abbrev Y3:=List<|Pos×Str
abbrev Y4:=List<|Str×Ad
abbrev Y6:=List<|Nat×Str
abbrev Y8:=Array<|Option Va
abbrev Y9:=Option Va->ig->Prop
set_option hygiene false in
local macro_rules
| `(tactic|ac_rfl) => `(tactic|refine atom λzG zk=>?_)
set_option hygiene false in
local macro_rules
| `(tactic|infer_instance) => `(tactic|intro pins s σ H x y v u Q I rx ry h)
set_option hygiene false in
local macro_rules
| `(tactic|exfalso) => `(tactic|refine i4 (thn (zhv (pos:=p) hN hv hd hcd pins s σ H (λv H'=>v =.ref f/\H'=H) I (zf9 hs ⟨rfl,rfl⟩)) λu s1 zz=>ex5 zz λv H1 I1 r1 zq=>?_))
set_option hygiene false
local macro_rules|`(09)=>`(λvs H Q E h=>?_)
local macro_rules|`(51)=>`(λf cdv A outer s H vs Q E hr h=>?_)
local macro_rules|`(03)=>`(Cal P w K mg base)
local macro_rules|`(02)=>`(Inv X pins σ)
local macro_rules|`(00)=>`(by rfl)
local macro_rules|`(01)=>`(by omega)
local macro_rules|`(26)=>`(model X.prog X.w)
local macro_rules|`(05)=>`(by simp)
local macro_rules|`(06)=>`(by decide)
local macro_rules|`(52)=>`(by decide+kernel)
local macro_rules|`(08)=>`(Or.inl rfl)
local macro_rules|`(55)=>`(pa_c (pv 0) zaa)
local macro_rules|`(012)=>`(.Call (.Name x p) (e::es) [] pos)
local macro_rules|`(96)=>`(pa_c (pv 1) zaa)
local macro_rules|`(76)=>`(pa_c zae zaa)
local macro_rules|`(82)=>`(x==("__debug__":Str))
local macro_rules|`(95)=>`(defScope st)
local macro_rules|`(07)=>`(.ref a)
local macro_rules|`(078)=>`(s2.heap.push {cls:=.type "list",data:=.seq ([]:List Value).toArray})
local macro_rules|`(051)=>`(s.heap.objs.size+1)
local macro_rules|`(73)=>`(model prog w)
local macro_rules|`(56)=>`(nomark _)
local macro_rules|`(016)=>`(.ref s.heap.objs.size)
local macro_rules|`(42)=>`(.ref p)
local macro_rules|`(036)=>`((∀b,InCl cl b->H2 b=none))
local macro_rules|`(43)=>`(y06 _)
local macro_rules|`(094)=>`(k==NameKind.free&&env.scope.kind ==.function&&env.kindOf n==some .cell)
local macro_rules|`(39)=>`(zai K)
local macro_rules|`(93)=>`(Same.refl H)
local macro_rules|`(013)=>`(.frz o (.own c))
local macro_rules|`(53)=>`(.ref b)
local macro_rules|`(095)=>`(cloFd name qual params (.stmts body) scope cl ct (.ref c') pm)
local macro_rules|`(010)=>`(tl.map V.str)
local macro_rules|`(109)=>`(s.heap.push {cls:=.type "set",dict:=none,data:=.set #[] 0 (.fresh 0 0 led)})
local macro_rules|`(096)=>`(A.deeper (envL qual scope cl s.heap.objs.size f (.ref c')))
local macro_rules|`(097)=>`(cxLE P w K mg base Nq qual scope cl f0 cd A outer s0 H0 E)
local macro_rules|`(098)=>`(cxOf CX P w K mg base Nq qual scope f cdv A outer s H E)
local macro_rules|`(113)=>`((∀c o,c∉[z,ti,ro,j1,j2]->s.heap.get? c=some o->h'.get? c=some o))
local macro_rules|`(57)=>`(.ref f)
local macro_rules|`(71)=>`(.ref D)
local macro_rules|`(75)=>`(.lst ys)
local macro_rules|`(072)=>`(zax zbm (pv 0) zaf)
local macro_rules|`(74)=>`(.ref C)
local macro_rules|`(073)=>`(cxB X scope tn cp cl C s H fp)
local macro_rules|`(028)=>`(EP X pins σ Q)
local macro_rules|`(052)=>`(List.range xs.length)
local macro_rules|`(176)=>`(F.run X.A X.stack s1 H1 ⟨us,[]⟩ (us++[]) (vs++[]) Q E0 ht1 (hr.mono hle) I1.env0 (b s1 us I1.kIn hl) r2 q)
local macro_rules|`(044)=>`((false,eval e X.env))
local macro_rules|`(039)=>`(pa_c (pv 2) zaa)
local macro_rules|`(053)=>`(.Tuple elts x1 tpos)
local macro_rules|`(72)=>`(zap K)
local macro_rules|`(063)=>`(ha pins s σ H _ I h)
local macro_rules|`(099)=>`((f,{cls:=.type "function",data:=.func fd}))
local macro_rules|`(040)=>`(defBody st)
local macro_rules|`(054)=>`(upd H1 D (.lst []))
local macro_rules|`(014)=>`(model P w)
local macro_rules|`(085)=>`(zax zbm (zax zdi (pv 0) zaf) zaf)
local macro_rules|`(121)=>`(PySem.W.fnOf name qual params body scope dV kV doc pm an cdv ct)
local macro_rules|`(025)=>`(mixKind P w)
local macro_rules|`(99)=>`(.lst xs)
local macro_rules|`(023)=>`(start Nq vs)
local macro_rules|`(045)=>`(pa_c (pv 3) zaa)
local macro_rules|`(83)=>`(CompOk.of rfl 00 00)
local macro_rules|`(54)=>`(Or.inl 00)
local macro_rules|`(068)=>`(pa_c zae (pa_c zae (pa_c zae 76)))
local macro_rules|`(102)=>`(cxOf CX0 P w K mg base Nq x 95 f (.ref c) A outer s H E)
local macro_rules|`(114)=>`(PySem.W.fnOf x x (defArgs st) 040 95 .none kV doc pm an cdv ct)
local macro_rules|`(177)=>`(zal (i:=1) Kl.nd rfl 08 (zax zbt (pv 1) (zas (pa_c (za0 (pa_c zae 76)) (pa_c (za0 (pa_c zae 76)) zaa)))))
local macro_rules|`(017)=>`(za9 I q 05)
local macro_rules|`(178)=>`(zce (zbv (za4 zbr 00 T.b_isinstance iq (pa_c (pv 0) (pa_c (zcf (v:=.ty "str") 00 T.b_str boot_str 00) zaa)))))
local macro_rules|`(122)=>`(zac (zbg Rq rfl 00 T.m_NoText T.x_NoText F.excBase_ValueError 76))
local macro_rules|`(069)=>`(iz 051 scope.names [])
local macro_rules|`(086)=>`(za4 (zaz K) 00 T.b_len i8 55)
local macro_rules|`(046)=>`(pa_c (pv 0) 96)
local macro_rules|`(123)=>`(cxOf (CXE P w) P w K mg base Nq qual 95 f cdv A outer s H E)
local macro_rules|`(124)=>`(cloFd name qual params (.expr body) scope cl ct (.ref c') pm)
local macro_rules|`(125)=>`(.FunctionDef name params body [] none [] scope none name pos)
local macro_rules|`(115)=>`(.ListComp elt [⟨tg,iter,ifs,0⟩] scope pos)
local macro_rules|`(126)=>`(cxOf (CXE P w) P w K mg base Nq x 95 f cdv A outer s H E)
local macro_rules|`(103)=>`(zag T4 hr 01 00 55)
local macro_rules|`(055)=>`(picked m rooms g)
local macro_rules|`(079)=>`(x==("__classdict__":Str))
local macro_rules|`(104)=>`(za4 (zaz K) 00 T.b_len i8 96)
local macro_rules|`(087)=>`(iz 051 scope.names []++cl)
local macro_rules|`(179)=>`(s.heap.push {cls:=.type "range",data:=.fields #[.int lo t,.int hi u,.int 1 v]})
local macro_rules|`(015)=>`(T.step t)
local macro_rules|`(127)=>`(zdo Pr qs_reduced Pp qs_paired Pm qs_met Pk qs_maker)
local macro_rules|`(026)=>`(I.ok.hd hc)
local macro_rules|`(021)=>`(ps.zip us)
local macro_rules|`(074)=>`(iN pos (im es X.env))
local macro_rules|`(088)=>`(zak op_eq (pv 2) zae 56)
local macro_rules|`(037)=>`(g1.trans g2)
local macro_rules|`(038)=>`(cs.getD 3 0)
local macro_rules|`(129)=>`(HT.sIx xs.length xs.length hi-HT.sIx xs.length 0 lo)
local macro_rules|`(011)=>`(.tup xs)
local macro_rules|`(94)=>`(.str z)
local macro_rules|`(130)=>`(tDef X P qs name qual params (.stmts body) scope j)
local macro_rules|`(024)=>`(⟨us,[]⟩)
local macro_rules|`(131)=>`((∀σ' H',Nq σ' H'->∃m',m'<m/\W (i+1) m' σ' H'))
local macro_rules|`(089)=>`(upd H4 D (.lst (ys++[y])))
local macro_rules|`(047)=>`(mixL cl H' H2)
local macro_rules|`(134)=>`(sIx items.size items.size hi-sIx items.size 0 lo)
local macro_rules|`(041)=>`(m.run 0 row)
local macro_rules|`(042)=>`(e0.bs b o e)
local macro_rules|`(043)=>`(cs.getD 0 0)
local macro_rules|`(080)=>`(.builtin "isinstance")
local macro_rules|`(090)=>`(¬((pts z).length:Int)=k)
local macro_rules|`(091)=>`(ha pos pins s σ H _ I h)
local macro_rules|`(180)=>`(PySem.W.fnOf x qual (defArgs st) 040 95 .none kV doc pm an cdv ct)
local macro_rules|`(141)=>`(A.deeper (iP qual 95 s.heap.objs.size f cdv))
local macro_rules|`(187)=>`(⟨ok.mod,ok.kind,ok.glob,ok.blt,ok.above,ok.inj,ok.has,ok.cab,ok.hd,ok.frames,ok.stk,ok.exf,ok.bs,ok.bsz,ok.noex,ok.exfs,ok.funs,ok.frf⟩)
local macro_rules|`(117)=>`(iP qual scope s.heap.objs.size f cd)
local macro_rules|`(118)=>`(.lst (((xs.take i).filter p).map f))
local macro_rules|`(97)=>`(some a)
local macro_rules|`(142)=>`(s.heap.push {cls:=.type "list",data:=.seq #[]})
local macro_rules|`(081)=>`(xs.length==ys.length)
local macro_rules|`(056)=>`(stB tn cp σ0)
local macro_rules|`(048)=>`(List.range i)
local macro_rules|`(119)=>`(.Call (.Name "zip" p) [a,b] [] pos)
local macro_rules|`(143)=>`(A.deeper (iP x 95 s.heap.objs.size f cdv))
local macro_rules|`(105)=>`(pa_c zae (pa_c zae (pa_c zae (pa_c zae 068))))
local macro_rules|`(181)=>`((∀b o,b<s.heap.objs.size->s.heap.get? b=some o->h'.get? b=some o))
local macro_rules|`(182)=>`(y0a _ (y0a _ (y0p _ (y1q.mpr ⟨h,h1,y0f.mpr ⟨s,h2,rfl⟩⟩))))
local macro_rules|`(188)=>`(.Try [.Expr (.Call (.Name f np) (e::es) [] cpos) apos] [.ExceptHandler (some (.Name c cp)) (some n) (b₀::suite) hpos] [] [] pos)
local macro_rules|`(183)=>`(HT.sIx xs.length 0 lo=0/\HT.sIx xs.length xs.length hi=xs.length)
local macro_rules|`(155)=>`(zf2 K Pr qs_reduced Pp qs_paired Pm qs_met)
local macro_rules|`(057)=>`(ns.map V.int)
local macro_rules|`(058)=>`(marks.take i)
local macro_rules|`(168)=>`((∀x c,X.env.cells.lookup x=some c->c≠b))
local macro_rules|`(049)=>`(cs.getD 1 0)
local macro_rules|`(020)=>`(.dK kvs)
local macro_rules|`(064)=>`((" x y ; ":Str))
local macro_rules|`(082)=>`(.ref (cs.getD j 0))
local macro_rules|`(027)=>`(.inl rfl)
local macro_rules|`(169)=>`(envL qual scope cl s.heap.objs.size f cd)
local macro_rules|`(070)=>`(List.range m.n)
local macro_rules|`(170)=>`(Builtin.SmallTypes.nextOf (.ref j1)>>=_)
local macro_rules|`(083)=>`(I.hok.fresh 43)
local macro_rules|`(029)=>`(.ref dd5)
local macro_rules|`(030)=>`(.ref dd4)
local macro_rules|`(031)=>`(.ref dd3)
local macro_rules|`(032)=>`(.ref dd2)
local macro_rules|`(033)=>`(.ref dd1)
local macro_rules|`(034)=>`(.ref dd0)
local macro_rules|`(171)=>`(iP x 95 s.heap.objs.size f (.ref c))
local macro_rules|`(106)=>`(zak zbn 072 zaf 56)
local macro_rules|`(059)=>`(dropL cl H')
local macro_rules|`(107)=>`(apos.endLine==cpos.line)
local macro_rules|`(060)=>`(.builtin id)
local macro_rules|`(184)=>`(zek cs Pr qs_reduced Pp qs_paired Pm qs_met Pk qs_maker)
local macro_rules|`(071)=>`(zac (zah zes))
local macro_rules|`(092)=>`(picked m fs (ix ns))
local macro_rules|`(050)=>`(.tup [x,y])
local macro_rules|`(189)=>`(zbv (za4 zbr 00 T.b_isinstance iq (pa_c (pv 0) (pa_c (zcf (v:=.ty "tuple") 00 T.b_tuple iR 00) zaa))))
local macro_rules|`(084)=>`(zac (zah (pv 2)))
local macro_rules|`(108)=>`(y0r (y0g e) I.ok.above)
local macro_rules|`(018)=>`(some v)
local macro_rules|`(172)=>`(iP qual scope s.heap.objs.size f cdv)
local macro_rules|`(173)=>`(backToKw cpos (keywordEach [] X.env))
local macro_rules|`(019)=>`(.ref z)
local macro_rules|`(075)=>`(.ref cSayError)
local macro_rules|`(076)=>`(.builtin "len")
local macro_rules|`(120)=>`(.builtin "object.__class__")
local macro_rules|`(191)=>`(X.env.kindOf x=some .cell\/X.env.kindOf x=some .free)
local macro_rules|`(093)=>`(.type "ValueError")
local macro_rules|`(065)=>`(hr.mono hle)
local macro_rules|`(066)=>`(cs.getD 4 0)
local macro_rules|`(067)=>`(bs.map V.bl)
local macro_rules|`(174)=>`(⟨.int _,H,I.tok _,⟨_,rfl⟩,q⟩)
local macro_rules|`(061)=>`(ix rooms i)
local macro_rules|`(062)=>`(dropL cl H)
local macro_rules|`(175)=>`(b∈X.ex\/X.s₀.heap.objs.size<=b)
local macro_rules|`(186)=>`((∃o,h'.get? e=some o/\o.cls=.type "StopIteration"))
local macro_rules|`(190)=>`((["NoLine","NoFrame","NoText","NoSaying","NoRow","NoNumber","NoTree","NoWidth","TooGreat"]:List Str))
local macro_rules|`(077)=>`(stL own vs cv)
local macro_rules|`(035)=>`(.ref it)
local macro_rules|`(022)=>`(PySem.W.mg_none_of KX Gq (by k_is))
local macro_rules|`(25)=>`(by exact_mod_cast 0)
local macro_rules|`(04)=>`(by k_is)
local macro_rules|`(44)=>`(by kit_is)
local macro_rules|`(98)=>`(.cons ⟨_,rfl⟩ (.nil))
set_option hygiene true
namespace L2
theorem ex5{d p:Type}{A Bq C:d->p->Prop}{Gq:Prop}(h:∃x y,A x y/\Bq x y/\C x y)(k:∀x y,A x y->Bq x y->C x y->Gq):Gq:=let⟨x,y,a,b,c⟩:=h;k x y a b c
abbrev Key:=Sum Int Str
noncomputable def blI(b:Bool):Int:=if b=N then 1 else 0
def isBl(k:Int):Va->Bool
 |.bool b=>k==blI b
 |_=>Fa
def keyIs:Key->Va->Bool
 |.inl k,v=>Va.isInt k v||isBl k v
 |.inr x,v=>Va.isStrOf x v
noncomputable def keyH(w:World):Key->Int
 |.inl k=>hashInt k
 |.inr x=>hashStr w x
theorem zqn:∀{v:Va},isBl k v=N->∃b,k=blI b/\v=Va.bool b:=by
 intro v h;cases v
 case bool b=>show⟨b,eq_of_beq h,R⟩
 all_goals show Xa h y0k
theorem za6:∀{k:Key} {v:Va},keyIs k v=N->(∃i t,k=Sum.inl i/\v=Va.int i t)\/(∃x t,k=Sum.inr x/\v=Va.str x t)\/∃b,k=Sum.inl (blI b)/\v=Va.bool b
 |.inl i,v,h=>by
  rcases(y2y _ _).mp (show(Va.isInt i v||isBl i v)=N from h)with h|h
  .let(t,e):=Va.isInt_shape (k:=i) (v:=v) h;show .inl ⟨i,t,R,e⟩
  .let(b,e,l):=zqn h;show .inr<|.inr ⟨b,by rw[e],l⟩
 |.inr x,v,h=>by
  let(t,e):=Va.isStrOf_shape (x:=x) (v:=v) h;show .inr<|.inl ⟨x,t,R,e⟩
theorem ztn(i:Int)(t:Tok):keyIs (.inl i) (.int i t)=N:=by simp[keyIs,Va.isInt]
theorem zxm(b:Bool):keyIs (.inl<|blI b) (.bool b)=N:=by simp[keyIs,isBl]
theorem blI_inj(e:blI a=blI b):a=b:=by
 cases a<;>cases b<;>first|rfl|show Xa e (by decide)
theorem hash_bl(h:Q (hashInt<|blI b) {s with toks:=s.toks+1}):wpAny (model prog w) A (pyHash<|.bool b) Q E s:=by
 let v:s.TypeIs (.bool b) "bool":=rfl;let L:=rawHash_range<|blI b;unfold pyHash;apply ia ?_;rw[cRoomFor,Xp<|show¬[Va.bool b].any Va.onHeap=N from y0k];apply ib<|ia (iT v PySem.F.slot_bool_hash.lookup ?_);change wpAny _ _ (if(G (Va.builtin "int.__hash__")==G Va.none)=N then _ else _) Q E s;rw[Xp<|show¬(G (Va.builtin "int.__hash__")==G Va.none)=N from y0k];apply ia<|iT v PySem.F.slot_bool_hash.lookup ?_;change wpAny _ _ (callSpecialIfBoundUnlessNone? (.bool b) "__hash__" _>>=_) Q E s;apply ia<|wpAny_callSpecialIfBoundUnlessNone?_slot v PySem.F.slot_bool_hash (i7 PySem.F.slot_bool_hash v PySem.F.entry_int_hash ?_<|PySem.F.args_int_hash_1 _);apply(show wpAny _ _ (do ret<|←mkInt (rawHash<|blI b)) _ _ s from wpAny_ret_mkInt ?_);change wpAny _ _ (if(decide (-(2:Int)^63<=rawHash (blI b))&&decide (rawHash (blI b)<2^63))=N then _ else _) Q E _;rw[Xq<|by rw[Xg L.1,Xg L.2];rfl];show ib h
theorem ztm(x:Str)(t:Tok):keyIs (.inr x) (.str x t)=N:=by simp[keyIs,Va.isStrOf]
theorem zow(a b:Int):decide ((Sum.inl a:Key)=Sum.inl b)=(a==b):=by
 by_cases e:a=b
 .subst e;simp
 .let h:¬(Sum.inl a:Key)=Sum.inl b:=λq=>e<|Sum.inl.inj q;rw[Xf h];show(beq_eq_false_iff_ne.mpr e).symm
theorem key_rr(a b:Str):decide ((Sum.inr a:Key)=Sum.inr b)=decide (a=b):=by
 by_cases e:a=b
 .subst e;simp
 .let h:¬(Sum.inr a:Key)=Sum.inr b:=λq=>e<|Sum.inr.inj q;rw[Xf h,Xf e]
theorem zy4(a:Int)(b:Str):decide ((Sum.inl a:Key)=Sum.inr b)=Fa:=Xf λq=>nomatch q
theorem zy3(a:Str)(b:Int):decide ((Sum.inr a:Key)=Sum.inl b)=Fa:=Xf λq=>nomatch q
def mixKind(prog:ik)(w:World):PySem.KeyKind prog w Key where
 is:=keyIs
 hash:=keyH w
 inj:=λv a b g U=>by
  rcases za6 g with⟨i,t,rfl,rfl⟩|⟨x,t,rfl,rfl⟩|⟨c,rfl,rfl⟩
  .rcases za6 U with⟨j,u,rfl,e⟩|⟨y,u,rfl,e⟩|⟨d,rfl,e⟩
   .injection e with M _;rw[M]
   .exact nomatch e
   .exact nomatch e
  .rcases za6 U with⟨j,u,rfl,e⟩|⟨y,u,rfl,e⟩|⟨d,rfl,e⟩
   .exact nomatch e
   .injection e with M _;rw[M]
   .exact nomatch e
  .rcases za6 U with⟨j,u,rfl,e⟩|⟨y,u,rfl,e⟩|⟨d,rfl,e⟩
   .exact nomatch e
   .exact nomatch e
   .injection e with M;rw[M]
 byValue:=λk v h=>by
  rcases za6 h with⟨i,t,rfl,rfl⟩|⟨x,t,rfl,rfl⟩|⟨c,rfl,rfl⟩<;>rfl
 pyHash:=λhv h=>by
  rcases za6 hv with⟨i,t,rfl,rfl⟩|⟨x,t,rfl,rfl⟩|⟨c,rfl,rfl⟩
  .exact wpAny_pyHash_int h
  .exact wpAny_pyHash_str h
  .exact hash_bl h
 eqBool:=λr hv h=>by
  rcases za6 r with⟨i,t,rfl,rfl⟩|⟨x,t,rfl,rfl⟩|⟨c,rfl,rfl⟩
  .rcases za6 hv with⟨j,u,rfl,rfl⟩|⟨y,u,rfl,rfl⟩|⟨d,rfl,rfl⟩
   .rw[zow]at h;show wpAny_eqBool_int h
   .rw[zy4]at h;show SeqAt.EqAt.int_str i t y u _ _ _ _ h
   .rw[zow]at h;show SeqAt.EqAt.int_bool i t d _ _ _ _ h
  .rcases za6 hv with⟨j,u,rfl,rfl⟩|⟨y,u,rfl,rfl⟩|⟨d,rfl,rfl⟩
   .rw[zy3]at h;show SeqAt.EqAt.str_int x t j u _ _ _ _ h
   .rw[key_rr]at h;show wpAny_eqBool_str h
   .rw[zy3]at h;show SeqAt.EqAt.str_bool x t d _ _ _ _ h
  .rcases za6 hv with⟨j,u,rfl,rfl⟩|⟨y,u,rfl,rfl⟩|⟨d,rfl,rfl⟩
   .rw[zow]at h;show SeqAt.EqAt.bool_int c j u _ _ _ _ h
   .rw[zy4]at h;show SeqAt.EqAt.bool_str c y u _ _ _ _ h
   .rw[zow,show(blI c==blI d)=(c==d) by cases c<;>cases d<;>rfl]at h;show SeqAt.EqAt.bool_bool c d _ _ _ _ h
 «strs»:=λk x t v h=>by
  rcases za6 h with⟨i,u,rfl,e⟩|⟨y,u,rfl,e⟩|⟨d,rfl,e⟩
  .exact nomatch e
  .injection e with M _
   subst M;cases v<;>rfl
  .exact nomatch e
theorem zm6(prog:ik)(w:World)(i:Int)(t:Tok):(mixKind prog w).is (.inl i) (.int i t)=N:=ztn i t
theorem zm5(prog:ik)(w:World)(x:Str)(t:Tok):(mixKind prog w).is (.inr x) (.str x t)=N:=ztm x t
inductive V where
 |non|bl (b:Bool)|int (i:Int)|str (x:Str)|byt (b:Array UInt8)|flt (b:UInt64)|ref (a:Ad)|ty (n:String)
 deriving DecidableEq
def RelV:V->Va->Prop
 |.non,u=>u=Va.none
 |.bl b,u=>u=Va.bool b
 |.int i,u=>∃t,u=Va.int i t
 |.str x,u=>∃t,u=Va.str x t
 |.byt b,u=>∃t,u=Va.bytes b t
 |.flt b,u=>∃t,u=Va.float b t
 |.ref a,u=>u=Va.ref a
 |.ty n,u=>u=Va.type n
abbrev Vals:List V->List Va->Prop:=i9 RelV
theorem Vals.length(r:Vals xs us):xs.length=us.length:=Paired.length r
theorem Vals.get:∀{xs:List V} {us:List Va} {i:Nat} {x:V},Vals xs us->xs[i]?=G x->∃u,us[i]?=G u/\RelV x u
 |_,_,_,_,.nil,e=>by simp at e
 |_,_,0,_,.cons r _,e=>by simp at e;subst e;show⟨_,R,r⟩
 |_,_,i+1,x,.cons _ t,e=>by
  let(u,Y,h2):=Vals.get (i:=i) (x:=x) t (by simpa using e);show⟨u,by simpa using Y,h2⟩
theorem Vals.append:∀{xs ys:List V} {us j:List Va},Vals xs us->Vals ys j->Vals (xs++ys) (us++j)
 |_,_,_,_,.nil,s=>s
 |_,_,_,_,.cons r t,s=>.cons r<|Vals.append t s
theorem Vals.take:∀{xs:List V} {us:List Va} (n:Nat),Vals xs us->Vals (xs.take n) (us.take n)
 |_,_,0,_=>.nil
 |_,_,_+1,.nil=>.nil
 |_,_,n+1,.cons r t=>.cons r<|Vals.take n t
theorem Vals.drop:∀{xs:List V} {us:List Va} (n:Nat),Vals xs us->Vals (xs.drop n) (us.drop n)
 |_,_,0,r=>r
 |_,_,_+1,.nil=>.nil
 |_,_,n+1,.cons _ t=>Vals.drop n t
def RelO:Option V->Option Va->Prop
 |some v,G u=>RelV v u
 |none,B=>True
 |_,_=>False
def KV{d:Type}:List (d×V)->List (d×Va)->Prop:=i9 λ(p:d×V) (q:d×Va)=>p.1=q.1/\RelV p.2 q.2
noncomputable def kV:Key->V
 |.inl i=>.int i
 |.inr x=>.str x
inductive HO where
  |lst (xs:List V)
  |tup (xs:List V)
  |dK (kvs:List<|Key×V)|dT (kvs:List<|List Key×V)
  |set (S:Int->Bool) (n:Nat)
  |ins (C dx:Ad) (fs:List<|Str×V)
  |own (x:Ad)
  |xd (fs:List<|Str×V)
  |met (f x:Ad)
  |rng (lo hi:Int)
  |frz (o:Obj) (u:HO)
  |tbl (qs:Y3) (ps:Array Va)
  |ext (φ:Heap->Prop)
abbrev Hp:=Ad->Option HO
noncomputable def upd(H:Hp)(a:Ad)(o:HO):Hp:=λb=>if b=a then G o else H b
theorem zat:upd H a o a=G o:=by unfold upd;rw[Xq rfl]
theorem zaj(h:b≠a):upd H a o b=H b:=by unfold upd;rw[Xp h]
theorem zm4{H:Hp}{a b:Ad}{o u:HO}(h:H a=G o)(h':H b=G u)(d:o≠u):a≠b:=by
 intro e;subst e;rw[h]at h';show d<|Option.some.inj h'
theorem zau{H:Hp}{a b:Ad}{o:HO}(h:H a=G o)(h':H b=B):a≠b:=by
 intro e;subst e;rw[h]at h';cases h'
section
variable (P:ik)(w:World)
def CodeObj(o:Obj)(q:Str):Prop:=∃vs t,o.data=.fields vs/\vs[1]?=G (.str q t)
def ObjOk(H:Hp)(h:Heap)(a:Ad):HO->Prop
 |.lst xs=>xs.length<=ii/\∃(its:List Va) (n:Nat),Vals xs its/\h.get? a=G {cls:=.type "list",data:=.seq its.toArray n}
 |.tup xs=>xs.length<=ii/\∃its:List Va,Vals xs its/\IsTup h a its.toArray
 |.dK kvs=>kvs.length<=ii/\(a==iE)=Fa/\∃vs,KV kvs vs/\h.DictOf 025 a vs
 |.dT kvs=>kvs.length<=ii/\(a==iE)=Fa/\∃xs:List<|List Key×Ad×Va,
   i9 (λ(p:List Key×V) (q:List Key×Ad×Va)=>p.1=q.1/\H q.2.1=G (.tup<|p.1.map kV)/\RelV p.2 q.2.2) kvs xs/\
   ∃o i l,h.get? a=G o/\o.ExactDict/\o.data=.dict i l/\i.toList=xs.map (entryOfKey<|jK 025)/\(xs.map (·.1)).Nodup
 |.set S n=>h.SetOf (intKind P w) a S n
 |.ins C dx fs=>H dx=G (.own a)/\fs.length<=1000/\dx≠a/\h.get? a=G (PySem.W.instObj C dx)/\
   ∃U,h.Ns1 dx U/\(∀f,RelO (fs.lookup f)<|U f)/\PySem.Within U (fs.map (·.1))
 |.own _=>∃o,h.get? a=G o
 |.xd fs=>∃U,h.Ns1 a U/\∀f,RelO (fs.lookup f)<|U f
 |.rng lo hi=>∃t u v,h.get? a=G {cls:=.type "range",data:=.fields #[.int lo t,.int hi u,.int 1 v]}
 |.frz o u=>h.get? a=G o/\ObjOk H h a u
 |.tbl qs ps=>∃g:Array Va,h.get? a=G {cls:=.none,data:=.fields (ps++g)}/\TriplesOk (ps++g).toList/\∀p∈qs,∀v,jt p.1 (ps++g).toList=G v->∃c o,v=.ref c/\H c=G 013/\CodeObj o p.2
 |.met f x=>h.get? a=G (PySem.W.methodObj 57<|.ref x)
 |.ext E=>E h/\(∃o,h.get? a=G o)/\∀Y h2:Heap,E Y->(∀o,Y.get? a=G o->h2.get? a=G o)->E h2
def HOk(H:Hp)(h:Heap):Prop:=∀a o,H a=G o->ObjOk P w H h a o
end
section
variable {P:ik}{w:World}{H H':Hp}{h h':Heap}{a:Ad}{o:HO}
theorem ObjOk.lt(x:ObjOk P w H h a o):a<h.objs.size:=by
 cases o with
 |lst xs=>let(_,_,_,_,e):=x;show y0g e
 |tup xs=>let(_,_,_,p):=x;show p.lt
 |dK kvs=>let(_,_,_,_,o,_,_,e,_):=x;show y0g e
 |dT kvs=>let(_,_,_,_,o,_,_,e,_):=x;show y0g e
 |set S n=>let(o,_,_,_,e,_):=x;show y0g e
 |ins C dx fs=>let(_,_,_,e,_):=x;show y0g e
 |own y=>let(_,e):=x;show y0g e
 |xd fs=>let(_,(_,_,_,e,_),_):=x;show y0g e
 |rng lo hi=>let(_,_,_,e):=x;show y0g e
 |frz ob u=>let(e,_):=x;show y0g e
 |tbl qs ps=>let(_,e,_):=x;show y0g e
 |met f y=>show y0g<|show h.get? a=G _ from x
 |ext E=>let(_,(_,e),_):=x;show y0g e
theorem Paired.mapP:∀{e:List d} {c:List p},i9 F e c->(∀a b,F a b->Gq a b)->i9 Gq e c
 |_,_,.nil,_=>.nil
 |_,_,.cons r t,f=>.cons (f _ _ r)<|Paired.mapP t f
theorem ObjOk.stay(x:ObjOk P w H h a o)(k:∀b u,(b=a\/H b=G (.own a))->h.get? b=G u->h'.get? b=G u)
  (Y:∀b,H b=G (.own a)->H' b=G (.own a)) (j:∀b o u q,CodeObj o q->H b=G (.frz o u)->H' b=G (.frz o u)) (Q:∀b xs,H b=G 011->H' b=G 011):ObjOk P w H' h' a o:=by
 induction o with
 |lst xs=>let(z,its,n,r,e):=x;show⟨z,its,n,r,k _ _ 027 e⟩
 |tup xs=>let(z,its,r,ob,e,c):=x;show⟨z,its,r,ob,k _ _ 027 e,c⟩
 |dK kvs=>let(z,y,vs,r,ob,i,O,e,c):=x;show⟨z,y,vs,r,ob,i,O,k _ _ 027 e,c⟩
 |dT kvs =>
  let(z,y,xs,r,ob,i,O,e,c):=x;show⟨z,y,xs,Paired.mapP r λp q z=>⟨z.1,Q _ _ z.2.1,z.2.2⟩,ob,i,O,k _ _ 027 e,c⟩
 |set S n=>let(ob,i,O,t,e,c):=x;show⟨ob,i,O,t,k _ _ 027 e,c⟩
 |ins C dx fs =>
  let(d,z,ne,e,U,(T,i,O,D,c),r):=x;show⟨Y _ d,z,ne,k _ _ 027 e,U,⟨T,i,O,k _ _ (.inr d) D,c⟩,r⟩
 |own y=>let(ob,e):=x;show⟨ob,k _ _ 027 e⟩
 |xd fs=>let(U,(T,i,O,e,c),r):=x;show⟨U,⟨T,i,O,k _ _ 027 e,c⟩,r⟩
 |rng lo hi=>let(t,u,v,e):=x;show⟨t,u,v,k _ _ 027 e⟩
 |frz ob u A=>let(e,q):=x;show⟨k _ _ 027 e,A q⟩
 |tbl qs ps=>let(g,e,t,c):=x;show⟨g,k _ _ 027 e,t,λp l v q=>let⟨M,o,r,z,co⟩:=c p l v q;⟨M,o,r,j _ _ _ _ co z,co⟩⟩
 |met f y =>
  let e:h.get? a=G (PySem.W.methodObj 57<|.ref y):=x;change h'.get? a=G (PySem.W.methodObj 57<|.ref y);show k a _ 027 e
 |ext E=>let(p,(o,e),st):=x;show⟨st _ _ p λo q=>k _ _ 027 q,⟨o,k _ _ 027 e⟩,st⟩
theorem HOk.lt(x:HOk P w H h)(e:H a=G o):a<h.objs.size:=(x a o e).lt
theorem HOk.fresh(x:HOk P w H h)(e:h.objs.size<=a):H a=B:=by
 cases q:H a with
 |none=>rfl
 |some u=>show Xa (y0r (x.lt q) e)<|y1p _
theorem HOk.kept(x:HOk P w H h)(k:∀b u,h.get? b=G u->h'.get? b=G u):HOk P w H h':=λa o e =>
 (x a o e).stay (λb u _ q=>k b u q) (λ_ q=>q) (λ_ _ _ _ _ q=>q) λ_ _ q=>q
theorem HOk.laid(x:HOk P w H h)(k:∀b u,h.get? b=G u->h'.get? b=G u)(l:h.objs.size<=a)(new:ObjOk P w (upd H a o) h' a o):HOk P w (upd H a o) h':=λb u e=>by
 let E:=x.fresh l;by_cases U:b=a
 .subst U;rw[zat]at e;cases e;show new
 .rw[zaj U]at e;show(x b u e).stay (λc v _ q=>k c v q) (λc q=>by rw[zaj<|zau q E];show q) (λc _ _ _ _ q=>by rw[zaj<|zau q E];show q) λc xs q=>by rw[zaj<|zau q E];show q
end
def Rd(H:Hp)(a:Ad)(u:HO):Prop:=H a=G u\/∃o,H a=G (.frz o u)
theorem Rd.ok(r:Rd H a u)(x:HOk P w H h):ObjOk P w H h a u:=by
 rcases r with r|⟨o,r⟩
 .exact x a u r
 .let(_,q):=x a _ r;show q
def Mut:Option HO->Prop
 |some (.lst _)=>True
 |some (.dK _)=>True
 |some (.dT _)=>True
 |some (.set _ _)=>True
 |some (.ins _ _ _)=>True
 |some (.ext _)=>True
 |_=>False
section
variable {P:ik}{w:World}{H:Hp}{h h':Heap}{x e:Ad}{o':HO}
theorem HOk.write(ok:HOk P w H h)(j:Mut<|H x)(d:e=x\/H e=G (.own x))(k:∀b u,b≠e->h.get? b=G u->h'.get? b=G u)(f:∃u,h'.get? e=G u)
  (new:ObjOk P w (upd H x o') h' x o'):HOk P w (upd H x o') h':=λb u q=>by
 let a:∀c y,H c=G (.own y)->c≠x:=λc y r z=>by subst z;rw[r]at j;show j
 let i:∀c xs,H c=G 011->c≠x:=λc xs r z=>by subst z;rw[r]at j;show j
 let g:∀c o y,H c=G (.frz o y)->c≠x:=λc o y r z=>by subst z;rw[r]at j;show j
 by_cases U:b=x
 .subst U;rw[zat]at q;cases q;show new
 .rw[zaj U]at q;by_cases C:b=e
  .let L:H b=G (.own x):=by
    rcases d with z|z
    .exact Xa (C.trans z) U
    .rw[C];show z
   rw[q]at L;cases L;let(v,hv):=f;show⟨v,by rw[C];show hv⟩
  .refine(ok b u q).stay (λc v hc r=>k c v ?_ r) (λc r=>by rw[zaj<|a c b r];show r) (λc o y _ _ r=>by rw[zaj<|g c o y r];show r) λc xs r=>by rw[zaj<|i c xs r];show r
   rcases hc with rfl|hc
   .exact C
   .rintro rfl;rcases d with z|z
    .exact a c b hc z
    .rw[hc]at z;cases z;show U R
end
structure Un(fs ex:List Ad)(H H':Hp)(h h':Heap):Prop where
 keep:∀b o,h.get? b=G o->H b=B->b∉fs->b∉ex->h'.get? b=G o
 slot:∀b o,h.get? b=G o->H b=B->b∈fs->b∉ex->∃sl,h'.get? b=G {o with slots:=sl}
 free:∀b o,h.get? b=G o->H b=B->b∉ex->H' b=B
 there:∀b o,h.get? b=G o->b∉ex->∃o',h'.get? b=G o'
 tups:∀b xs,H b=G 011->H' b=G 011
 frzs:∀b o u,H b=G (.frz o u)->H' b=G (.frz o u)
 tbls:∀b qs ps,H b=G (.tbl qs ps)->H' b=G (.tbl qs ps)
section
variable {fs fs' ex ex':List Ad}{H H1 H2:Hp}{h h1 h2 h':Heap}{a x e:Ad}{o:HO}
theorem Un.any(u:Un fs ex H H1 h h1)(q:h.get? b=G ob)(n:H b=B)(J:b∉ex):∃f,h1.get? b=G {ob with slots:=f}:=by
 by_cases U:b∈fs
 .exact u.slot b ob q n U J
 .exact⟨ob.slots,u.keep b ob q n U J⟩
theorem Un.kept(k:∀b u,h.get? b=G u->h'.get? b=G u):Un fs ex H H h h' :=
 ⟨λb ob q _ _ _=>k b ob q,λb ob q _ _ _=>⟨ob.slots,k b ob q⟩,λ_ _ _ n _=>n,λb ob q _=>⟨ob,k b ob q⟩,λ_ _ q=>q,λ_ _ _ q=>q,λ_ _ _ q=>q⟩
theorem Un.refl:Un fs ex H H h h:=Un.kept λ_ _ q=>q
theorem Un.laid(k:∀b u,h.get? b=G u->h'.get? b=G u)(l:h.objs.size<=a)(E:H a=B):Un fs ex H (upd H a o) h h' where
 keep:=λb u q _ _ _=>k b u q
 slot:=λb u q _ _ _=>⟨u.slots,k b u q⟩
 free:=λb u q n _=>by rw[zaj<|y0m (y0r (y0g q) l)];show n
 there:=λb u q _=>⟨u,k b u q⟩
 tups:=λb xs q=>by rw[zaj<|zau q E];show q
 frzs:=λb u xs q=>by rw[zaj<|zau q E];show q
 tbls:=λb qs ps q=>by rw[zaj<|zau q E];show q
theorem Un.write(j:Mut<|H x)(d:e=x\/H e=G (.own x))(k:∀b u,b≠e->h.get? b=G u->h'.get? b=G u)(f:∃u,h'.get? e=G u):Un fs ex H (upd H x o) h h':=by
 let J:∀b,H b=B->b≠x:=λb n z=>by subst z;rw[n]at j;show j
 let U:∀b,H b=B->b≠e:=λb n z=>by
  subst z;rcases d with r|r
  .exact J b n r
  .rw[n]at r;cases r
 let M:∀b u,H b=G u->¬Mut (G u)->b≠x:=λb u q nm z=>by subst z;rw[q]at j;show nm j
 apply⟨λb u q n _ _=>k b u (U b n) q,λb u q n _ _=>⟨u.slots,k b u (U b n) q⟩,λb u q n _=>by rw[zaj<|J b n];show n,λb u q _=>?_,
  λb xs q=>by rw[zaj<|M b _ q λz=>z];show q,λb u xs q=>by rw[zaj<|M b _ q λz=>z];show q,λb qs ps q=>by rw[zaj<|M b _ q λz=>z];show q⟩
 by_cases C:b=e
 .subst C;show f
 .exact⟨u,k b u C q⟩
end
noncomputable def trk(h:Heap)(H:Hp):List Ad:=(List.range h.objs.size).filter λa=>(H a).isSome
def hidT(h:Heap)(H:Hp):Heap:=PySem.W.hideAll h<|trk h H
theorem zts(h:Heap)(H:Hp):(hidT h H).objs.size=h.objs.size:=PySem.W.hideAll_size _ _
theorem zxr(e:h.get? b=G o)(n:H b=B):(hidT h H).get? b=G o :=
 PySem.W.hideAll_get _ e λM=>by
  let q:(H b).isSome=N:=(y2e.mp M).2;rw[n]at q;simp at q
theorem of_hidT(e:(hidT h H).get? b=G o):h.get? b=G o/\H b=B:=by
 let l:h.get? b=G o:=PySem.W.of_hideAll (trk h H) e;apply⟨l,?_⟩;cases q:H b with
 |none=>rfl
 |some x =>
  let M:b∈trk h H:=y2e.mpr ⟨y0x.mpr<|y0g l,by simp[q]⟩;let z:(hidT h H).get? b=B:=PySem.W.hideAll_none (trk h H) M;rw[z]at e;cases e
noncomputable def allNews(g h:Heap)(L:Ad):List (Ad×Obj):=(List.range h.objs.size).filterMap λa=>if a=L\/(g.get? a).isSome=N then B else(h.get? a).map λo=>(a,o)
def rest(g h:Heap)(L d:Ad):List (Ad×Obj):=(allNews g h L).filter λp=>decide (p.1≠d)
structure Mod(K:Frag)(mg:Y1)(base:Heap):Prop where
 kin:K.In base
 glob:base.Ns ir mg
 blt:∃mb,base.Ns jd mb/\∀x:Str,x≠"__name__"->mb x=iY x
 nolimit:base.NoLimit
structure Cx where
 prog:ik
 w:World
 K:Frag
 mg:Str->Option Va
 base:Heap
 A:io
 Nq:List Str
 s₀:ig
 H₀:Hp
 env:Env
 outer:List Env
 stack:List Env
 ex:List Ad
 fn:Str->Bool
 calm:Bool
 pn:List<|Ad×Obj
 xe:Va->ig->Prop
noncomputable def frs(l:List Env):List Ad:=l.filterMap (·.frame)
abbrev Cx.fs(X:Cx):List Ad:=frs X.outer
def Vis(a:Scope)(x:Str):Prop:=a.names.lookup x=G .local\/a.names.lookup x=G .cell\/a.names.lookup x=G .free
def Loc(a:Scope)(x:Str):Prop:=a.names.lookup x=G .local\/a.names.lookup x=G .cell
def Look(env:Env)(h:Heap)(m:Y1)(x:Str)(u:Va):Prop :=
 (env.kindOf x=G .local/\m x=G u)\/((env.kindOf x=G .cell\/env.kindOf x=G .free)/\∃c,env.cells.lookup x=G c/\h.IsCell c (G u))
structure Cx.Ok(X:Cx):Prop where
 mod:Mod X.K X.mg X.base
 kind:X.env.scope.kind=.function
 glob:X.env.globals=ir
 blt:X.env.builtins=jd
 above:X.s₀.heap.objs.size<=X.env.locals
 inj:∀x y c,X.env.cells.lookup x=G c->X.env.cells.lookup y=G c->x=y
 has:∀x,191->∃c,X.env.cells.lookup x=G c
 cab:∀x c,X.fn x=N->X.env.cells.lookup x=G c->X.s₀.heap.objs.size<=c
 hd:X.calm=N->X.A.handled=B
 frames:X.A.frames=G X.stack
 stk:X.stack=X.outer\/(X.stack=X.env::X.outer/\X.env.frame=G X.env.locals)
 exf:∀b∈X.ex,b≠X.env.locals/\∀x c,X.env.cells.lookup x=G c->c≠b
 bs:∀b o,X.base.get? b=G o->X.s₀.heap.get? b=G o/\X.H₀ b=B
 bsz:X.base.objs.size<=X.s₀.heap.objs.size
 noex:∀b o,X.base.get? b=G o->b∉X.ex
 exfs:∀b∈X.ex,b∉X.fs
 funs:X.s₀.heap.FunFrames X.base X.outer
 frf:∀b∈X.fs,X.H₀ b=B
structure Inv(X:Cx)(pins:Y2)(σ:List<|Option V)(H:Hp)(s:ig):Prop where
 ok:X.Ok
 os:s.os=X.s₀.os
 bare:j8 s.gens
 base:Un X.fs X.ex X.H₀ H X.s₀.heap s.heap
 loc:∃m,s.heap.Ns X.env.locals m/\∀(i:Nat) (x:Str) (v:V),X.Nq[i]?=G x->σ[i]?=G 018->Vis X.env.scope x->∃u,RelV v u/\Look X.env s.heap m x u
 cell:∀x c,X.env.cells.lookup x=G c->∃v,s.heap.IsCell c v
 free:H X.env.locals=B
 freeC:∀x c,X.env.cells.lookup x=G c->H c=B
 pin:∀p∈X.pn++pins,s.heap.get? p.1=G p.2/\H p.1=B/\p.1≠X.env.locals/\p.1∉X.fs/\∀v,p.2.data ≠ .cell v
 hok:HOk X.prog X.w H s.heap
 len:σ.length=X.Nq.length
section
variable {X:Cx}{pins:Y2}{σ:List (Option V)}{H H':Hp}{s:ig}{h':Heap}
theorem Cx.Ok.nofr(ok:X.Ok)(e:X.base.get? b=G o):b∉X.fs:=λU=>by
 let:=(ok.funs.mem U).1;rw[e]at this;cases this
theorem Inv.bs(I:02 H s):∀b o,X.base.get? b=G o->s.heap.get? b=G o/\H b=B:=λb o e =>
 ⟨I.base.keep b o (I.ok.bs b o e).1 (I.ok.bs b o e).2 (I.ok.nofr e)<|I.ok.noex b o e,I.base.free b o (I.ok.bs b o e).1 (I.ok.bs b o e).2<|I.ok.noex b o e⟩
theorem Inv.bk(I:02 H s):∀b o,X.base.get? b=G o->s.heap.get? b=G o:=λb o e=>(I.bs b o e).1
theorem Inv.mod(I:02 H s):Mod X.K X.mg X.base:=I.ok.mod
theorem Inv.kIn(I:02 H s):X.K.In s.heap:=I.ok.mod.kin.keeps I.bk
theorem Inv.lt(I:02 H s):X.env.locals<s.heap.objs.size:=let⟨_,E,_⟩:=I.loc;E.lt
theorem Inv.sz(I:02 H s):X.s₀.heap.objs.size<=s.heap.objs.size:=y0v I.ok.above<|y1i I.lt
theorem Inv.nofs(I:02 H s){a:Ad}(h:s.heap.objs.size<=a):a∉X.fs:=λU=>by
 let(_,o,Y,_):=I.ok.funs.mem U;show Xa (y0r (y0g Y)<|y0v I.sz h)<|y1p _
theorem Inv.cne(I:02 H s):∀x c,X.env.cells.lookup x=G c->c≠X.env.locals:=λx c e z=>by
 let(v,o,Y,hd):=I.cell x c e;let(m,(A,i,l,w,J,_),_):=I.loc;rw[z,w]at Y;cases Y;rw[J]at hd;cases hd
theorem Inv.funs(I:02 H s):s.heap.FunFrames X.base X.outer:=by
 let all:∀(l:List Env),(∀b∈frs l,b∈X.fs)->X.s₀.heap.FunFrames X.base l->s.heap.FunFrames X.base l:=by
  intro l
  induction l with
  |nil=>intro _ _;trivial
  |cons env r A =>
   intro hs C;let(O,(L,o,j,E,Y,hd),J):=C;let y:L∈X.fs:=hs L (by unfold frs;rw[y2j,j];show y0c);let(f,e):=I.base.slot L o Y (I.ok.frf L y) y λz=>I.ok.exfs L z y;show⟨O,⟨L,_,j,E,e,hd⟩,A (λb U=>hs b<|by unfold frs;rw[y2j,j];show y08 _ U) J⟩
 show all X.outer (λ_ U=>U) I.ok.funs
theorem Inv.stack(I:02 H s):s.heap.FunFrames X.base X.stack:=by
 rcases I.ok.stk with e|⟨e,j⟩
 .rw[e];show I.funs
 .rw[e];let(m,E,_):=I.loc;apply .cons (by rw[I.ok.kind];decide) j E ?_ I.funs;show Heap.get?_none_of_le<|y0v I.ok.bsz I.ok.above
theorem Inv.stkSub(I:02 H s):∀b∈frs X.stack,b∈X.env.locals::X.fs:=λb U=>by
 rcases I.ok.stk with e|⟨e,j⟩
 .rw[e]at U;show y08 _ U
 .rw[e]at U;unfold frs at U;rw[y2j,j]at U;show U
theorem Inv.stkFree(I:02 H s):∀b∈frs X.stack,H b=B:=λb U=>by
 rcases y09.mp (I.stkSub b U)with e|U
 .rw[e];show I.free
 .let(_,o,Y,_):=I.ok.funs.mem U;show I.base.free b o Y (I.ok.frf b U) λz=>I.ok.exfs b z U
theorem Inv.step{g':Array jq}{t':Nat}{d':Drawn}{ch:List Ad}(I:02 H s)
  (a:∀b∈ch,175/\b≠X.env.locals/\168/\∀p∈X.pn++pins,p.1≠b)
  (keep:∀b o,b≠X.env.locals->b∉X.fs->b∉ch->s.heap.get? b=G o->H b=B->h'.get? b=G o)
  (slot:∀b o,b≠X.env.locals->b∈X.fs->b∉ch->s.heap.get? b=G o->H b=B->∃f,h'.get? b=G {o with slots:=f}) (free:∀b o,b∉ch->s.heap.get? b=G o->H b=B->H' b=B)
  (there:∀b o,b∉ch->s.heap.get? b=G o->∃A,h'.get? b=G A)
  (tups:∀b xs,H b=G 011->H' b=G 011) (frzs:∀b o u,H b=G (.frz o u)->H' b=G (.frz o u)) (tbls:∀b qs ps,H b=G (.tbl qs ps)->H' b=G (.tbl qs ps))
  (ns:∀m,s.heap.Ns X.env.locals m->h'.Ns X.env.locals m) (hok:HOk X.prog X.w H' h') (y:j8 g') :
  02 H' {s with heap:=h',gens:=g',drawn:=d',toks:=t'}:=by
 let w:∀b o,X.s₀.heap.get? b=G o->b≠X.env.locals:=λb o e=>y0m 108;let j:∀b o,X.s₀.heap.get? b=G o->b∉X.ex->b∉ch:=λb o e J U=>by
  rcases(a b U).1 with z|z
  .exact J z
  .exact Xa (y0r (y0g e) z)<|y1p _
 let T:∀x c,X.env.cells.lookup x=G c->∀v,s.heap.IsCell c v->h'.IsCell c v:=λx c e v ⟨o,Y,hd⟩=>by
  let g:c∉ch:=λz=>(a c z).2.2.1 x c e rfl;by_cases hc:c∈X.fs
  .let(f,q):=slot c o (I.cne x c e) hc g Y<|I.freeC x c e;show⟨_,q,hd⟩
  .exact⟨o,keep c o (I.cne x c e) hc g Y<|I.freeC x c e,hd⟩
 apply⟨I.ok,I.os,y,⟨λb o e n U J=>?_,λb o e n U J=>?_,λb o e n J=>?_,λb o e J=>?_,λb xs e=>tups b xs<|I.base.tups b xs e,λb o xs e=>frzs b o xs<|I.base.frzs b o xs e,λb qs ps e=>tbls b qs ps<|I.base.tbls b qs ps e⟩,?_,λx c e=>?_,?_,λx c e=>?_,λp Q=>?_,hok,I.len⟩
 .exact keep b o (w b o e) U (j b o e J) (I.base.keep b o e n U J)<|I.base.free b o e n J
 .let(f,M):=I.base.slot b o e n U J;let(sl',D):=slot b _ (w b o e) U (j b o e J) M<|I.base.free b o e n J;show⟨sl',D⟩
 .let(A,M):=I.base.there b o e J;show free b A (j b o e J) M<|I.base.free b o e n J
 .let(A,M):=I.base.there b o e J;show there b A (j b o e J) M
 .let(m,E,C):=I.loc;apply⟨m,ns m E,λi x v M D L=>?_⟩;let(u,r,l):=C i x v M D L;apply⟨u,r,?_⟩;rcases l with l|⟨k,c,e,z⟩
  .exact .inl l
  .exact .inr ⟨k,c,e,T x c e _ z⟩
 .let(v,z):=I.cell x c e;show⟨v,T x c e v z⟩
 .let(m,(o,_,_,Y,_),_):=I.loc;show free _ o (λz=>(a _ z).2.1 R) Y I.free
 .let(v,o,Y,hd):=I.cell x c e;show free c o (λz=>(a c z).2.2.1 x c e R) Y<|I.freeC x c e
 .let(e,n,ne,O,d):=I.pin p Q;let g:p.1∉ch:=λz=>(a p.1 z).2.2.2 p Q rfl;show⟨keep p.1 p.2 ne O g e n,free p.1 p.2 g e n,ne,O,d⟩
theorem Inv.un{t':Nat}(I:02 H s)(u:Un X.fs [] H H' s.heap h')(hok:HOk X.prog X.w H' h'):02 H' {s with heap:=h',toks:=t'}:=by
 let(m,(o,i,l,Y,r),_):=id I.loc;let(f,y):=u.any Y I.free 05;show I.step (g':=s.gens) (d':=s.drawn) (ch:=[]) (λ_ z=>nomatch z) (λb o _ U _ e n=>u.keep b o e n U 05) (λb o _ U _ e n=>u.slot b o e n U 05) (λb o _ e n=>u.free b o e n 05) (λb o _ e=>u.there b o e 05) u.tups u.frzs u.tbls (λv M=>by
  let(A,g,d,w,r'):=M;rw[Y]at w;cases w;show⟨_,g,d,y,r'⟩) hok I.bare
theorem Inv.call{g':Array jq}{t':Nat}{d':Drawn}{ch:List Ad}(I:02 H s)(u:Un (frs X.stack) ch H H' s.heap h')(hok:HOk X.prog X.w H' h')(y:j8 g')
  (a:∀b∈ch,175/\b≠X.env.locals/\168/\∀p∈X.pn++pins,p.1≠b) :
  02 H' {s with heap:=h',gens:=g',drawn:=d',toks:=t'}:=by
 let(m,(o,i,l,Y,r),_):=id I.loc;let(f,j):=u.any Y I.free λz=>(a _ z).2.1 rfl;show I.step (ch:=ch) a (λb o j U hc e n=>u.keep b o e n (λz=>(y09.mp<|I.stkSub b z).elim j U) hc) (λb o _ _ hc e n=>u.any e n hc) (λb o hc e n=>u.free b o e n hc) (λb o hc e=>u.there b o e hc) u.tups u.frzs u.tbls (λv M=>by
  let(A,g,d,w,r'):=M;rw[Y]at w;cases w;show⟨_,g,d,j,r'⟩) hok y
theorem Inv.turned{t':Nat}{it:Ad}(I:02 H s)(k:∀b o,b≠it->s.heap.get? b=G o->h'.get? b=G o)(E:H it=B)(y:it≠X.env.locals)
  (Y:it∈X.ex\/X.s₀.heap.objs.size<=it) (h2:∀x c,X.env.cells.lookup x=G c->c≠it) (h3:∀p∈X.pn++pins,p.1≠it):02 H {s with heap:=h',toks:=t'}:=by
 let a:∀b u,H b=G u->b≠it:=λb u e z=>by rw[z,E]at e;cases e
 apply I.step (g':=s.gens) (d':=s.drawn) (ch:=[it]) (λb U=>?_) (λb o _ _ hc e _=>k b o (λz=>hc<|by simp[z]) e) (λb o _ _ hc e _=>⟨o.slots,k b o (λz=>hc<|by simp[z]) e⟩) (λ_ _ _ _ n=>n)
  (λb o hc e=>⟨o,k b o (λz=>hc<|by simp[z]) e⟩) (λ_ _ e=>e) (λ_ _ _ e=>e) (λ_ _ _ e=>e) (λm M=>?_) (λb u e=>?_) I.bare
 .let e:b=it:=by simpa using U
  subst e;show⟨Y,y,h2,h3⟩
 .let(o,i,l,C,r):=M;show⟨o,i,l,k _ o (Ne.symm y) C,r⟩
 .refine(I.hok b u e).stay (λc v hc q=>k c v ?_ q) (λ_ q=>q) (λ_ _ _ _ _ q=>q) λ_ _ q=>q;rcases hc with z|z
  .rw[z];show a b u e
  .exact a c _ z
theorem Inv.tok(I:02 H s)(t:Nat):02 H {s with toks:=t}:=I.un (h':=s.heap) (t':=t) Un.refl I.hok
theorem Inv.kept(I:02 H s)(k:∀b u,s.heap.get? b=G u->h'.get? b=G u):02 H {s with heap:=h',toks:=t'}:=I.un (Un.kept k)<|I.hok.kept k
theorem Inv.laid{a:Ad}{o:HO}{t':Nat}(I:02 H s)(k:∀b u,s.heap.get? b=G u->h'.get? b=G u)(l:s.heap.objs.size<=a)(new:ObjOk X.prog X.w (upd H a o) h' a o):
  02 (upd H a o) {s with heap:=h',toks:=t'}:=I.un (Un.laid k l<|I.hok.fresh l)<|I.hok.laid k l new
theorem Inv.write(I:02 H s)(j:Mut<|H x)(d:e=x\/H e=G (.own x))(k:∀b u,b≠e->s.heap.get? b=G u->h'.get? b=G u)(f:∃u,h'.get? e=G u)
  (new:ObjOk X.prog X.w (upd H x o) h' x o):02 (upd H x o) {s with heap:=h',toks:=t'}:=I.un (Un.write j d k f)<|I.hok.write j d k f new
theorem Inv.pins_of(I:02 H s)(h:∀p∈a,s.heap.get? p.1=G p.2/\H p.1=B/\p.1≠X.env.locals/\p.1∉X.fs/\∀v,p.2.data ≠ .cell v):Inv X a σ H s :=
 ⟨I.ok,I.os,I.bare,I.base,I.loc,I.cell,I.free,I.freeC,λp l=>(y16.mp l).elim (λz=>I.pin p<|y0a _ z)<|h p,I.hok,I.len⟩
theorem zi5{Nq:List Str}(hN:Nq.Nodup){i j:Nat}{x:Str}(a:Nq[i]?=G x)(b:Nq[j]?=G x):i=j:=by
 let(Y,M):=y0d.mp a;let(h2,D):=y0d.mp b;show(List.getElem_inj hN).mp<|M.trans D.symm
theorem zj7(I:02 H s)(hN:X.Nq.Nodup)(hi:X.Nq[i]?=G x)(J:Loc X.env.scope x)(r:RelV v u)
  (h:∀s',Inv X pins (σ.set i 018) H s'->(∃a,Heap.SameBut a s.heap s'.heap/\(a=X.env.locals\/X.env.cells.lookup x=G a))->Q () s') (hf:X.fn x=N\/X.env.scope.names.lookup x=G .local:=by first|show .inl rfl|show .inr rfl|assumption):wpAny M A (jB X.env x u) Q E s:=by
 let(m,hn,C):=id I.loc;let hcls:(X.env.scope.kind ==.class||(X.env.scope.kind ==.module&&X.env.locals !=X.env.globals))=Fa:=by rw[I.ok.kind];rfl
 let lq:i<σ.length:=by rw[I.len];show(y0d.mp hi).1
 let cne:=I.cne;let Y:∀{a:Ad} {h':Heap},(∃o,s.heap.get? a=G o/\H a=B)->Heap.SameBut a s.heap h'->HOk X.prog X.w H h':=λ{a h'} g hs b ob e=>by
  let(_,_,gw):=g;apply(I.hok b ob e).stay (λc w' hc q=>(hs.2 c ?_).trans q) (λ_ q=>q) (λ_ _ _ _ _ q=>q) λ_ _ q=>q;rintro rfl;rcases hc with rfl|hc
  .rw[gw]at e;cases e
  .rw[gw]at hc;cases hc
 rcases J with O|O
 .refine wpAny_storeName_local O hn (λh' hn' hs=>?_) hcls;let(oL,_,_,hoL,_):=id hn;apply h _ ⟨I.ok,I.os,I.bare,⟨λb o e n U J=>?_,λb o e n U J=>?_,I.base.free,λb o e J=>?_,I.base.tups,I.base.frzs,I.base.tbls⟩,⟨_,hn',λj y v' e1 D L=>?_⟩,λy c e=>?_,I.free,I.freeC,λp l=>?_,Y ⟨oL,hoL,I.free⟩ hs,by simpa using I.len⟩ ⟨_,hs,.inl R⟩
  .exact(hs.2 b<|y0m 108).trans<|I.base.keep b o e n U J
  .let(f,e1):=I.base.slot b o e n U J;show⟨f,(hs.2 b<|y0m 108).trans e1⟩
  .let(o',e1):=I.base.there b o e J;show⟨o',(hs.2 b<|y0m 108).trans e1⟩
  .by_cases hj:j=i
   .subst hj;rw[hi]at e1;cases e1;rw[y2p lq]at D;cases D;show⟨u,r,.inl ⟨O,by simp⟩⟩
   .rw[y3d<|Ne.symm hj]at D;let(u',r',q):=C j y v' e1 D L;apply⟨u',r',?_⟩;rcases q with⟨k,e⟩|⟨k,c,e,z⟩
    .refine .inl ⟨k,?_⟩;let:y≠x:=λe=>hj<|zi5 hN e1 (e▸hi);simp[this,e]
    .exact .inr ⟨k,c,e,z.sameBut hs<|cne y c e⟩
  .let(w',z):=I.cell y c e;show⟨w',z.sameBut hs<|cne y c e⟩
  .let(e,n,ne,nf,d):=I.pin p l;show⟨(hs.2 p.1 ne).trans e,n,ne,nf,d⟩
 .let bq:X.fn x=N:=by
   rcases hf with z|z
   .exact z
   .rw[z]at O;cases O
  let(c,hc):=I.ok.has x<|.inl O;let(w',z):=I.cell x c hc;apply wpAny_storeName_cell I.ok.kind O hc z λh' aw hs=>?_;let(oc,w,hocd):=id z;apply h {s with heap:=h'} ⟨I.ok,I.os,I.bare,⟨λb o e n U J=>?_,λb o e n U J=>?_,I.base.free,λb o e J=>?_,I.base.tups,I.base.frzs,I.base.tbls⟩,⟨m,hn.sameBut hs<|Ne.symm (cne x c hc),λj y v' e1 D L=>?_⟩,λy c' e=>?_,I.free,I.freeC,λp l=>?_,Y ⟨oc,w,I.freeC x c hc⟩ hs,by simpa using I.len⟩ ⟨c,hs,.inr hc⟩
  .exact(hs.2 b<|y0m (y0r (y0g e)<|I.ok.cab x c bq hc)).trans<|I.base.keep b o e n U J
  .let(f,e1):=I.base.slot b o e n U J;show⟨f,(hs.2 b<|y0m (y0r (y0g e)<|I.ok.cab x c bq hc)).trans e1⟩
  .let(o',e1):=I.base.there b o e J;show⟨o',(hs.2 b<|y0m (y0r (y0g e)<|I.ok.cab x c bq hc)).trans e1⟩
  .by_cases hj:j=i
   .subst hj;rw[hi]at e1;cases e1;rw[y2p lq]at D;cases D;show⟨u,r,.inr ⟨.inl O,c,hc,aw⟩⟩
   .rw[y3d<|Ne.symm hj]at D;let(u',r',q):=C j y v' e1 D L;apply⟨u',r',?_⟩;rcases q with q|⟨k,c',e,z'⟩
    .exact .inl q
    .refine .inr ⟨k,c',e,z'.sameBut hs ?_⟩;rintro rfl;show hj<|zi5 hN e1 (I.ok.inj _ _ _ e hc▸hi)
  .by_cases hcc:c'=c
   .subst hcc;show⟨_,aw⟩
   .let(w2,T):=I.cell y c' e;show⟨w2,T.sameBut hs hcc⟩
  .let(e,n,ne,nf,d):=I.pin p l;apply⟨(hs.2 p.1 ?_).trans e,n,ne,nf,d⟩;intro q;rw[q,w]at e;let q':oc=p.2:=Option.some.inj e;show d w' (by rw[←q'];show hocd)
theorem zci(I:02 H s)(hN:X.Nq.Nodup)(hi:X.Nq[i]?=G x)(J:Loc X.env.scope x)(r:RelV v u)
  (h:∀s',Inv X pins (σ.set i 018) H s'->Q () s') (j:X.fn x=N\/X.env.scope.names.lookup x=G .local:=by first|show .inl rfl|show .inr rfl|assumption):wpAny M A (jB X.env x u) Q E s :=
 zj7 I hN hi J r (λs' w _=>h s' w) j
theorem Inv.call'{ch:List Ad}(I:02 H s)(Y:s'.os=s.os)(u:Un (frs X.stack) ch H H' s.heap s'.heap)(hok:HOk X.prog X.w H' s'.heap)(y:j8 s'.gens)
  (a:∀b∈ch,175/\b≠X.env.locals/\168/\∀p∈X.pn++pins,p.1≠b):02 H' s':=by
 let(h',g',d',t',A):=s';let e:A=s.os:=Y;subst e;show I.call (g':=g') (t':=t') (d':=d') u hok y a
end
abbrev XK:=Va->Option Ad->Hp->Prop
abbrev St:=List<|Option V
abbrev VK:=V->Hp->Prop
abbrev TE:=St->Hp->VK->Prop
abbrev TT:=St->Hp->(Bool->Hp->Prop)->Prop
abbrev TA:=St->Hp->(List V->Hp->Prop)->Prop
structure Ends where
 nx:St->Hp->Prop
 rt:VK
 bk:St->Hp->Prop:=λ_ _=>False
 ct:St->Hp->Prop:=λ_ _=>False
abbrev TS:=Ends->St->Hp->Prop
def EP(X:Cx)(pins:Y2)(σ:St)(Q:VK)(u:Va)(s':ig):Prop:=∃v H',02 H' s'/\RelV v u/\Q v H'
def TP(X:Cx)(pins:Y2)(σ:St)(Q:Bool->Hp->Prop)(b:Bool)(s':ig):Prop:=∃H',02 H' s'/\Q b H'
def AP(X:Cx)(pins:Y2)(σ:St)(Q:List V->Hp->Prop)(us:List Va)(s':ig):Prop:=∃vs H',02 H' s'/\Vals vs us/\Q vs H'
def SP(X:Cx)(pins:Y2)(D:Ends)(f:Flow)(s':ig):Prop :=
 match f with
 |.next=>∃O H',Inv X pins O H' s'/\D.nx O H'
 |.brk=>∃O H',Inv X pins O H' s'/\D.bk O H'
 |.cont=>∃O H',Inv X pins O H' s'/\D.ct O H'
 |.ret u=>∃v O H',Inv X pins O H' s'/\RelV v u/\D.rt v H'
def PE(X:Cx)(e:Expr)(t:TE):Prop :=
 ∀(pins:Y2) (s:ig) (σ:St) (H:Hp) (Q:VK),02 H s->t σ H Q->wpAny 26 X.A (eval e X.env) 028 X.xe s
def PT(X:Cx)(e:Expr)(t:TT):Prop :=
 ∀(pins:Y2) (s:ig) (σ:St) (H:Hp) (Q:Bool->Hp->Prop),02 H s->t σ H Q->wpAny 26 X.A (isTrue e X.env<|eval e X.env) (TP X pins σ Q) X.xe s
def PW(X:Cx)(e:Expr)(t:TT):Prop :=
 ∀(f:Sem Va) (pins:Y2) (s:ig) (σ:St) (H:Hp) (Q:Bool->Hp->Prop),02 H s->t σ H Q->wpAny 26 X.A (isTrue e X.env f) (TP X pins σ Q) X.xe s
theorem PW.pt(h:PW X e t):PT X e t:=h _
def PA(X:Cx)(es:List Expr)(t:TA):Prop :=
 ∀(pos:Pos) (pins:Y2) (s:ig) (σ:St) (H:Hp) (Q:List V->Hp->Prop),02 H s->t σ H Q->wpAny 26 X.A (spliced 074) (AP X pins σ Q) X.xe s
def PS(X:Cx)(st:Stmt)(t:TS):Prop :=
 ∀(pins:Y2) (s:ig) (σ:St) (H:Hp) (D:Ends),02 H s->t D σ H->wpAny 26 X.A (exec st X.env) (SP X pins D) X.xe s
def PSs(X:Cx)(st:List Stmt)(t:TS):Prop :=
 ∀(pins:Y2) (s:ig) (σ:St) (H:Hp) (D:Ends),02 H s->t D σ H->wpAny 26 X.A (execs st X.env) (SP X pins D) X.xe s
theorem thn{d:Type}{t:Sem d}{Q c:d->ig->Prop}{M:Model}{A:io}{E:Y0}{s:ig}(h:wpAny M A t Q E s)(j:∀a s,Q a s->c a s):wpAny M A t c E s:=ip h j λ_ _ x=>x
section
variable {X:Cx}
def tVar(i:Nat):TE:=λσ H Q=>match σ[i]? with
 |some (G v)=>Q v H
 |_=>False
theorem tvar_ex(h:tVar i σ H Q):∃v,σ[i]?=G 018/\Q v H:=by
 unfold tVar at h;split at h
 .rename_i e;show⟨_,e,h⟩
 .exact h.elim
theorem zf9(e:σ[i]?=G 018)(h:Q v H):tVar i σ H Q:=by
 unfold tVar;rw[e];show h
def tC(v:V):TE:=λ_ H Q=>Q v H
theorem zhv{i:Nat}{x:Str}{pos:Pos}(hN:X.Nq[i]?=G x)(hv:Vis X.env.scope x)(hd:82=Fa:=by decide)(hcd:079=Fa:=by decide):PE X (.Name x pos) (tVar i):=by
 intro pins s σ H Q I h;let(v,e,h):=tvar_ex h;let(m,E,C):=I.loc;let(u,r,l):=C i x v hN e hv;let fin:EP X pins σ Q u s:=⟨v,H,I,r,h⟩;rcases l with⟨O,M⟩|⟨O,c,hc,a⟩
 .exact wpAny_Name (wpAny_loadName_local I.ok.kind O E M fin) hd
 .rcases O with O|O
  .exact wpAny_Name (wpAny_loadName_cell I.ok.kind O hc a fin) hd
  .exact wpAny_Name (wpAny_loadName_free I.ok.kind O hc a fin hcd) hd
theorem zaf:PE X (.Constant (.int i) j pos) (tC<|.int i):=λ_ _ _ H _ I h=>wpAny_Constant_int ⟨.int i,H,I.tok _,⟨_,R⟩,h⟩
theorem zes:PE X (.Constant (.bool b) j pos) (tC<|.bl b):=λ_ _ _ H _ I h=>Constant_bool ⟨.bl b,H,I,R,h⟩
theorem zkw:PE X (.Constant .none j pos) (tC .non):=λ_ _ _ H _ I h=>Constant_none ⟨.non,H,I,R,h⟩
theorem zae:PE X (.Constant (.str x) j pos) (tC<|.str x):=λ_ _ _ H _ I h=>Calls.Constant_str ⟨.str x,H,I.tok _,⟨_,R⟩,h⟩
def Gl(X:Cx)(x:Str):Prop:=X.env.kindOf x=G .globalImplicit
theorem zb8{E:Y0}{pins:Y2}{s:ig}{σ:St}{H:Hp}{x:Str}{u:Va}{pos:Pos}{Q:Y0}(I:02 H s)(y:Gl X x)(M:X.mg x=G u)(h:Q u s)
  (hd:82=Fa:=by decide):wpAny 26 X.A (eval (.Name x pos) X.env) Q E s :=
 Calls.Name_function_global I.ok.kind y (Calls.loadGlobal_global (by rw[I.ok.glob];show I.mod.glob.keeps I.bk) M h) hd
theorem zc8{E:Y0}{pins:Y2}{s:ig}{σ:St}{H:Hp}{x:Str}{u:Va}{pos:Pos}{Q:Y0}(I:02 H s)(y:Gl X x)(M:X.mg x=B)(hv:iY x=G u)(h:Q u s)
  (L:x≠"__name__":=by decide) (hd:82=Fa:=by decide):wpAny 26 X.A (eval (.Name x pos) X.env) Q E s:=by
 let(mb,Y,h2):=I.mod.blt;show Calls.Name_function_global I.ok.kind y (Calls.loadGlobal_builtin (by rw[I.ok.glob];show I.mod.glob.keeps I.bk) M (by rw[I.ok.blt];show Y.keeps I.bk) ((h2 x L).trans hv) h) hd
theorem zr8(y:Gl X x)(M:X.mg x=G u)(r:RelV v u)(hd:82=Fa:=by decide):PE X (.Name x pos) (tC v) :=
 λ_ _ _ H _ I h=>zb8 I y M ⟨v,H,I,r,h⟩ hd
theorem zcf{x:Str}{v:V}{u:Va}{pos:Pos}(y:Gl X x)(M:X.mg x=B)(hv:iY x=G u)(r:RelV v u)(E:x≠"__name__":=by decide)(hd:82=Fa:=by decide):PE X (.Name x pos) (tC v) :=
 λ_ _ _ H _ I h=>zc8 I y M hv ⟨v,H,I,r,h⟩ E hd
variable {a b:Expr}{ta tb:TE}{pos:Pos}
def asI(x:V)(k:Int->Prop):Prop:=match x with
 |.int i=>k i
 |_=>False
theorem zd2(h:asI x k):∃i,x=.int i/\k i:=by
 cases x<;>first|show⟨_,R,h⟩|show False.elim h
theorem asI_l:asI (.int i) k=k i:=rfl
def asR(x:V)(k:Ad->Prop):Prop:=match x with
 |.ref i=>k i
 |_=>False
theorem zc9(h:asR x k):∃i,x=.ref i/\k i:=by
 cases x<;>first|show⟨_,R,h⟩|show False.elim h
theorem asR_l:asR (.ref i) k=k i:=rfl
def asS(x:V)(k:Str->Prop):Prop:=match x with
 |.str i=>k i
 |_=>False
theorem asS_ex(h:asS x k):∃i,x=.str i/\k i:=by
 cases x<;>first|show⟨_,R,h⟩|show False.elim h
theorem asS_l:asS (.str i) k=k i:=rfl
def asB(x:V)(k:Bool->Prop):Prop:=match x with
 |.bl i=>k i
 |_=>False
theorem zpd(h:asB x k):∃i,x=.bl i/\k i:=by
 cases x<;>first|show⟨_,R,h⟩|show False.elim h
theorem asB_l:asB (.bl i) k=k i:=rfl
def tB(t:TE):TT:=λσ H Q=>t σ H λx H1=>asB x λc=>Q c H1
theorem zbv(h:PE X e t)(z:∀f,isTrue e X.env f=(do let v ←f;standAt e.pos;holding [v] (truthy v)):=by intro _;rfl):PT X e (tB t):=by
 intro pins s σ H Q I O;apply isTrue_plain (thn (h pins s σ H _ I O) λv s1 zz=>ex5 zz λx H1 I1 r1 q1=>?_)<|z _;let(d,rfl,q):=zpd q1;cases r1;show iC ⟨H1,I1,q⟩
variable {tA tB':TT}{rest:List Expr}
def tAnd(t u:TT):TT:=λσ H Q=>t σ H λc H1=>if c=N then u σ H1 Q else Q Fa H1
def tOr(t u:TT):TT:=λσ H Q=>t σ H λc H1=>if c=N then Q N H1 else u σ H1 Q
def tNot(t:TT):TT:=λσ H Q=>t σ H λc H1=>Q (!c) H1
theorem pw_and1(g:PT X a tA):PW X (.BoolOp .And [a] pos) tA:=by
 intro d pins s σ H Q I h;apply isTrue_and<|thn (g pins s σ H Q I h) λc s1 e=>?_;cases c with
 |true=>show isTrue_and_nil e
 |false=>show e
theorem zeo(g:PT X a tA):PW X (.BoolOp .Or [a] pos) tA:=by
 intro d pins s σ H Q I h;apply isTrue_or<|thn (g pins s σ H Q I h) λc s1 e=>?_;cases c with
 |false=>show isTrue_or_nil e
 |true=>show e
theorem pw_and(ha:PT X a tA)(U:PW X (.BoolOp .And (b::rest) pos) tB'):PW X (.BoolOp .And (a::b::rest) pos) (tAnd tA tB'):=by
 intro d pins s σ H Q I h;apply isTrue_and<|thn 063 λc s1 ⟨H1,I1,q1⟩=>?_;cases c with
 |true=>show U d pins s1 σ H1 Q I1 q1
 |false=>show⟨H1,I1,q1⟩
theorem zfx(ha:PT X a tA)(U:PW X (.BoolOp .Or (b::rest) pos) tB'):PW X (.BoolOp .Or (a::b::rest) pos) (tOr tA tB'):=by
 intro d pins s σ H Q I h;apply isTrue_or<|thn 063 λc s1 ⟨H1,I1,q1⟩=>?_;cases c with
 |true=>show⟨H1,I1,q1⟩
 |false=>show U d pins s1 σ H1 Q I1 q1
theorem zce(g:PT X a tA):PT X (.UnaryOp .Not a pos) (tNot tA):=by
 intro pins s σ H Q I h;show isTrue_not<|g pins s σ H (λc H1=>Q (!c) H1) I h
def tAndV(ta tb:TE):TE:=λσ H Q=>ta σ H λx H1=>∃c,x=.bl c/\if c=N then tb σ H1 Q else Q (.bl Fa) H1
def tOrV(ta tb:TE):TE:=λσ H Q=>ta σ H λx H1=>∃c,x=.bl c/\if c=N then Q (.bl N) H1 else tb σ H1 Q
def tNotV(ta:TE):TE:=λσ H Q=>ta σ H λx H1=>∃c,x=.bl c/\Q (.bl<|!c) H1
theorem zd1(h:PE X a t):PE X (.BoolOp L [a] pos) t:=λpins s σ H Q I O=>BoolOp_one<|h pins s σ H Q I O
theorem zdg(ha:PE X a ta)(U:PE X (.BoolOp .And (b::rest) pos) tb):PE X (.BoolOp .And (a::b::rest) pos) (tAndV ta tb):=by
 intro pins s σ H Q I h;apply BoolOp_and<|thn 063 λv s1 zz=>ex5 zz λx H1 I1 r1 q1=>?_;let(c,rfl,q1):=q1;cases r1;apply iC ?_;cases c with
 |true=>show U pins s1 σ H1 Q I1 q1
 |false=>show⟨.bl Fa,H1,I1,R,q1⟩
theorem pe_or(ha:PE X a ta)(U:PE X (.BoolOp .Or (b::rest) pos) tb):PE X (.BoolOp .Or (a::b::rest) pos) (tOrV ta tb):=by
 intro pins s σ H Q I h;apply BoolOp_or<|thn 063 λv s1 zz=>ex5 zz λx H1 I1 r1 q1=>?_;let(c,rfl,q1):=q1;cases r1;apply iC ?_;cases c with
 |false=>show U pins s1 σ H1 Q I1 q1
 |true=>show⟨.bl N,H1,I1,R,q1⟩
theorem zyv(ha:PE X a ta):PE X (.UnaryOp .Not a pos) (tNotV ta):=by
 intro pins s σ H Q I h;apply UnaryOp_<|thn 063 λv s1 zz=>ex5 zz λx H1 I1 r1 q1=>?_;let(c,rfl,q1):=q1;cases r1;show not_of<|iC ⟨.bl<|!c,H1,I1,R,q1⟩
def tIf(t:TT)(ta tb:TE):TE:=λσ H Q=>t σ H λc H1=>if c=N then ta σ H1 Q else tb σ H1 Q
theorem zer(hc:PT X c tA)(g:PE X a ta)(U:PE X b tb):PE X (.IfExp c a b pos) (tIf tA ta tb):=by
 intro pins s σ H Q I h;apply wpAny_IfExp<|thn (hc pins s σ H _ I h) λd s1 ⟨H1,I1,q1⟩=>?_;cases d with
 |true=>show g pins s1 σ H1 Q I1 q1
 |false=>show U pins s1 σ H1 Q I1 q1
end
def SqL(K:Frag)(H:Hp)(a:Ad)(xs:List V):Prop :=
 Rd H a 99\/
  ∃(o:Obj) (its:Array Va) (n:Nat),K.lookup a=G o/\o.cls=.type "list"/\o.dict=B/\o.data=.seq its n/\its.size<=ii/\Vals xs its.toList
def SqT(K:Frag)(H:Hp)(a:Ad)(xs:List V):Prop :=
 Rd H a 011\/
  ∃(o:Obj) (its:Array Va) (n:Nat),K.lookup a=G o/\o.cls=.type "tuple"/\o.data=.seq its n/\its.size<=ii/\Vals xs its.toList
noncomputable def absV:Va->Option V
 |.none=>G .non
 |.bool b=>G<|.bl b
 |.int i _=>G<|.int i
 |.str x _=>G<|.str x
 |.bytes b _=>G<|.byt b
 |.float b _=>G<|.flt b
 |.ref a=>G 07
 |.type n=>G<|.ty n
 |_=>B
theorem RelV.abs(r:RelV x u):absV u=G x:=by
 cases x with
 |non=>cases r;rfl
 |bl _=>cases r;rfl
 |int _=>let(t,rfl):=r;rfl
 |str _=>let(t,rfl):=r;rfl
 |byt _=>let(t,rfl):=r;rfl
 |flt _=>let(t,rfl):=r;rfl
 |ref _=>cases r;rfl
 |ty _=>cases r;rfl
theorem RelV.inj(r:RelV x u)(q:RelV y u):x=y:=Option.some.inj<|r.abs.symm.trans q.abs
theorem Vals.inj:∀{xs ys:List V} {us:List Va},Vals xs us->Vals ys us->xs=ys
 |_,_,_,.nil,.nil=>rfl
 |_,_,_,.cons r t,.cons r' t'=>by rw[r.inj r',Vals.inj t t']
section
variable {X:Cx}{pins:Y2}{σ:St}{H:Hp}{s:ig}{a:Ad}{xs ys:List V}
theorem SqL.of{K:Frag}(h:H a=G 99):SqL K H a xs:=.inl<|.inl h
theorem SqT.of{K:Frag}(h:H a=G 011):SqT K H a xs:=.inl<|.inl h
theorem Inv.list(I:02 H s)(h:SqL X.K H a xs):∃its:List Va,Vals xs its/\PlainL s.heap a its.toArray/\xs.length<=ii:=by
 rcases h with h|⟨o,its,n,O,hc,hd,hs,hz,r⟩
 .let(z,its,n,r,e):=h.ok I.hok;show⟨its,r,⟨_,n,e,R,R,R⟩,z⟩
 .refine⟨its.toList,r,⟨o,n,I.kIn a o O,hc,hd,by simpa using hs⟩,?_⟩;let e:=r.length;simp only[y1m]at e;omega
theorem Inv.tuple(I:02 H s)(h:SqT X.K H a xs):∃its:List Va,Vals xs its/\IsTup s.heap a its.toArray/\xs.length<=ii:=by
 rcases h with h|⟨o,its,n,O,hc,hs,hz,r⟩
 .let(z,its,r,p):=h.ok I.hok;show⟨its,r,p,z⟩
 .refine⟨its.toList,r,⟨o,I.kIn a o O,hc,n,by simpa using hs⟩,?_⟩;let e:=r.length;simp only[y1m]at e;omega
theorem Inv.list_inj(I:02 H s)(h:SqL X.K H a xs)(h':SqL X.K H a ys):xs=ys:=by
 let(its,r,(o,n,e,_,_,d),_):=I.list h;let(its',r',(A,c,l,_,_,d'),_):=I.list h';rw[e]at l;cases l;rw[d]at d';injection d' with g _
 let:its=its':=by simpa using congrArg Array.toList g
 subst this;show r.inj r'
theorem Inv.tuple_inj(I:02 H s)(h:SqT X.K H a xs)(h':SqT X.K H a ys):xs=ys:=by
 let(its,r,(o,e,_,n,d),_):=I.tuple h;let(its',r',(A,l,_,c,d'),_):=I.tuple h';rw[e]at l;cases l;rw[d]at d';injection d' with g _
 let:its=its':=by simpa using congrArg Array.toList g
 subst this;show r.inj r'
end
noncomputable abbrev Cx.wish(X:Cx)(E:Y0):Cx:={X with xe:=E}
noncomputable abbrev Cx.nox(X:Cx):Cx:=X.wish λ_ _=>False
theorem Cx.Ok.wish{X:Cx}(ok:X.Ok)(E:Y0):(X.wish E).Ok :=
 187
theorem Cx.Ok.unwish{X:Cx}(ok:(X.wish E).Ok):X.Ok :=
 187
section
variable {X:Cx}{pins:Y2}{σ:St}{H:Hp}{s:ig}{E:Y0}
theorem Inv.wish(I:02 H s)(E:Y0):Inv (X.wish E) pins σ H s:=⟨I.ok.wish E,I.os,I.bare,I.base,I.loc,I.cell,I.free,I.freeC,I.pin,I.hok,I.len⟩
theorem Inv.unwish(I:Inv (X.wish E) pins σ H s):02 H s:=⟨I.ok.unwish,I.os,I.bare,I.base,I.loc,I.cell,I.free,I.freeC,I.pin,I.hok,I.len⟩
theorem SP.unwish(h:SP (X.wish E) pins D f s'):SP X pins D f s':=by
 cases f with
 |next=>let(O,H',I,q):=h;show⟨O,H',I.unwish,q⟩
 |brk=>let(O,H',I,q):=h;show⟨O,H',I.unwish,q⟩
 |cont=>let(O,H',I,q):=h;show⟨O,H',I.unwish,q⟩
 |ret u=>let(v,O,H',I,r,q):=h;show⟨v,O,H',I.unwish,r,q⟩
theorem PSs.nox{st:List Stmt}{t:TS}(h:PSs X.nox st t):PSs X st t:=λpins s σ H D I O =>
 ip (h pins s σ H D (I.wish _) O) (λ_ _ q=>q.unwish) λ_ _ z=>False.elim z
end
section
variable {X:Cx}{st:Stmt}{rest:List Stmt}{t u:TS}{e:Expr}{te:TE}{pos:Pos}
def tNext:TS:=λD σ H=>D.nx σ H
def tSeq(t u:TS):TS:=λD σ H=>t {D with nx:=u D} σ H
theorem zan:PSs X [] tNext:=λ_ _ σ H _ I h=>iU ⟨σ,H,I,h⟩
theorem zab(Y:PS X st t)(h2:PSs X rest u):PSs X (st::rest) (tSeq t u):=by
 intro pins s σ H D I h;apply iK<|thn (Y pins s σ H {D with nx:=u D} I h) λf s1 q=>?_;cases f with
 |next =>
  let(O,H',w,q):=q;show h2 pins s1 O H' D w q
 |ret v=>show q
 |brk=>show q
 |cont=>show q
theorem zac(Y:PS X st t):PSs X [st] t:=by
 intro pins s σ H D I h;apply iK<|thn (Y pins s σ H D I h) λf s1 q=>?_;cases f with
 |next=>show iU q
 |ret v=>show q
 |brk=>show q
 |cont=>show q
def tBreak:TS:=λD σ H=>D.bk σ H
def tCont:TS:=λD σ H=>D.ct σ H
theorem Inv.quiet{pins:Y2}{σ:St}{H:Hp}{s:ig}(I:02 H s):interactive X.env=Fa:=by simp[interactive,I.ok.kind]
def tDrop(te:TE):TS:=λD σ H=>te σ H λ_ H1=>D.nx σ H1
theorem za8(d:PE X e te)(hs:ju e B pos.line X.env=pure Fa:=by rfl):PS X (.Expr e pos) (tDrop te):=by
 intro pins s σ H D I h;show wpAny_Expr_any (thn (d pins s σ H _ I h) λv s1 zz=>ex5 zz λx H1 I1 r1 q1=>⟨σ,H1,I1,q1⟩) I.quiet hs
def tRet(te:TE):TS:=λD σ H=>te σ H D.rt
theorem zah(d:PE X e te):PS X (.Return (G e) pos) (tRet te):=by
 intro pins s σ H D I h;show wpAny_Return_some<|thn (d pins s σ H _ I h) λv s1 zz=>ex5 zz λx H1 I1 r1 q1=>⟨x,σ,H1,I1,r1,q1⟩
def tRetN:TS:=λD _ H=>D.rt .non H
def tIfS(c:TT)(t u:TS):TS:=λD σ H=>c σ H λb H1=>if b=N then t D σ H1 else u D σ H1
theorem za3(hc:PT X c q)(g:PSs X a t)(U:PSs X b u):PS X (.If c a b pos) (tIfS q t u):=by
 intro pins s σ H D I h;apply wpAny_If<|thn (hc pins s σ H _ I h) λd s1 ⟨H1,I1,q1⟩=>?_;cases d with
 |true=>show g pins s1 σ H1 D I1 q1
 |false=>show U pins s1 σ H1 D I1 q1
def tNever:TS:=λ_ _ _=>False
theorem ziz:PS X st tNever:=λ_ _ _ _ _ _ h=>h.elim
theorem zcq:PSs X a tNever:=λ_ _ _ _ _ _ h=>h.elim
end
abbrev TG:=V->St->Hp->(St->Hp->Prop)->Prop
abbrev TGs:=List V->St->Hp->(St->Hp->Prop)->Prop
def PG(X:Cx)(a:Expr)(t:TG):Prop :=
 ∀(pins:Y2) (s:ig) (σ:St) (H:Hp) (v:V) (u:Va) (Q:St->Hp->Prop),02 H s->RelV v u->t v σ H Q->
  wpAny 26 X.A (assign a X.env u) (λ_ s'=>∃O H',Inv X pins O H' s'/\Q O H') X.xe s
def PGs(X:Cx)(ts:List Expr)(t:TGs):Prop :=
 ∀(pins:Y2) (s:ig) (σ:St) (H:Hp) (vs:List V) (us:List Va) (Q:St->Hp->Prop),02 H s->Vals vs us->t vs σ H Q->
  wpAny 26 X.A (assignInOrder ((jn ts X.env).map (·.2)) us) (λ_ s'=>∃O H',Inv X pins O H' s'/\Q O H') X.xe s
abbrev TSet:=V->V->V->Hp->(Hp->Prop)->Prop
abbrev TIp:=V->V->Hp->VK->Prop
def PIp(X:Cx)(L:Operator)(t:TIp):Prop :=
 ∀(pins:Y2) (s:ig) (σ:St) (H:Hp) (x y:V) (v u:Va) (Q:VK),02 H s->RelV x v->RelV y u->t x y H Q->
  wpAny 26 X.A (inplaceOp L v u) 028 X.xe s
section
variable {X:Cx}{pos:Pos}
def gName(i:Nat):TG:=λv σ H Q=>Q (σ.set i 018) H
theorem zaq(hN:X.Nq.Nodup)(hi:X.Nq[i]?=G x)(J:Loc X.env.scope x)(j:X.fn x=N\/X.env.scope.names.lookup x=G .local:=by first|show .inl rfl|show .inr rfl|assumption):PG X (.Name x pos) (gName i):=by
 intro pins s σ H v u Q I r h;show wpAny_assign_Name<|zci I hN hi J r (λs' w=>⟨_,H,w,h⟩) j
def gNil:TGs:=λvs σ H Q=>vs=[]/\Q σ H
def gCons(t:TG)(u:TGs):TGs:=λvs σ H Q=>∃v r,vs=v::r/\t v σ H λO H'=>u r O H' Q
theorem zea:PGs X [] gNil:=by
 intro pins s σ H vs us Q I r h;let(e,h):=h;subst e;cases r;show assignInOrder_nil ⟨σ,H,I,h⟩
theorem zbj(Y:PG X e t)(h2:PGs X i u)
  (hs:(jn (e::i) X.env).map (·.2)=assign e X.env::(jn i X.env).map (·.2):=by rfl):PGs X (e::i) (gCons t u):=by
 intro pins s σ H vs us Q I r h;let(v,c,M,h):=h;subst M;cases r with
 |cons r g =>
  rw[hs];apply assignInOrder_cons<|thn (Y pins s σ H _ _ _ I r h) λ_ s1 ⟨a,H1,I1,q1⟩=>?_;show h2 pins s1 a H1 _ _ Q I1 g q1
def gTup(K:Frag)(n:Nat)(t:TGs):TG:=λv σ H Q=>∃a xs,v=.ref a/\SqT K H a xs/\xs.length=n/\t xs σ H Q
theorem pg_tup{i:List Expr}{k:Nat}{t:TGs}{n:Nat}(hc:X.calm=N)(h:PGs X i t)
  (E:(jn i X.env).length=n:=by rfl) (l:(jn i X.env).findIdx? (·.1)=B:=by rfl):PG X (.Tuple i k pos) (gTup X.K n t):=by
 intro pins s σ H v u Q I r O;let(a,xs,M,T,C,O):=O;subst M;cases r;let(its,d,j,hz):=I.tuple T;apply assign_Tuple_tuple 026 j (by simp[E,←C,d.length]) l λh' J=>?_;let I1:02 H {s with heap:=h'}:=I.kept (t':=s.toks) λb o e=>J b o (y0m<|y0g e) e;show h pins _ σ H xs _ Q I1 (by simpa using d) O
def gSub(c ti:TE)(t:TSet):TG:=λv σ H Q=>c σ H λo H1=>ti σ H1 λi H2=>t o i v H2 λH3=>Q σ H3
def tAsg(te:TE)(g:TG):TS:=λD σ H=>te σ H λx H1=>g x σ H1 D.nx
theorem zal(hN:X.Nq.Nodup)(hi:X.Nq[i]?=G x)(J:Loc X.env.scope x)(d:PE X e te)(hs:ju e (G<|.Name x f) pos.line X.env=pure Fa:=by rfl)(j:X.fn x=N\/X.env.scope.names.lookup x=G .local:=by first|show .inl rfl|show .inr rfl|assumption):
  PS X (.Assign [.Name x f] e pos) (tAsg te<|gName i):=by
 intro pins s σ H D I h;apply wpAny_Assign_Name (thn (d pins s σ H _ I h) λv s1 zz=>ex5 zz λy H1 I1 r1 q1=>?_) hs;show zci I1 hN hi J r1 (λs2 A=>⟨_,H1,A,q1⟩) j
def tPar(i j:Nat)(A:TA):TS:=λD σ H=>A σ H λvs H1=>∃v w,vs=[v,w]/\D.nx ((σ.set i 018).set j<|G w) H1
def tAug(i:Nat)(te:TE)(ti:TIp):TS:=λD σ H=>∃x,σ[i]?=G (G x)/\te σ H λy H1=>ti x y H1 λz H2=>D.nx (σ.set i<|G z) H2
theorem zyr(hN:X.Nq.Nodup)(hi:X.Nq[i]?=G x)(J:Loc X.env.scope x)(d:PE X e te)(Y:PIp X L ti)(j:X.fn x=N\/X.env.scope.names.lookup x=G .local:=by first|show .inl rfl|show .inr rfl|assumption):
  PS X (.AugAssign (.Name x f) L e pos) (tAug i te ti):=by
 intro pins s σ H D I h;let(v,M,h):=h;let(m,E,C):=I.loc;let g:Vis X.env.scope x:=by rcases J with k|k;show .inl k;show .inr<|.inl k
 let(u,r,l):=C i x v hi M g;apply wpAny_AugAssign_Name ?_;let go:wpAny 26 X.A (eval e X.env) (λw s₂=>wpAny 26 X.A (inplaceOp L u w) (λr s₃=>wpAny 26 X.A (jB X.env x r) (λ_=>SP X pins D .next) X.xe s₃) X.xe s₂) X.xe s:=by
  apply thn (d pins s σ H _ I h) λw s1 zz=>ex5 zz λy H1 I1 r1 q1=>?_;apply thn (Y pins s1 σ H1 v y u w _ I1 r r1 q1) λz s2 zz=>ex5 zz λo H2 A T q2=>?_;show zci A hN hi J T (λp q=>⟨_,H2,q,q2⟩) j
 rcases l with⟨O,Q⟩|⟨O,c,hc,a⟩
 .exact wpAny_loadName_local I.ok.kind O E Q go
 .rcases O with O|O
  .exact wpAny_loadName_cell I.ok.kind O hc a go
  .rcases J with k|k
   .let:X.env.scope.names.lookup x=G .free:=O;rw[k]at this;cases this
   .let:X.env.scope.names.lookup x=G .free:=O;rw[k]at this;cases this
def ipI(f:Int->Int->Int):TIp:=λx y H Q=>∃i j,x=.int i/\y=.int j/\Q (.int<|f i j) H
theorem zy8:PIp X .Add (ipI λi j=>i+j):=by
 intro pins s σ H x y v u Q I r1 T h;let(i,j,M,D,q):=h;subst M;subst D;let(t,rfl):=r1;let(t',rfl):=T;show iadd_int 174
end
section
variable {X:Cx}{pos:Pos}
def tWhile(c:TT)(Y:TS):TS:=λD σ H=>∃W:Nat->St->Hp->Prop,(∃m,W m σ H)/\∀m σ H,W m σ H->
 c σ H λb H1=>if b=N then∃Nq:St->Hp->Prop,(∀O H',Nq O H'->∃o,o<m/\W o O H')/\Y {D with nx:=Nq,ct:=Nq,bk:=D.nx} σ H1 else D.nx σ H1
theorem zep(l:PassesOwn 26 X.A X.env X.xe)(hc:PT X c q)(U:PSs X body Y):PS X (.While c body [] pos) (tWhile q Y):=by
 intro pins s σ H D I h;let(W,(e,g),turn):=h;apply wpAny_While<|codeAny_whileLoop (λn s'=>∃O H',Inv X pins O H' s'/\W n O H') ?_ e ⟨σ,H,I,g⟩;rintro n s1 ⟨a,H1,I1,i⟩;apply iW l<|thn (hc pins s1 a H1 _ I1<|turn n a H1 i) λb s2 ⟨H2,A,q2⟩=>?_;cases b with
 |true =>
  let(Nq,hN,q2):=q2;rw[Xq rfl];apply iW l<|thn (U pins s2 a H2 _ A q2) λf p q3=>?_;cases f with
  |next =>
   let(z,H3,w,j):=q3;let(o,M,d):=hN z H3 j;show⟨o,M,z,H3,w,d⟩
  |cont =>
   let(z,H3,w,j):=q3;let(o,M,d):=hN z H3 j;show⟨o,M,z,H3,w,d⟩
  |brk=>show q3
  |ret v=>show q3
 |false =>
  rw[Xp y0k];show iU ⟨a,H2,A,q2⟩
end
structure It where
 go:Nat->Hp->Prop
 yld:Nat->Hp->V->Hp->Prop
 stop:Nat->Hp->Prop
def FpOk(X:Cx)(pins:Y2)(H:Hp)(b:Ad):Prop :=
 H b=B/\b≠X.env.locals/\b∉X.fs/\175/\168/\∀p∈X.pn++pins,p.1≠b
theorem Inv.fpOk{X:Cx}{pins:Y2}{σ:St}{H H':Hp}{s:ig}{b:Ad}(I:02 H s)(U:s.heap.objs.size<=b)(E:H' b=B):FpOk X pins H' b:=by
 apply⟨E,y2d<|y0r I.lt U,I.nofs U,.inr<|y0v I.sz U,λx c e z=>?_,λp l z=>?_⟩
 .let(v,q):=I.cell x c e;show Xa (y0r q.lt<|by rw[z];show U)<|y1p _
 .exact Xa (y0r (y0g (I.pin p l).1)<|by rw[z];show U)<|y1p _
structure Turn(P:ik)(w:World)(K:Frag)(tg:Expr)(J:It)(fp:List Ad)(it:Ad)(tn:Nat->Heap->Prop):Prop where
 mem:it∈fp
 obj:∀i h,tn i h->∀b∈fp,∃o,h.get? b=G o/\∀v,o.data ≠ .cell v
 keep:∀i h h',tn i h->(∀b∈fp,∀o,h.get? b=G o->h'.get? b=G o)->tn i h'
 item:∀(X:Cx),X.prog=P->X.w=w->X.K=K->X.calm=N->∀(i:Nat) (pins:Y2) (s:ig) (σ:St) (H:Hp) (E:Y0),02 H s->(∀b∈fp,FpOk X pins H b)->tn i s.heap->J.go i H->
  wpAny 014 X.A (j5 035) (λr s1=>∃u,r=G u/\
   wpAny 014 X.A (iX tg 035 u) (λ_ s2=>∃x H',02 H' s2/\RelV x u/\J.yld i H x H'/\tn (i+1) s2.heap/\∀b∈fp,H' b=B) E s1) E s
 done:∀(X:Cx),X.prog=P->X.w=w->X.K=K->X.calm=N->∀(i:Nat) (pins:Y2) (s:ig) (σ:St) (H:Hp) (E:Y0),02 H s->(∀b∈fp,FpOk X pins H b)->tn i s.heap->J.stop i H->
  wpAny 014 X.A (j5 035) (λr s1=>r=B/\02 H s1) E s
 self:∀(A:io) (i:Nat) (s:ig) (Q:Y0) (E:Y0),tn i s.heap->Q 035 s->wpAny 014 A (lf 035) Q E s
abbrev TI:=St->Hp->(It->Hp->Prop)->Prop
def PIE(X:Cx)(pins:Y2)(σ:St)(r:Expr)(Rq:It->Hp->Prop)(a:Va)(s2:ig):Prop :=
 ∃(it:Ad) (fp:List Ad) (tn:Nat->Heap->Prop) (J:It) (H':Hp),a=.ref it/\02 H' s2/\Turn X.prog X.w X.K r J fp it tn/\tn 0 s2.heap/\(∀b∈fp,FpOk X pins H' b)/\Rq J H'
def PI(X:Cx)(r iter:Expr)(c:TI):Prop :=
 ∀(pins:Y2) (s:ig) (σ:St) (H:Hp) (Rq:It->Hp->Prop),02 H s->c σ H Rq->
  wpAny 26 X.A (eval iter X.env) (λv s1=>wpAny 26 X.A (lf v) (PIE X pins σ r Rq) X.xe s1) X.xe s
theorem zxt(Y:s.heap.get? it=G o)(hc:o.cls=.type n)(hd:o.data=.fields vs)
  (L:["enumerate","zip","dict_itemiterator","dict_reverseitemiterator","odict_iterator","itertools.zip_longest","itertools.pairwise"].contains n=Fa) (j:Q () s):wpAny M A (iX r 035 u) Q E s:=by
 unfold iX;cases r<;>first
  |show ib j
  |(cases u<;>first
    |show ib j
    |(apply ia (wpAny_load Y ?_)
      rw[hc,hd];change wpAny M A (if(["enumerate","zip","dict_itemiterator","dict_reverseitemiterator","odict_iterator","itertools.zip_longest","itertools.pairwise"].contains n&&vs[0]? ==G (iF _))=N then _ else _) Q E s;rw[Xp<|by intro h;rw[L,y1b]at h;cases h];show ib j))
noncomputable def Itl(K:Frag)(a:Ad):It :=
 ⟨λi H=>∃xs x,SqL K H a xs/\xs[i]?=G x,λi H x H'=>H'=H/\∀xs,SqL K H a xs->xs[i]?=G x,λi H=>∃xs,SqL K H a xs/\xs.length<=i⟩
noncomputable def Itt(K:Frag)(a:Ad):It :=
 ⟨λi H=>∃xs x,SqT K H a xs/\xs[i]?=G x,λi H x H'=>H'=H/\∀xs,SqT K H a xs->xs[i]?=G x,λi H=>∃xs,SqT K H a xs/\xs.length<=i⟩
noncomputable def Itr(lo:Int)(n:Nat):It:=⟨λi _=>i<n,λi H x H'=>H'=H/\x=.int (lo+i),λi _=>n<=i⟩
theorem zrb{P:ik}{w:World}{K:Frag}{r:Expr}(a it:Ad):Turn P w K r (Itl K a) [it] it (λi h=>h.IsListIter it a i) where
 mem:=by simp
 obj:=λi h st b U=>by
  let e:b=it:=by simpa using U
  subst e;let(o,e,c,d):=st;show⟨o,e,λv z=>by rw[d]at z;cases z⟩
 keep:=λi h h' st k=>st.at λo e=>k it 05 o e
 item:=by
  intro X g O Q hc i pins s σ H E I j st y;subst g O Q;let(xs,x,T,J):=y;let(its,rv,p,hz):=I.list T;let(u,hu,f):=rv.get J;let(M,f1,q,D,A,l):=j it 05;apply wpAny_pyNext_list_item st p.isList (x:=u) (by simpa using hu) λh' Y sb=>?_;let I1:02 H {s with heap:=h'}:=I.turned (t':=s.toks) (λb o U e=>(sb.2 b U).trans e) M f1 D A l;let(o,e,c,d):=id Y;show⟨u,R,zxt (s:={s with heap:=h'}) e c d (by decide) ⟨x,H,I1,f,⟨R,λys L=>by rw[I.list_inj L T];show J⟩,Y,λb U=>(j b U).1⟩⟩
 done:=by
  intro X g O Q hc i pins s σ H E I j st y;subst g O Q;let(xs,T,J):=y;let(its,rv,p,hz):=I.list T;let(M,f1,q,D,A,l):=j it 05;let C:=rv.length;show wpAny_pyNext_list_end 026 st p.isList (by simp;omega) λh' eb=>⟨R,I.turned (t':=s.toks) (λb o U e=>eb b o U e) M f1 D A l⟩
 self:=λ_ _ _ _ _ st h=>wpAny_pyIter_listiter st h
theorem zpj{P:ik}{w:World}{K:Frag}{r:Expr}(a it:Ad):Turn P w K r (Itt K a) [it] it (λi h=>h.IsTupleIter it a i) where
 mem:=by simp
 obj:=λi h st b U=>by
  let e:b=it:=by simpa using U
  subst e;let(o,e,c,d):=st;show⟨o,e,λv z=>by rw[d]at z;cases z⟩
 keep:=λi h h' st k=>st.at λo e=>k it 05 o e
 item:=by
  intro X g O Q hc i pins s σ H E I j st y;subst g O Q;let(xs,x,T,J):=y;let(its,rv,p,hz):=I.tuple T;let(u,hu,f):=rv.get J;let(M,f1,q,D,A,l):=j it 05;apply wpAny_pyNext_tuple_item st (show s.heap.IsTuple a its.toArray from p) (x:=u) (by simpa using hu) λh' Y sb=>?_;let I1:02 H {s with heap:=h'}:=I.turned (t':=s.toks) (λb o U e=>(sb.2 b U).trans e) M f1 D A l;let(o,e,c,d):=id Y;show⟨u,R,zxt (s:={s with heap:=h'}) e c d (by decide) ⟨x,H,I1,f,⟨R,λys L=>by rw[I.tuple_inj L T];show J⟩,Y,λb U=>(j b U).1⟩⟩
 done:=by
  intro X g O Q hc i pins s σ H E I j st y;subst g O Q;let(xs,T,J):=y;let(its,rv,p,hz):=I.tuple T;let(M,f1,q,D,A,l):=j it 05;let C:=rv.length;show wpAny_pyNext_tuple_end 026 st (show s.heap.IsTuple a its.toArray from p) (by simp;omega) λh' eb=>⟨R,I.turned (t':=s.toks) (λb o U e=>eb b o U e) M f1 D A l⟩
 self:=λ_ _ _ _ _ st h=>wpAny_pyIter_tupleiter st h
theorem zpk{P:ik}{w:World}{K:Frag}{r:Expr}(it:Ad)(lo:Int)(n:Nat):Turn P w K r (Itr lo n) [it] it (λi h=>IsRangeIter h it (lo+(i:Nat)*1) ((n:Int)-(i:Nat)) 1) where
 mem:=by simp
 obj:=λi h st b U=>by
  let e:b=it:=by simpa using U
  subst e;show⟨_,st,λv z=>by
   let d:Data.fields _=Data.cell v:=z;cases d⟩
 keep:=λi h h' st k=>k it 05 _ st
 item:=by
  intro X g O Q hc i pins s σ H E I j st y;subst g O Q;let(M,f1,q,D,A,l):=j it 05;let W:=Walks.range (prog:=X.prog) (w:=X.w) 026 it lo 1 n;apply W.item i s _ _ y st λv h' f hv Y T=>?_;let(t,rfl):=hv;let I1:02 H {s with heap:=h',toks:=f}:=I.turned (λb o U e=>T b o (by simpa using U) e) M f1 D A l;apply⟨_,R,zxt (s:={s with heap:=h',toks:=f}) (n:="range_iterator") Y R R (by decide) ⟨.int<|lo+i,H,I1,⟨t,?_⟩,⟨R,R⟩,Y,λb U=>(j b U).1⟩⟩;rw[Int.mul_one]
 done:=by
  intro X g O Q hc i pins s σ H E I j st y;subst g O Q;let(M,f1,q,D,A,l):=j it 05;show wpAny_pyNext_range_end 026 st (by have:n<=i:=y;omega) λh' u=>⟨R,I.turned (t':=s.toks) (λb o U e=>u b o U e) M f1 D A l⟩
 self:=λ_ _ _ _ _ st h=>wpAny_pyIter_rangeiter st h
section
variable {X:Cx}{tg:Expr}
def iList(K:Frag)(tl:TE):TI:=λσ H Rq=>tl σ H λx H1=>asR x λa=>(∃xs,SqL K H1 a xs)/\Rq (Itl K a) H1
def iTup(K:Frag)(tl:TE):TI:=λσ H Rq=>tl σ H λx H1=>asR x λa=>(∃xs,SqT K H1 a xs)/\Rq (Itt K a) H1
theorem pi_list{l:Expr}{tl:TE}(C:PE X l tl):PI X tg l (iList X.K tl):=by
 intro pins s σ H Rq I h;apply thn (C pins s σ H _ I h) λv s1 zz=>ex5 zz λx H1 I1 r1 q1=>?_;let(a,e,(xs,T),q):=zc9 q1;subst e;cases r1;let(its,d,p,hz):=I1.list T;apply jg p.isList ?_;apply⟨s1.heap.objs.size,[s1.heap.objs.size],_,_,H1,R,I1.kept (t':=s1.toks) λb o e=>y03 _ e,zrb a _,⟨_,y0h _ R,R,R⟩,λb U=>?_,q⟩;let e:b=s1.heap.objs.size:=by simpa using U
 subst e;show I1.fpOk 43<|I1.hok.fresh 43
theorem pi_tup{l:Expr}{tl:TE}(C:PE X l tl):PI X tg l (iTup X.K tl):=by
 intro pins s σ H Rq I h;apply thn (C pins s σ H _ I h) λv s1 zz=>ex5 zz λx H1 I1 r1 q1=>?_;let(a,e,(xs,T),q):=zc9 q1;subst e;cases r1;let(its,d,p,hz):=I1.tuple T;apply wpAny_pyIter_tuple (show s1.heap.IsTuple a its.toArray from p) ?_;apply⟨s1.heap.objs.size,[s1.heap.objs.size],_,_,H1,R,I1.kept (t':=s1.toks) λb o e=>y03 _ e,zpj a _,⟨_,y0h _ R,R,R⟩,λb U=>?_,q⟩;let e:b=s1.heap.objs.size:=by simpa using U
 subst e;show I1.fpOk 43<|I1.hok.fresh 43
theorem zvy{pins:Y2}{σ:St}{H:Hp}{s:ig}{Rq:It->Hp->Prop}{E:Y0}{lo hi:Int}{t u v:Tok}{f:Nat}(I:02 H s)(Y:-(2^62)<=lo)(h2:lo<2^62)(h3:-(2^62)<=hi)(p:hi<2^62)
  (q:Rq (Itr lo (hi-lo).toNat) H):wpAny 26 X.A (lf 016) (PIE X pins σ tg Rq) E {s with heap:=s.heap.push {cls:=.type "range",data:=.fields #[.int lo t,.int hi u,.int 1 v]},toks:=f}:=by
 apply wpAny_pyIter_range (IsRange.new ..) (small_one Y h2 h3 p) ?_;let I1:02 H {s with heap:=s.heap.push {cls:=.type "range",data:=.fields #[.int lo t,.int hi u,.int 1 v]},toks:=f}:=I.kept λb o e=>y03 _ e;apply⟨(179).objs.size,[(179).objs.size],_,_,H,R,
  I1.kept (t':=f) λb o e=>y03 _ e,zpk _ lo (hi-lo).toNat,?_,λb U=>?_,q⟩
 .let M:lo+((0:Nat):Int)*1=lo:=by simp
  let D:(((hi-lo).toNat:Nat):Int)-((0:Nat):Int)=Builtin.Range.rangeSize lo hi 1:=by rw[rangeSize_one];split<;>omega
  change IsRangeIter _ _ (lo+((0:Nat):Int)*1) ((((hi-lo).toNat:Nat):Int)-((0:Nat):Int)) 1;rw[M,D];show y0h _ R
 .let e:b=(179).objs.size:=by simpa using U
  subst e;show I1.fpOk 43<|I1.hok.fresh 43
def iRng1(A:TA):TI:=λσ H Rq=>A σ H λvs H1=>∃j:Int,vs=[.int j]/\-(2^62)<=j/\j<2^62/\Rq (Itr 0 j.toNat) H1
def iRng2(A:TA):TI:=λσ H Rq=>A σ H λvs H1=>∃i j:Int,vs=[.int i,.int j]/\(-(2^62)<=i/\i<2^62/\-(2^62)<=j/\j<2^62)/\Rq (Itr i (j-i).toNat) H1
theorem zkv{a:Expr}{A:TA}{p pos:Pos}(y:Gl X "range")(M:X.mg "range"=B)(ha:PA X [a] A)(hs:im [a] X.env=[(Fa,eval a X.env)]:=by rfl):PI X tg (.Call (.Name "range" p) [a] [] pos) (iRng1 A):=by
 intro pins s σ H Rq I h;apply Call_<|zc8 I y M boot_range (PyProof.Rows.callWith_type1 (thn 091 λus s1 zz=>ex5 zz λvs H1 I1 r1 q1=>?_) hs R);let(j,e,q1,q2,q):=q1;subst e;cases r1 with
 |cons r g =>
  cases g;let(t,rfl):=r;show call_range_1<|zvy I1 01 01 q1 q2 (by simpa using q)
def tFor(c:TI)(g:TG)(Y:TS):TS:=λD σ H=>c σ H λJ H1=>∃W:Nat->Nat->St->Hp->Prop,(∃m,W 0 m σ H1)/\∀i m σ H,W i m σ H->
 (J.stop i H/\D.nx σ H)\/(J.go i H/\∃Nq:St->Hp->Prop,131/\∀x H',J.yld i H x H'->g x σ H' λd H2=>Y {D with nx:=Nq,ct:=Nq,bk:=D.nx} d H2)
noncomputable def pinsAt(fp:List Ad)(h:Heap):List (Ad×Obj):=fp.filterMap λb=>(h.get? b).map λo=>(b,o)
theorem zdt(U:b∈fp)(e:h.get? b=G o):(b,o)∈pinsAt fp h:=List.mem_filterMap.mpr ⟨b,U,by rw[e];rfl⟩
theorem zs9(Q:p∈pinsAt fp h):p.1∈fp/\h.get? p.1=G p.2:=by
 let(b,U,e):=List.mem_filterMap.mp Q;cases q:h.get? b with
 |none=>rw[q]at e;cases e
 |some o =>
  rw[q]at e;let l:(b,o)=p:=Option.some.inj e;subst l;show⟨U,q⟩
theorem Inv.pinned{pins:Y2}{σ:St}{H:Hp}{s:ig}{fp:List Ad}(I:02 H s)(j:∀b∈fp,FpOk X pins H b)(Y:∀b∈fp,∃o,s.heap.get? b=G o/\∀v,o.data ≠ .cell v):Inv X (pins++pinsAt fp s.heap) σ H s :=
 I.pins_of λp Q=>(y16.mp Q).elim (λz=>I.pin p<|y0p _ z) λz=>by
  let(U,e):=zs9 z;let(M,f1,q,_):=j p.1 U;let(o,l,d):=Y p.1 U;rw[e]at l;cases l;show⟨e,M,f1,q,d⟩
theorem Inv.unpinned{pins D:Y2}{σ:St}{H:Hp}{s:ig}(I:Inv X (pins++D) σ H s):02 H s:=I.pins_of λp l=>I.pin p<|y0p _ (y0a _ l)
theorem zc7(l:PassesOwn 26 X.A X.env X.xe)(hc:X.calm=N)(hi:PI X tg iter c)(y:PG X tg g)(U:PSs X body tb)
  (hs:∀x,jr iter X.env x=pure x:=by intro _;rfl):PS X (.For tg iter body [] pos) (tFor c g tb):=by
 intro pins s σ H D I h;apply wpAny_For (thn (hi pins s σ H _ I h) λv s1 Y=>thn Y λitv s2 h2=>?_) hs;let(it,fp,tn,J,H2,e,A,T,st2,q,W,(m0,w0),turn):=h2;subst e;let gy:∀{H':Hp},(∀b∈fp,H' b=B)->∀b∈fp,FpOk X pins H' b:=λE b U=>⟨E b U,(q b U).2⟩;apply codeAny_forLoop_any (λn s'=>∃i O H',Inv X pins O H' s'/\tn i s'.heap/\(∀b∈fp,H' b=B)/\W i n O H') ?_ m0 ⟨0,σ,H2,A,st2,λb U=>(q b U).1,w0⟩;rintro n s3 ⟨i,z,H3,w,Q,fr3,w3⟩;rcases turn i n z H3 w3 with⟨stop,qn⟩|⟨go,Nq,hN,step⟩
 .refine iW l<|thn (T.done X R R R hc i pins s3 z H3 X.xe w (gy fr3) Q stop) λr s4 ⟨L,I4⟩=>?_;subst L;show iU ⟨z,H3,I4,qn⟩
 .refine iW l<|thn (T.item X R R R hc i pins s3 z H3 X.xe w (gy fr3) Q go) λr s4 ⟨u,L,p⟩=>?_;subst L;apply iW l<|thn p λ_ s5 zz=>ex5 zz λx H5 I5 r5 zq=>?_;let(y5,st5,fr5):=zq;let I5':=I5.pinned (gy fr5)<|T.obj _ _ st5;apply iW l<|thn (y _ s5 z H5 x u _ I5' r5<|step x H5 y5) λ_ s6 ⟨σ6,H6,I6,q6⟩=>?_;apply iW l<|thn (U _ s6 σ6 H6 _ I6 q6) λf s7 q7=>?_;let again:∀{a:St} {H7:Hp},Inv X (pins++pinsAt fp s5.heap) a H7 s7->Nq a H7->∃m,m<n/\∃i O H',Inv X pins O H' s7/\tn i s7.heap/\(∀b∈fp,H' b=B)/\W i m O H':=λ{a H7} C j=>by
   let(m',M,w7):=hN a H7 j;apply⟨m',M,i+1,a,H7,C.unpinned,T.keep _ _ _ st5 λb U o e=>(C.pin (b,o)<|y0p _ (y0p _<|zdt U e)).1,λb U=>?_,w7⟩;let(o,e,d):=T.obj _ _ st5 b U;show(C.pin (b,o)<|y0p _ (y0p _<|zdt U e)).2.1
  cases f with
  |next=>let(a,H7,C,j):=q7;show again C j
  |cont=>let(a,H7,C,j):=q7;show again C j
  |brk=>let(a,H7,C,q7):=q7;show⟨a,H7,C.unpinned,q7⟩
  |ret v=>let(x7,a,H7,C,r7,q7):=q7;show⟨x7,a,H7,C.unpinned,r7,q7⟩
end
theorem zxw{K:Frag}{a:Ad}{xs:List V}{g:TG}{Y:TS}{D:Ends}{σ:St}{H:Hp}(Pv:Nat->St->Hp->Prop)(h0:Pv 0 σ H)(C:∀i σ H,i<=xs.length->Pv i σ H->SqL K H a xs)
  (hs:∀i x σ H,xs[i]?=G x->Pv i σ H->g x σ H λd H2=>Y {D with nx:=Pv<|i+1,ct:=Pv<|i+1,bk:=D.nx} d H2) (hd:∀σ H,Pv xs.length σ H->D.nx σ H) :
  ∃W:Nat->Nat->St->Hp->Prop,(∃m,W 0 m σ H)/\∀i m σ H,W i m σ H->
   ((Itl K a).stop i H/\D.nx σ H)\/((Itl K a).go i H/\∃Nq:St->Hp->Prop,131/\∀x H',(Itl K a).yld i H x H'->g x σ H' λd H2=>Y {D with nx:=Nq,ct:=Nq,bk:=D.nx} d H2):=by
 apply⟨λi m σ H=>m=xs.length-i/\i<=xs.length/\Pv i σ H,⟨xs.length,by simp,y17 _,h0⟩,?_⟩;rintro i m σ H ⟨rfl,hi,p⟩;let q:=C i σ H hi p;by_cases f:i<xs.length
 .refine .inr ⟨⟨xs,xs[i],q,by simp[f]⟩,Pv<|i+1,λσ' H' E=>⟨xs.length-(i+1),by omega,R,f,E⟩,λx H' y=>?_⟩;let(e,y):=y;subst e;show hs i x σ _ (y xs q) p
 .let e:i=xs.length:=by omega
  subst e;show .inl ⟨⟨xs,q,y06 _⟩,hd σ H p⟩
theorem for_tup{K:Frag}{a:Ad}{xs:List V}{g:TG}{Y:TS}{D:Ends}{σ:St}{H:Hp}(Pv:Nat->St->Hp->Prop)(h0:Pv 0 σ H)(C:∀i σ H,i<=xs.length->Pv i σ H->SqT K H a xs)
  (hs:∀i x σ H,xs[i]?=G x->Pv i σ H->g x σ H λd H2=>Y {D with nx:=Pv<|i+1,ct:=Pv<|i+1,bk:=D.nx} d H2) (hd:∀σ H,Pv xs.length σ H->D.nx σ H) :
  ∃W:Nat->Nat->St->Hp->Prop,(∃m,W 0 m σ H)/\∀i m σ H,W i m σ H->
   ((Itt K a).stop i H/\D.nx σ H)\/((Itt K a).go i H/\∃Nq:St->Hp->Prop,131/\∀x H',(Itt K a).yld i H x H'->g x σ H' λd H2=>Y {D with nx:=Nq,ct:=Nq,bk:=D.nx} d H2):=by
 apply⟨λi m σ H=>m=xs.length-i/\i<=xs.length/\Pv i σ H,⟨xs.length,by simp,y17 _,h0⟩,?_⟩;rintro i m σ H ⟨rfl,hi,p⟩;let q:=C i σ H hi p;by_cases f:i<xs.length
 .refine .inr ⟨⟨xs,xs[i],q,by simp[f]⟩,Pv<|i+1,λσ' H' E=>⟨xs.length-(i+1),by omega,R,f,E⟩,λx H' y=>?_⟩;let(e,y):=y;subst e;show hs i x σ _ (y xs q) p
 .let e:i=xs.length:=by omega
  subst e;show .inl ⟨⟨xs,q,y06 _⟩,hd σ H p⟩
abbrev R2:=V->V->Hp->VK->Prop
def OpR(X:Cx)(f:Va->Va->Sem Va)(r:R2):Prop :=
 ∀(pins:Y2) (s:ig) (σ:St) (H:Hp) (x y:V) (v u:Va) (Q:VK),02 H s->RelV x v->RelV y u->r x y H Q->
  wpAny 26 X.A (f v u) 028 X.xe s
def UnR(X:Cx)(f:Va->Sem Va)(r:V->Hp->VK->Prop):Prop :=
 ∀(pins:Y2) (s:ig) (σ:St) (H:Hp) (x:V) (v:Va) (Q:VK),02 H s->RelV x v->r x H Q->
  wpAny 26 X.A (f v) 028 X.xe s
def CallR(X:Cx)(f:Va)(r:List V->Hp->VK->Prop):Prop :=
 ∀(pins:Y2) (s:ig) (σ:St) (H:Hp) (xs:List V) (us:List Va) (Q:VK),02 H s->Vals xs us->r xs H Q->
  wpAny 26 X.A (call f us) 028 X.xe s
def TruR(X:Cx)(r:V->Hp->(Bool->Hp->Prop)->Prop):Prop :=
 ∀(pins:Y2) (s:ig) (σ:St) (H:Hp) (x:V) (v:Va) (Q:Bool->Hp->Prop),02 H s->RelV x v->r x H Q->
  wpAny 26 X.A (truthy v) (TP X pins σ Q) X.xe s
def tOp(r:R2)(A Y:TE):TE:=λσ H Q=>A σ H λx H1=>Y σ H1 λy H2=>r x y H2 Q
def tUn(r:V->Hp->VK->Prop)(A:TE):TE:=λσ H Q=>A σ H λx H1=>r x H1 Q
def rI(C:Int->Int->Prop)(g:Int->Int->V):R2:=λx y H Q=>asI x λi=>asI y λj=>C i j/\Q (g i j) H
def rI0(g:Int->Int->V):R2:=λx y H Q=>asI x λi=>asI y λj=>Q (g i j) H
def rU(g:Int->V):V->Hp->VK->Prop:=λx H Q=>asI x λi=>Q (g i) H
section
variable {X:Cx}{a b c:Expr}{ta tb tc:TE}{pos:Pos}
theorem binT(ha:PE X a ta)(U:PE X b tb){pins:Y2}{s:ig}{σ:St}{H:Hp}{Rq:V->V->Hp->Prop}(I:02 H s)
  (h:ta σ H λx H1=>tb σ H1 λy H2=>Rq x y H2) {Q:Y0} {f:Va->Va->Sem Va}
  (j:∀v u s2 x y H2,02 H2 s2->RelV x v->RelV y u->Rq x y H2->wpAny 26 X.A (f v u) Q X.xe s2) :
  wpAny 26 X.A (eval a X.env) (λv s₁=>wpAny 26 X.A (eval b X.env) (λu s₂=>wpAny 26 X.A (f v u) Q X.xe s₂) X.xe s₁) X.xe s:=by
 apply thn 063 λv s1 zz=>ex5 zz λx H1 I1 r1 q1=>?_;apply thn (U pins s1 σ H1 _ I1 q1) λu s2 zz=>ex5 zz λy H2 A T q2=>?_;show j v u s2 x y H2 A r1 T q2
theorem zax(Y:OpR X (iD L) r)(g:PE X a ta)(U:PE X b tb):PE X (.BinOp a L b pos) (tOp r ta tb):=by
 intro pins s σ H Q I h;show wpAny_BinOp<|binT g U I h λv u s2 x y H2 A rx ry q=>Y pins s2 σ H2 x y v u Q A rx ry q
theorem pe_un(Y:UnR X (unaryOp L) r)(ha:PE X a ta):PE X (.UnaryOp L a pos) (tUn r ta):=by
 intro pins s σ H Q I h;show UnaryOp_<|thn 063 λv s1 zz=>ex5 zz λx H1 I1 r1 q1=>Y pins s1 σ H1 x v Q I1 r1 q1
theorem opI{f:Va->Va->Sem Va}{C:Int->Int->Prop}{g:Int->Int->Int}
  (rule:∀(i j:Int) (t u:Tok) (s:ig) (Q:Y0) (E:Y0),C i j->Q (.int (g i j) s.toks) {s with toks:=s.toks+1}->wpAny (model X.prog X.w) X.A (f (.int i t)<|.int j u) Q E s) :
  OpR X f (rI C λi j=>.int<|g i j):=by
 infer_instance;let(i,rfl,h'):=zd2 h;let(j,rfl,hc,q):=zd2 h';let(t,rfl):=rx;let(t',rfl):=ry;show rule i j t t' s _ _ hc ⟨.int<|g i j,H,I.tok _,⟨_,R⟩,q⟩
theorem opI0{f:Va->Va->Sem Va}{g:Int->Int->Int}
  (rule:∀(i j:Int) (t u:Tok) (s:ig) (Q:Y0) (E:Y0),Q (.int (g i j) s.toks) {s with toks:=s.toks+1}->wpAny (model X.prog X.w) X.A (f (.int i t)<|.int j u) Q E s) :
  OpR X f (rI0 λi j=>.int<|g i j):=by
 infer_instance;let(i,rfl,h'):=zd2 h;let(j,rfl,q):=zd2 h';let(t,rfl):=rx;let(t',rfl):=ry;show rule i j t t' s _ _ ⟨.int<|g i j,H,I.tok _,⟨_,R⟩,q⟩
theorem opB0{f:Va->Va->Sem Va}{g:Int->Int->Bool}
  (rule:∀(i j:Int) (t u:Tok) (s:ig) (Q:Y0) (E:Y0),Q (.bool<|g i j) s->wpAny 26 X.A (f (.int i t)<|.int j u) Q E s) :
  OpR X f (rI0 λi j=>.bl<|g i j):=by
 infer_instance;let(i,rfl,h'):=zd2 h;let(j,rfl,q):=zd2 h';let(t,rfl):=rx;let(t',rfl):=ry;show rule i j t t' s _ _ ⟨.bl<|g i j,H,I,R,q⟩
def CDiv(i j:Int):Prop:=0<j/\j<1073741824
def CPow(i j:Int):Prop:=0<=j/\j<=1000000/\i.natAbs<2^64
theorem zpi(k:Nat):(0:Int)<=2^k:=by
 rw[two_pow_cast];show Int.natCast_nonneg _
theorem zom:OpR X (iD .Add) (rI0 λi j=>.int<|i+j):=opI0 λ_ _ _ _ _ _ _ q=>add_int q
theorem zok:OpR X (iD .Sub) (rI0 λi j=>.int<|i-j):=opI0 λ_ _ _ _ _ _ _ q=>sub_int q
theorem zdi:OpR X (iD .FloorDiv) (rI CDiv λi j=>.int<|i/j):=opI λi j _ _ _ _ _ hc q=>by
 let Y:(0:Int)<j:=hc.1;let h2:j<1073741824:=hc.2;show floordiv_int 01 (by rw[y3r i 01];show q)<|.inl (PyProof.noPylong_small 01)
theorem zbm:OpR X (iD .Mod) (rI (λ_ j=>0<j) λi j=>.int<|i%j):=opI λi j _ _ _ _ _ hc q=>by
 let Y:(0:Int)<j:=hc;show mod_int' 01 (by rw[Int.fmod_eq_emod_of_nonneg i 01];show q)
theorem op_pow:OpR X (iD .Pow) (rI CPow λi j=>.int<|i^j.toNat):=opI λ_ _ _ _ _ _ _ hc q=>pow_int_small hc.1 hc.2.1 hc.2.2 q
theorem zol:OpR X (iD .LShift) (rI CPow λi j=>.int<|i*2^j.toNat):=opI λ_ _ _ _ _ _ _ hc q=>lshift_int_small hc.1 hc.2.1 hc.2.2 q
theorem op_shr:OpR X (iD .RShift) (rI (λ_ j=>0<=j) λi j=>.int<|i/2^j.toNat):=opI λi j _ _ _ _ _ hc q =>
 rshift_int hc (by rw[y3r i<|zpi _];show q)
theorem op_and:OpR X (iD .BitAnd) (rI0 λi j=>.int<|Builtin.bitAnd i j):=opI0 λ_ _ _ _ _ _ _ q=>and_int q
theorem unI{f:Va->Sem Va}{g:Int->Int}
  (rule:∀(i:Int) (t:Tok) (s:ig) (Q:Y0) (E:Y0),Q (.int (g i) s.toks) {s with toks:=s.toks+1}->wpAny (model X.prog X.w) X.A (f<|.int i t) Q E s) :
  UnR X f (rU λi=>.int<|g i):=by
 intro pins s σ H x v Q I rx h;let(i,rfl,q):=zd2 h;let(t,rfl):=rx;show rule i t s _ _ ⟨.int<|g i,H,I.tok _,⟨_,R⟩,q⟩
theorem zq9:UnR X (unaryOp .USub) (rU λi=>.int<|-i):=unI λ_ _ _ _ _ q=>neg_int q
end
noncomputable def scal:V->V->Bool
 |.non,.non=>N|.non,.int _=>N|.int _,.non=>N|.non,.bl _=>N|.bl _,.non=>N|.non,.str _=>N|.str _,.non=>N
 |.int _,.int _=>N|.bl _,.bl _=>N|.str _,.str _=>N|.byt _,.byt _=>N
 |.int _,.str _=>N|.str _,.int _=>N|.bl _,.str _=>N|.str _,.bl _=>N
 |_,_=>Fa
def rEq:R2:=λx y H Q=>scal x y=N/\Q (.bl<|decide (x=y)) H
def rNe:R2:=λx y H Q=>scal x y=N/\Q (.bl<|!decide (x=y)) H
theorem zuj:decide (V.int i=V.int j)=(i==j):=by
 rw[y1f];simp
theorem zze:decide (V.bl i=V.bl j)=(i==j):=by
 rw[y1f];simp
theorem zui:decide (V.str i=V.str j)=(i==j):=by
 rw[y1f];simp
theorem zuk:decide (V.byt i=V.byt j)=(i.toList==j.toList):=by
 rw[y1f];cases i;cases j;simp
section
variable {X:Cx}{a b c:Expr}{ta tb tc:TE}{pos:Pos}
theorem za9{pins:Y2}{σ:St}{H:Hp}{s:ig}{Q:VK}{k k':Bool}(I:02 H s)(q:Q (.bl k) H)(e:k=k'):EP X pins σ Q (.bool k') s:=by
 subst e;show⟨.bl k,H,I,R,q⟩
theorem op_eq:OpR X (iw .Eq) rEq:=by
 infer_instance;let(hs,q):=h;cases x with
 |non =>
  cases rx;cases y with
  |non=>cases ry;show PySem.EqNone.eq_none_none 017
  |bl j=>cases ry;show PySem.EqNone.eq_none_bool 017
  |int j=>let(t',rfl):=ry;show PySem.EqNone.eq_none_int 017
  |str j=>let(t',rfl):=ry;show PySem.EqNone.eq_none_str 017
  |_=>show Xa (show Fa=N from hs) y0k
 |bl i =>
  cases rx;cases y with
  |non=>cases ry;show PySem.EqNone.eq_bool_none 017
  |bl j=>cases ry;show eq_bool<|za9 I q zze
  |str j=>let(t',rfl):=ry;show PySem.EqMixed.eq_bool_str 017
  |_=>show Xa (show Fa=N from hs) y0k
 |int i =>
  let(t,rfl):=rx;cases y with
  |non=>cases ry;show PySem.EqNone.eq_int_none 017
  |int j=>let(t',rfl):=ry;show eq_int<|za9 I q zuj
  |str j=>let(t',rfl):=ry;show PySem.EqMixed.eq_int_str 017
  |_=>show Xa (show Fa=N from hs) y0k
 |str i =>
  let(t,rfl):=rx;cases y with
  |non=>cases ry;show PySem.EqNone.eq_str_none 017
  |bl j=>cases ry;show PySem.EqMixed.eq_str_bool 017
  |int j=>let(t',rfl):=ry;show PySem.EqMixed.eq_str_int 017
  |str j=>let(t',rfl):=ry;show eq_str<|za9 I q zui
  |_=>show Xa (show Fa=N from hs) y0k
 |byt i =>
  let(t,rfl):=rx;cases y with
  |byt j=>let(t',rfl):=ry;show PySem.W.eq_bytes<|za9 I q zuk
  |_=>show Xa (show Fa=N from hs) y0k
 |_=>cases y<;>show Xa (show Fa=N from hs) y0k
theorem op_ne:OpR X (iw .NotEq) rNe:=by
 infer_instance;let(hs,q):=h;cases x with
 |non =>
  cases rx;cases y with
  |non=>cases ry;show PySem.EqNone.ne_none_none 017
  |bl j=>cases ry;show PySem.EqNone.ne_none_bool 017
  |int j=>let(t',rfl):=ry;show PySem.EqNone.ne_none_int 017
  |str j=>let(t',rfl):=ry;show PySem.EqNone.ne_none_str 017
  |_=>show Xa (show Fa=N from hs) y0k
 |bl i =>
  cases rx;cases y with
  |non=>cases ry;show PySem.EqNone.ne_bool_none 017
  |bl j=>cases ry;show ne_bool<|za9 I q (congrArg not zze)
  |str j=>let(t',rfl):=ry;show PySem.EqMixed.ne_bool_str 017
  |_=>show Xa (show Fa=N from hs) y0k
 |int i =>
  let(t,rfl):=rx;cases y with
  |non=>cases ry;show PySem.EqNone.ne_int_none 017
  |int j=>let(t',rfl):=ry;show ne_int<|za9 I q (congrArg not zuj)
  |str j=>let(t',rfl):=ry;show PySem.EqMixed.ne_int_str 017
  |_=>show Xa (show Fa=N from hs) y0k
 |str i =>
  let(t,rfl):=rx;cases y with
  |non=>cases ry;show PySem.EqNone.ne_str_none 017
  |bl j=>cases ry;show PySem.EqMixed.ne_str_bool 017
  |int j=>let(t',rfl):=ry;show PySem.EqMixed.ne_str_int 017
  |str j=>let(t',rfl):=ry;show ne_str<|za9 I q (congrArg not zui)
  |_=>show Xa (show Fa=N from hs) y0k
 |byt i =>
  let(t,rfl):=rx;cases y with
  |byt j=>let(t',rfl):=ry;show PySem.W.ne_bytes<|za9 I q (congrArg not zuk)
  |_=>show Xa (show Fa=N from hs) y0k
 |_=>cases y<;>show Xa (show Fa=N from hs) y0k
theorem zsn:OpR X (iw .Lt) (rI0 λi j=>.bl<|decide (i<j)):=opB0 λ_ _ _ _ _ _ _ q=>lt_int q
theorem op_le:OpR X (iw .LtE) (rI0 λi j=>.bl<|decide (i<=j)):=opB0 λ_ _ _ _ _ _ _ q=>le_int q
theorem zp0:OpR X (iw .Gt) (rI0 λi j=>.bl<|decide (j<i)):=opB0 λ_ _ _ _ _ _ _ q=>gt_int q
theorem zgo:OpR X (iw .In) (λx y H Q=>∃i j,x=.str i/\y=.str j/\Q (.bl<|!(Builtin.Str.occurrences j i 0 j.length 1).isEmpty) H):=by
 infer_instance;let(i,j,rfl,rfl,q):=h;let(t,rfl):=rx;let(t',rfl):=ry;show in_str<|za9 I q R
theorem op_isN:OpR X (iw .Is) (λx y H Q=>y=.non/\Q (.bl<|decide (x=.non)) H):=by
 infer_instance;let(rfl,q):=h;cases ry;apply is_none_gen<|za9 I q ?_;cases x<;>first
  |(cases rx;rfl)
  |(let(t,rfl):=rx;rfl)
theorem nomark(b:Expr)(h:L ≠ .In:=by decide)(h2:L ≠ .NotIn:=by decide):jz L b=Fa:=by
 let M:(L==CmpOp.In)=Fa:=by cases L<;>first|rfl|show Xa R h
 let D:(L==CmpOp.NotIn)=Fa:=by cases L<;>first|rfl|show Xa R h2
 cases b<;>simp[jz,M,D]
theorem zco(Y:OpR X (iw L) r)(g:PE X a ta)(U:PE X b tb)(M:jz L b=Fa):PE X (.Compare a [L] [b] pos) (tOp r ta tb):=by
 intro pins s σ H Q I h;show wpAny_Compare1 (binT g U I h λv u s2 x y H2 A rx ry q=>Y pins s2 σ H2 x y v u Q A rx ry q) M
def tTest(t:TE):TT:=λσ H Q=>t σ H λx H'=>asB x λk=>Q k H'
theorem zak(Y:OpR X (iw L) r)(ha:PE X a ta)(U:PE X b tb)(M:jz L b=Fa):PT X (.Compare a [L] [b] pos) (tTest<|tOp r ta tb):=by
 intro pins s σ H Q I h;apply wpAny_isTrue_Compare1 (thn 063 λv s1 zz=>ex5 zz λx H1 I1 r1 q1=>thn (U pins s1 σ H1 _ I1 q1) λu s2 zz=>ex5 zz λy H2 A T q2 =>
  thn (Y pins s2 σ H2 x y v u _ A r1 T q2) λc p zz=>ex5 zz λz H3 w C q3=>?_) M
 let(k,e,q3):=zpd q3;subst e;cases C;show iC ⟨H3,w,q3⟩
def tChain(r r':R2)(ta tb tc:TE):TE:=λσ H Q=>ta σ H λx H1=>tb σ H1 λy H2=>r x y H2 λz H3=>asB z λk =>
 (if k=N then tc σ H3 λw' H4=>r' y w' H4 Q else Q (.bl Fa) H3)
theorem zwc(Y:OpR X (iw L) r)(w:OpR X (iw i) r')(ha:PE X a ta)(U:PE X b tb)(hc:PE X c tc)
  (M:lastMarks [L,i] [b,c]=Fa:=by with_unfolding_all rfl):PE X (.Compare a [L,i] [b,c] pos) (tChain r r' ta tb tc):=by
 intro pins s σ H Q I h;apply Compare_chain (thn 063 λv s1 zz=>ex5 zz λx H1 I1 r1 q1=>chain_link (thn (U pins s1 σ H1 _ I1 q1) λu s2 zz=>ex5 zz λy H2 A T q2 =>
  thn (Y pins s2 σ H2 x y v u _ A r1 T q2) λd p zz=>ex5 zz λz H3 q C q3=>?_)) M
 let(k,e,q3):=zpd q3;subst e;cases C;apply iC ?_;cases k with
 |false=>show ite_ff ⟨.bl Fa,H3,q,R,q3⟩
 |true=>show ite_tt<|chain_last (thn (hc pins p σ H3 _ q q3) λw' f zz=>ex5 zz λj H4 E g q4=>w pins f σ H4 y j u w' Q E T g q4)
def TruV(K:Frag)(x:V)(H:Hp)(k:Bool):Prop :=
 match x with
 |.non=>k=Fa
 |.bl b=>k=b
 |.int i=>k=(i !=0)
 |.str y=>y.length<=ii/\k=((y.length:Int) !=0)
 |.byt y=>y.size<=ii/\k=((y.size:Int) !=0)
 |.ref p=>(∃xs,SqL K H p xs/\k=!xs.isEmpty)\/(∃xs,SqT K H p xs/\k=!xs.isEmpty)\/∃kvs,H p=G 020/\k=!kvs.isEmpty
 |_=>False
theorem zqm{d:Type}{kvs:List (d×V)}{vs:List (d×Va)}(r:KV kvs vs):(!vs.isEmpty)=!kvs.isEmpty:=by
 cases r<;>rfl
theorem zh8(r:Vals xs its):(!its.toArray.isEmpty)=!xs.isEmpty:=by
 cases r<;>simp
theorem line63:(ii:Nat)<2^63:=by rw[jc];decide
theorem tru_ok:TruR X (λx H Q=>∃k,TruV X.K x H k/\Q k H):=by
 intro pins s σ H x v Q I rx h;let(k,e,q):=h;let C:=line63;let hs:ii=16777216:=jc;cases x with
 |non =>
  cases rx;let l:k=Fa:=e;subst l;show truthy_none ⟨H,I,q⟩
 |bl b =>
  cases rx;let l:k=b:=e;subst l;show iC ⟨H,I,q⟩
 |int i =>
  let(t,rfl):=rx;let l:k=(i !=0):=e;subst l;show PySem.P.truthy_int ⟨H,I,q⟩
 |str y =>
  let(t,rfl):=rx;obtain⟨L,l⟩:y.length<=ii/\k=((y.length:Int) !=0):=e;subst l;show PySem.P.truthy_str 01 ⟨H,I.tok _,q⟩
 |byt y =>
  let(t,rfl):=rx;obtain⟨L,l⟩:y.size<=ii/\k=((y.size:Int) !=0):=e;subst l;show PySem.W.truthy_bytes 01 ⟨H,I.tok _,q⟩
 |ref p =>
  cases rx;let l:(∃xs,SqL X.K H p xs/\k=!xs.isEmpty)\/(∃xs,SqT X.K H p xs/\k=!xs.isEmpty)\/∃kvs,H p=G 020/\k=!kvs.isEmpty:=e;rcases l with⟨xs,J,l⟩|⟨xs,J,l⟩|⟨kvs,J,l⟩
  .subst l;let(its,r,D,hz):=I.list J;let g:=r.length;show wpAny_truthy_list D.isList (by simp only[y07];omega) ⟨H,I.tok _,by rw[zh8 r];show q⟩
  .subst l;let(its,r,D,hz):=I.tuple J;let g:=r.length;show truthy_tuple D (by simp only[y07];omega) ⟨H,I.tok _,by rw[zh8 r];show q⟩
  .subst l;obtain⟨hz,u,vs,r,m⟩:kvs.length<=ii/\(p==iE)=Fa/\∃vs,KV kvs vs/\s.heap.DictOf (mixKind X.prog X.w) p vs:=I.hok p _ J;let g:kvs.length=vs.length:=Paired.length r;show wpAny_truthy_dict u m 01 ⟨H,I.tok _,by rw[zqm r];show q⟩
 |_=>show(show False from e).elim
theorem zix(ha:PE X a ta)(d:∀f,isTrue a X.env f=(do let v ←f;standAt a.pos;holding [v] (truthy v))):
  PT X a (λσ H Q=>ta σ H λx H'=>∃k,TruV X.K x H' k/\Q k H'):=by
 intro pins s σ H Q I h;show isTrue_plain (thn 063 λv s1 zz=>ex5 zz λx H1 I1 r1 q1=>tru_ok pins s1 σ H1 x v Q I1 r1 q1)<|d _
theorem zaw:OpR X (iD .Add) (λx y H Q=>∃i j,x=.str i/\y=.str j/\i.length+j.length<=ii/\Q (.str<|i++j) H):=by
 infer_instance;let(i,j,rfl,rfl,hz,q):=h;let(t,rfl):=rx;let(t',rfl):=ry;show add_str (λt' f=>⟨.str<|i++j,H,I.tok _,⟨_,R⟩,q⟩) hz
theorem vals1(r:Vals [x] us):∃u,us=[u]/\RelV x u:=by
 cases r with
 |cons r1 T=>cases T;show⟨_,R,r1⟩
theorem vals2(r:Vals [x,y] us):∃u w',us=[u,w']/\RelV x u/\RelV y w':=by
 cases r with
 |cons r1 T =>
  cases T with
  |cons C g=>cases g;show⟨_,_,R,r1,C⟩
theorem zu5:CallR X (.type "int") (λxs H Q=>(∃i,xs=[.int i]/\Q (.int i) H)\/∃k,xs=[.bl k]/\Q (.int<|if k then 1 else 0) H):=by
 intro pins s σ H xs us Q I r h;rcases h with⟨i,rfl,q⟩|⟨k,rfl,q⟩
 .let(u,rfl,t,rfl):=vals1 r;show call_int_int ⟨.int i,H,I,⟨_,R⟩,q⟩
 .let(u,rfl,r1):=vals1 r;cases r1;show call_int_bool ⟨.int<|if k then 1 else 0,H,I.tok _,⟨_,R⟩,q⟩
theorem zcm:CallR X (.type "str") (λxs H Q=>∃i,xs=[.int i]/\i.natAbs.log2<1920/\Q (.str<|toString i) H):=by
 intro pins s σ H xs us Q I r h;let(i,rfl,hz,q):=h;let(u,rfl,t,rfl):=vals1 r;show PySem.P.str_of_int hz ⟨.str _,H,I.tok _,⟨_,R⟩,q⟩
end
structure ObjM(h:Heap)(x dx C:Ad)(mA:Y1):Prop where
 obj:h.get? x=G (PySem.W.instObj C dx)
 ns:h.Ns1 dx mA
 ne:dx≠x
theorem ztj{h:Heap}(n:h.Ns1 dx U):∃T,h.get? dx=G T/\∀name,PySem.W.lookIn name T=G (U name):=by
 let(o,i,l,Y,hd,O,_,M):=n;apply⟨o,Y,λname=>?_⟩;let e:=M name;unfold nsFind jI at e;rw[←Array.find?_toList]at e;unfold PySem.W.lookIn;rw[hd];dsimp only;split
 .rename_i y q;rw[q]at e;show congrArg G e
 .rename_i q;rw[q]at e;let a:i.toList.any (·.refKey)=Fa:=by
   rw[List.any_eq_false];intro y L;let(z,t,c):=O y<|Array.mem_toList_iff.mp L;simp[DictEntry.refKey,c]
  let I:¬i.toList.any (·.refKey)=N:=by rw[a];show y0k
  rw[Xp I];show congrArg G e
theorem ObjM.look(I:ObjM h x dx C U):∃T,PySem.W.InstAt h x (PySem.W.instObj C dx) C (G T)/\∀name,PySem.W.lookIn name T=G (U name) :=
 let⟨T,Y,a⟩:=ztj I.ns
 ⟨T,⟨I.obj,R,R,Y⟩,a⟩
theorem RelO.some_of(r:RelO 018 o):∃u,o=G u/\RelV v u:=by
 cases o with
 |none=>show(show False from r).elim
 |some u=>show⟨u,R,r⟩
section
variable {P:ik}{w:World}{H H':Hp}{h h':Heap}{a C dx:Ad}{fs fs':List (Str×V)}
theorem ins_get(hok:HOk P w H h)(e:H a=G (.ins C dx fs)):∃U,ObjM h a dx C U/\(∀f,RelO (fs.lookup f)<|U f)/\PySem.Within U (fs.map (·.1))/\fs.length<=1000/\H dx=G (.own a):=by
 let(d,z,ne,ob,U,n,r,q):=(show ObjOk P w H h a (.ins C dx fs)from hok a _ e);show⟨U,⟨ob,n,ne⟩,r,q,z,d⟩
end
structure Cls(K:Frag)(C:Ad):Prop where
 pg:PySem.W.plainGet K C Str.empty=N
 hd:PySem.W.hasDictIn K C=N
 po:PySem.W.plainOver K C=N
 sa:PySem.W.findIn K 74 "__setattr__"=G (G<|.builtin "object.__setattr__")
theorem Cls.get{K:Frag}{C:Ad}(c:Cls K C)(f:Str):PySem.W.plainGet K C f=N:=c.pg
section
variable {X:Cx}{pins:Y2}{σ:St}{H:Hp}{s:ig}{A:io}{E:Y0}{Q:Y0}{c:Va}{b:Bool}
inductive TyOf(K:Frag)(H:Hp):V->Va->Prop where
 |non:TyOf K H .non<|.type "NoneType"
 |bl (x:Bool):TyOf K H (.bl x)<|.type "bool"
 |int (i:Int):TyOf K H (.int i)<|.type "int"
 |str (x:Str):TyOf K H (.str x)<|.type "str"
 |flt (x:UInt64):TyOf K H (.flt x)<|.type "float"
 |lst {a:Ad} {xs:List V} (e:H a=G (.lst xs)):TyOf K H (.ref a)<|.type "list"
 |frz {a:Ad} {o:Obj} {xs:List V} (e:H a=G (.frz o<|.lst xs)):TyOf K H (.ref a)<|.type "list"
 |tup {a:Ad} {xs:List V} (e:H a=G (.tup xs)):TyOf K H (.ref a)<|.type "tuple"
 |dK {a:Ad} {kvs:List (Key×V)} (e:H a=G (.dK kvs)):TyOf K H (.ref a)<|.type "dict"
 |dT {a:Ad} {kvs:List (List Key×V)} (e:H a=G (.dT kvs)):TyOf K H (.ref a)<|.type "dict"
 |ins {a C dx:Ad} {fs:List (Str×V)} (e:H a=G (.ins C dx fs)) (cl:Cls K C) (ha:PySem.W.findIn K (.ref C) "__class__"=G (G<|.builtin "object.__class__"))
   (hn:PySem.W.specialIn K 120 "__get__"=G (G<|.builtin "getset_descriptor.__get__")) (htk:PySem.W.takesIn K 120=G N)
   (hm:PySem.W.mroIn K C (.type "object")=G N):TyOf K H 07 74
theorem ztr(I:02 H s)(rx:RelV x u)(ty:TyOf X.K H x t)(e:PySem.W.kitOne X.K t c=G b)(h:∀f,Q (.bool b) {s with toks:=f}):
  wpAny 26 A (call 080 [u,c]) Q E s:=by
 cases ty with
 |non=>cases(show u=Va.none from rx);show PySem.W.kia_one PySem.W.kitx_none I.kIn True.intro e (λz=>nomatch z) h
 |bl y=>cases(show u=Va.bool y from rx);show PySem.W.kia_one PySem.W.kitx_bool I.kIn True.intro e (λz=>nomatch z) h
 |int i=>let(t,q):=(show∃t,u=Va.int i t from rx);cases q;show PySem.W.kia_one PySem.W.kitx_int I.kIn True.intro e (λz=>nomatch z) h
 |str y=>let(t,q):=(show∃t,u=Va.str y t from rx);cases q;show PySem.W.kia_one PySem.W.kitx_str I.kIn True.intro e (λz=>nomatch z) h
 |flt y=>let(t,q):=(show∃t,u=Va.float y t from rx);cases q;show PySem.W.kia_one PySem.W.kitx_float I.kIn True.intro e (λz=>nomatch z) h
 |@lst a xs D =>
  cases(show u=Va.ref a from rx);let(_,_,n,_,Y):=(show ObjOk X.prog X.w H s.heap a (99)from I.hok a _ D);show PySem.W.kia_one PySem.W.kitx_list I.kIn ⟨_,Y,R⟩ e (λz=>nomatch z) h
 |@frz a ob xs D =>
  cases(show u=Va.ref a from rx);let(_,_,_,n,_,Y):=(show ObjOk X.prog X.w H s.heap a (.frz ob 99)from I.hok a _ D);show PySem.W.kia_one PySem.W.kitx_list I.kIn ⟨_,Y,R⟩ e (λz=>nomatch z) h
 |@tup a xs D =>
  cases(show u=Va.ref a from rx);let(_,_,_,p):=(show ObjOk X.prog X.w H s.heap a (011)from I.hok a _ D);let(o,Y,h2,_):=p;show PySem.W.kia_one PySem.W.kitx_tuple I.kIn ⟨o,Y,h2⟩ e (λz=>nomatch z) h
 |@dK a kvs D =>
  cases(show u=Va.ref a from rx);let(_,_,vs,_,p):=(show ObjOk X.prog X.w H s.heap a (020)from I.hok a _ D);let(o,j,l,Y,h2,_):=p;show PySem.W.kia_one PySem.W.kitx_dict I.kIn ⟨o,Y,h2.1⟩ e (λz=>nomatch z) h
 |@dT a kvs D =>
  cases(show u=Va.ref a from rx);let(_,_,xs,_,o,j,l,Y,h2,_):=(show ObjOk X.prog X.w H s.heap a (.dT kvs)from I.hok a _ D);show PySem.W.kia_one PySem.W.kitx_dict I.kIn ⟨o,Y,h2.1⟩ e (λz=>nomatch z) h
 |@ins a C dx fs D cl g L d M =>
  cases(show u=Va.ref a from rx);let(U,O,_):=ins_get I.hok D;let(T,J,_):=O.look;show PySem.W.kia_one (PySem.W.kitx_own (cl.get _) cl.hd g L d M) I.kIn J e (λz=>nomatch z) h
end
structure Room(k:Nat)(A:io):Prop where
 hd:A.handled=B
 dp:A.depth+3*k+5<jO
 un:A.units+16*k+200<cLine
theorem Room.mono(r:Room k A)(h:j<=k):Room j A:=⟨r.hd,by have:=r.dp;omega,by have:=r.un;omega⟩
theorem Room.deeper(r:Room (k+1) A)(env:Env):Room k (A.deeper env) :=
 ⟨r.hd,by have:=r.dp;change A.depth+1+3*k+5<_;omega,by have:=r.un;change A.units+3+16*k+200<_;omega⟩
theorem Room.depth(r:Room k A):A.depth<jO:=by have:=r.dp;omega
theorem Room.units(r:Room k A):A.units+64<cLine:=by have:=r.un;omega
def tNil:TA:=λ_ H Q=>Q [] H
def tCons(A:TE)(r:TA):TA:=λσ H Q=>A σ H λx H1=>r σ H1 λxs H2=>Q (x::xs) H2
section
variable {X:Cx}{e:Expr}{es:List Expr}{te:TE}{t:TA}{pos:Pos}
theorem zaa:PA X [] tNil:=λ_ _ _ _ H Q I h=>Calls.spliced_nil ⟨[],H,I,.nil,h⟩
theorem pa_cons(ha:PE X e te)(L:PA X es t)(hs:im (e::es) X.env=044::im es X.env:=by rfl):PA X (e::es) (tCons te t):=by
 intro pos pins s σ H Q I h;rw[hs];change wpAny _ _ (spliced (044::iN pos (im es X.env))) _ _ s;apply Calls.spliced_cons<|thn 063 λu s1 zz=>ex5 zz λx H1 I1 r1 q1=>?_;show thn (L pos pins s1 σ H1 _ I1 q1) λus s2 zz=>ex5 zz λxs H2 A T q2=>⟨x::xs,H2,A,.cons r1 T,q2⟩
def tTup(t:TA):TE:=λσ H Q=>t σ H λxs H1=>xs.length<=ii/\∀p,H1 p=B->Q 42 (upd H1 p 011)
def tLst(t:TA):TE:=λσ H Q=>t σ H λxs H1=>xs.length<=ii/\∀p,H1 p=B->Q 42 (upd H1 p 99)
end
abbrev Sp:=List V->Hp->VK->XK->Prop
abbrev CXT:=List Env->Hp->ig->XK->Va->ig->Prop
structure Env0(P:ik)(w:World)(K:Frag)(mg:Y1)(base:Heap)(A:io)(outer:List Env)(s:ig)(H:Hp):Prop where
 frames:A.frames=G outer
 mod:Mod K mg base
 bs:∀b o,base.get? b=G o->s.heap.get? b=G o/\H b=B
 bsz:base.objs.size<=s.heap.objs.size
 funs:s.heap.FunFrames base outer
 frf:∀b∈frs outer,H b=B
 hok:HOk P w H s.heap
 bare:j8 s.gens
def CE(outer:List Env)(P:ik)(w:World)(H:Hp)(s:ig)(Q:VK)(u:Va)(s':ig):Prop :=
 ∃v H',s'.os=s.os/\j8 s'.gens/\Un (frs outer) [] H H' s.heap s'.heap/\HOk P w H' s'.heap/\RelV v u/\Q v H'
def CR(CX:CXT)(outer:List Env)(P:ik)(w:World)(H:Hp)(s:ig)(Q:VK)(E:XK)(r:Result)(s':ig):Prop :=
 match r with
 |.ok (.ret u)=>CE outer P w H s Q u s'
 |.ok _=>False
 |.error e=>CX outer H s E e s'
structure FnOk(P:ik)(w:World)(K:Frag)(mg:Y1)(base:Heap)(CX:CXT)(k:Nat)(f:Ad)(fd:i5)(ps:List Str)(sp:Sp):Prop where
 len:∀vs H Q E,sp vs H Q E->vs.length=ps.length
 run:∀(A:io) (outer:List Env) (s:ig) (H:Hp) (args:Args) (us:List Va) (vs:List V) (Q:VK) (E:XK),Room k A->Env0 P w K mg base A outer s H->jS s fd args 021->Vals vs us->sp vs H Q E->
  iZ 014 A (.call 57 args) (CR CX outer P w H s Q E) s
theorem FnOk.mono{P:ik}{w:World}{K:Frag}{mg:Y1}{base:Heap}{CX:CXT}{j k:Nat}{f:Ad}{fd:i5}{ps:List Str}{sp:Sp}(F:FnOk P w K mg base CX j f fd ps sp)(h:j<=k):
  FnOk P w K mg base CX k f fd ps sp:=⟨F.len,λA outer s H args us vs Q E L=>F.run A outer s H args us vs Q E<|L.mono h⟩
section
variable {X:Cx}{pins:Y2}{σ:St}{H:Hp}{s s':ig}
theorem Inv.env0(I:02 H s):Env0 X.prog X.w X.K X.mg X.base X.A X.stack s H :=
 ⟨I.ok.frames,I.ok.mod,I.bs,y0v I.ok.bsz I.sz,I.stack,I.stkFree,I.hok,I.bare⟩
theorem Inv.after(I:02 H s)(h:CE X.stack X.prog X.w H s Q u s'):EP X pins σ Q u s':=by
 let(v,H',os,bare,un,hok,r,q):=h;let(p,g,d,t,j):=s';obtain rfl:j=s.os:=os;show⟨v,H',I.call (h':=p) (g':=g) (d':=d) (t':=t) (ch:=[]) un hok bare λb z=>Xa z 05,r,q⟩
end
def tCall(sp:Sp)(a:List V)(E:XK)(t:TA):TE:=λσ H Q=>t σ H λvs H1=>sp (vs++a) H1 Q E
def Binds(K:Frag)(fd:i5)(ps:List Str)(ds:List Va):Prop :=
 ∀(s:ig) (us:List Va),K.In s.heap->(us++ds).length=ps.length->jS s fd 024 (ps.zip<|us++ds)
theorem Binds.all{K:Frag}{fd:i5}{ps:List Str}(h:∀us:List Va,us.length=ps.length->jf fd 024=pure 021):Binds K fd ps []:=λs us _ C=>by
 rw[y1z]at C ⊢;show .of_eq<|h us C
def Passes(CX:CXT)(X:Cx)(E:XK):Prop:=∀(pins:Y2) (σ:St) (H:Hp) (s:ig) (e:Va) (s':ig),02 H s->CX X.stack H s E e s'->X.xe e s'
section
variable {X:Cx}{CX:CXT}{k:Nat}{f C:Ad}{fd:i5}{ps:List Str}{sp:Sp}{dvs:List V}{ds:List Va}{E:XK}{x m:Str}{p pos apos:Pos}{e o:Expr}{es:List Expr}{ta:TE}{t:TA}
theorem zko{pins:Y2}{σ:St}{H:Hp}{s:ig}{Q:VK}{us:List Va}{vs:List V}(F:FnOk X.prog X.w X.K X.mg X.base CX k f fd ps sp)(L:Room k X.A)(U:Binds X.K fd ps ds)(hd:Vals dvs ds)(J:Passes CX X E)
  (I:02 H s) (r:Vals vs us) (h:sp (vs++dvs) H Q E):wpAny 26 X.A (call 57 us) 028 X.xe s:=by
 let y:Vals (vs++dvs) (us++ds):=r.append hd;let a:(us++ds).length=ps.length:=by rw[←y.length];show F.len _ _ _ _ h
 apply iO<|iA (F.run X.A X.stack s H 024 (us++ds) (vs++dvs) Q E L I.env0 (U s us I.kIn a) y h) λr s' T=>?_;cases r with
 |error e=>show J pins σ H s e s' I T
 |ok D =>
  cases D with
  |ret u=>show I.after T
  |next=>show False.elim T
  |brk=>show False.elim T
  |cont=>show False.elim T
theorem zmt(F:FnOk X.prog X.w X.K X.mg X.base CX k f fd ps sp)(L:Room k X.A)(y:Gl X x)(M:X.mg x=G 57)(O:PySem.W.keepIn X.K 57=N)(U:Binds X.K fd ps ds)(hd:Vals dvs ds)(J:Passes CX X E)
  (ha:PA X (e::es) t) (i:82=Fa:=by decide) (d:im (e::es) X.env=044::im es X.env:=by rfl) (z:(074).any (·.1)=Fa:=by rfl) :
  PE X 012 (tCall sp dvs E t):=by
 intro pins s σ H Q I h;apply i4<|zb8 I y M ?_ i;apply PySem.W.callWith_K (h₀:=X.base) I.ok.mod.kin O (thn 091 λus s1 zz=>ex5 zz λvs H1 I1 r q=>⟨I1.kIn,?_⟩) d z;show zko F L U hd J I1 r q
theorem zwg(F:FnOk X.prog X.w X.K X.mg X.base CX k f fd ps sp)(L:Room k X.A)(y:Gl X x)(M:X.mg x=G 57)(O:PySem.W.keepIn X.K 57=N)(U:Binds X.K fd ps ds)(hd:Vals dvs ds)(J:Passes CX X E)
  (i:82=Fa:=by decide):PE X (.Call (.Name x p) [] [] pos) (tCall sp dvs E tNil):=by
 intro pins s σ H Q I h;apply i4<|zb8 I y M ?_ i;show PySem.W.callWith_K0 I.kIn O<|zko (us:=[]) F L U hd J I .nil h
end
structure FnScope(Nq P:List Str)(sc:Scope):Prop where
 kind:sc.kind=.function:=by rfl
 co:sc.isCoroutine=Fa:=by rfl
 gen:sc.isGenerator=Fa:=by rfl
 nd:Nq.Nodup:=by decide+kernel
 pre:Nq.take P.length=P:=by rfl
 par:∀x∈P,sc.names.lookup x=G .local\/sc.names.lookup x=G .cell:=by decide+kernel
 nofree:∀y∈sc.names,y.2 ≠ .free:=by decide+kernel
theorem zl3{jv:Str->Option jh}{x:Str}:∀{binds:List (Str×Va)} {m:Y1},(∀v,(x,v)∉binds)->bindL jv binds m x=m x
 |[],_,_=>rfl
 |(n,v)::r,m,h=>by
  unfold bindL;rw[zl3 λw O=>h w<|y08 _ O];split
  .let:x≠n:=by rintro rfl;show h v y0c
   simp[this]
  .rfl
theorem zl4{jv:Str->Option jh}{x:Str}:∀{binds:List (Str×Va)} {m:Y1},(∀v,(x,v)∉binds)->bindC jv binds m x=m x
 |[],_,_=>rfl
 |(n,v)::r,m,h=>by
  unfold bindC;rw[zl4 λw O=>h w<|y08 _ O];split
  .rfl
  .let:x≠n:=by rintro rfl;show h v y0c
   simp[this]
theorem zg2{jv:Str->Option jh}{x:Str}{v:Va}:∀{P:List Str} {vs:List Va} {i:Nat} {m:Y1},P.Nodup->P[i]?=G x->vs[i]?=G v->jv x=G .local->
  bindL jv (P.zip vs) m x=G v
 |[],_,_,_,_,h,_,_=>by simp at h
 |_::_,[],_,_,_,_,h,_=>by simp at h
 |p::P,w::vs,0,m,nd,Y,h2,O=>by
  simp at Y h2;subst Y;subst h2;change bindL jv ((p,w)::P.zip vs) m p=_;unfold bindL;rw[zl3 λv hv=>(y1j.mp nd).1 (y1y hv).1,Xq O];simp
 |p::P,w::vs,i+1,m,nd,Y,h2,O=>by
  change bindL jv ((p,w)::P.zip vs) m x=_;unfold bindL;show zg2 (i:=i) (y1j.mp nd).2 (by simpa using Y) (by simpa using h2) O
theorem zg3{jv:Str->Option jh}{x:Str}{v:Va}:∀{P:List Str} {vs:List Va} {i:Nat} {m:Y1},P.Nodup->P[i]?=G x->vs[i]?=G v->jv x≠G .local->
  bindC jv (P.zip vs) m x=G v
 |[],_,_,_,_,h,_,_=>by simp at h
 |_::_,[],_,_,_,_,h,_=>by simp at h
 |p::P,w::vs,0,m,nd,Y,h2,O=>by
  simp at Y h2;subst Y;subst h2;change bindC jv ((p,w)::P.zip vs) m p=_;unfold bindC;rw[zl4 λv hv=>(y1j.mp nd).1 (y1y hv).1,Xp O];simp
 |p::P,w::vs,i+1,m,nd,Y,h2,O=>by
  change bindC jv ((p,w)::P.zip vs) m x=_;unfold bindC;show zg3 (i:=i) (y1j.mp nd).2 (by simpa using Y) (by simpa using h2) O
noncomputable def start(Nq:List Str)(vs:List V):St:=vs.map G++List.replicate (Nq.length-vs.length) B
noncomputable def cxOf(CX:CXT)(P:ik)(w:World)(K:Frag)(mg:Y1)(base:Heap)(Nq:List Str)(qual:Str)(scope:Scope)(f:Ad)(cd:Va)(A:io)(outer:List Env)(s:ig)(H:Hp)(E:XK):Cx where
 prog:=P
 w:=w
 K:=K
 mg:=mg
 base:=base
 A:=A.deeper 117
 Nq:=Nq
 s₀:=s
 H₀:=H
 env:=iP qual scope s.heap.objs.size f cd
 outer:=outer
 stack:=iP qual scope s.heap.objs.size f cd::outer
 ex:=[]
 calm:=N
 fn:=λ_=>N
 pn:=[]
 xe:=λe s'=>wpAny 014 (A.deeper 117) (jT 117 e) (λ_ g=>CX outer H s E e g) (λl g=>CX outer H s E l g) s'
theorem zdz{a:Scope}(h:a.names.lookup x=G .cell):∃c,(iz n a.names []).lookup x=G c:=by
 let q:=PySem.W.cellsFrom_some a.names n []<|.inl h;show y31.mp q
theorem zgs{CX:CXT}{P:ik}{w:World}{K:Frag}{mg:Y1}{base:Heap}{Nq ps:List Str}{qual:Str}{scope:Scope}{f:Ad}{cd:Va}{A:io}{outer:List Env}{s s1:ig}{H:Hp}{E:XK}{us:List Va}{vs:List V}
  (S:FnScope Nq ps scope) (hd:A.handled=B) (j:Env0 P w K mg base A outer s H) (C:vs.length=ps.length) (r:Vals vs us)
  (x:j0 s s.heap.objs.size (bindL (117).kindOf 021 λ_=>B) 069 (bindC (117).kindOf 021 λ_=>B) s1) :
  Inv (cxOf CX P w K mg base Nq qual scope f cd A outer s H E) [] 023 H s1:=by
 let J:ps.length<=Nq.length:=by have:=congrArg List.length S.pre;rw[y12]at this;omega
 let(Y,D,rfl,O):=x.done;let I:∀b:Ad,b∉(cxOf CX P w K mg base Nq qual scope f cd A outer s H E).ex:=λb z=>Xa (show b∈([]:List Ad)from z) 05;apply⟨⟨j.mod,S.kind,R,R,y06 _,λy z c Y h2=>?_,λy L=>?_,λy c _ h=>?_,λ_=>hd,Around.frames_deeper j.frames,.inr ⟨R,R⟩,λb z=>Xa z<|I b,j.bs,j.bsz,λb _ _=>I b,λb z=>Xa z<|I b,j.funs,j.frf⟩,
  rfl,j.bare,Un.kept O,⟨_,x.toInCall.ns,λi y v Y h2 h3=>?_⟩,λy c h=>⟨_,x.cell y c h⟩,j.hok.fresh 43,λy c h=>?_,λp l=>Xa (show p∈([]:Y2)from l) 05,j.hok.kept O,?_⟩
 .exact name_of_addr x.apart (PySem.mem_of_lookup Y)<|PySem.mem_of_lookup h2
 .let L:scope.names.lookup y=G .cell\/scope.names.lookup y=G .free:=L;rcases L with L|L
  .exact zdz L
  .exact Xa R<|S.nofree _ (PySem.mem_of_lookup L)
 .exact y1i<|x.above y c (PySem.mem_of_lookup h)
 .let hi:i<vs.length:=by
   unfold start at h2;by_cases hi:i<vs.length
   .exact hi
   .rw[y13<|by simpa using hi]at h2;rw[y36]at h2;split at h2<;>cases h2
  let g:vs[i]?=G v:=by
   unfold start at h2;rw[y11 (by simpa using hi),y04]at h2;cases e:vs[i]? with
   |none=>rw[e]at h2;cases h2
   |some a=>rw[e]at h2;cases h2;rfl
  let(u,U,d):=r.get g;let l:ps[i]?=G y:=by
   rw[←S.pre,y3v 01];show Y
  let o:ps.Nodup:=by rw[←S.pre];show S.nd.sublist<|List.take_sublist _ _
  apply⟨u,d,?_⟩;rcases S.par y (y0q l)with k|k
  .exact .inl ⟨k,zg2 o l U k⟩
  .let(c,e):=zdz (n:=s.heap.objs.size+1) k;apply .inr ⟨.inl k,c,e,?_⟩;let q:=x.cell y c e;rw[zg3 o l U<|by change scope.names.lookup y≠_;rw[k];decide]at q;show q
 .exact j.hok.fresh<|y1i (x.above y c<|PySem.mem_of_lookup h)
 .unfold start;change _=Nq.length;rw[y0j,y01,y1t];omega
theorem fn_of{CX:CXT}{P:ik}{w:World}{K:Frag}{mg:Y1}{base:Heap}{k:Nat}{f:Ad}{name qual:Str}{params:iL}{body:List Stmt}{scope:Scope}{dV kV doc pm cdv ct oc:Va}{an M:Option Ad}
  {g:Y8} {Nq ps:List Str} {sp:Sp} (lk:K.lookup f=G ⟨oc,M,.func 121,g⟩) (hcd:PySem.W.codeIn K cdv qual=N) (S:FnScope Nq ps scope)
  (len:∀vs H Q E,sp vs H Q E->vs.length=ps.length)
  (i:∀(A:io) (outer:List Env) (s:ig) (H:Hp) (vs:List V) (Q:VK) (E:XK),Room k (A.deeper 172)->sp vs H Q E->
   ∃t,PSs 098 body t/\t {nx:=λ_ H'=>Q .non H',rt:=Q} 023 H) :
  FnOk P w K mg base CX (k+1) f 121 ps sp:=by
 apply⟨len,λA outer s H args us vs Q E L e0 U r l=>?_⟩;let C:=len _ _ _ _ l;let KX:K.In s.heap:=e0.mod.kin.keeps λb o e=>(042).1;let a:s.heap.NoLimit:=e0.mod.nolimit.keeps λb o e=>(042).1;let c:∀y∈ps.zip us,scope.names.lookup y.1=G .local\/(scope.names.lookup y.1=G .cell/\((069).lookup y.1).isSome=N):=λ⟨n,v⟩ p=>by
  rcases S.par n (y1y p).1 with q|q
  .exact .inl q
  .exact .inr ⟨q,PySem.W.cellsFrom_some _ _ _<|.inl q⟩
 apply iS L.depth (KX _ _ lk) R S.co S.gen R (PySem.W.codeRec_of KX hcd)<|U _ _ _ _ ?_;apply ji S.kind c λenv d s1 x=>?_;subst d;apply⟨a.keeps x.toInCall.keep,j9 ?_⟩;let(t,j,T):=i A outer s H vs Q E (L.deeper _) l;let I:Inv 098 [] 023 H s1:=zgs S L.hd e0 C r x;apply ip (j [] s1 023 H _ I T) (λD s' hs=>?_) λe s' hs=>hs;let fin:∀{O:St} {H':Hp} {v:V} {u:Va},Inv 098 [] O H' s'->RelV v u->Q v H'->CE outer P w H s Q u s' :=
  λ{O H' v u} J Y q=>⟨v,H',J.os,J.bare,J.base,J.hok,Y,q⟩
 cases D with
 |ret u =>
  let(v,O,H',J,Y,q):=hs;show fin J Y q
 |next =>
  let(O,H',J,q):=hs;show fin (v:=V.non) (u:=Va.none) J R q
 |brk =>
  let(_,_,_,q):=hs;show False.elim q
 |cont =>
  let(_,_,_,q):=hs;show False.elim q
section
variable {X:Cx}{x:Str}{p pos:Pos}{e:Expr}{es:List Expr}{t:TA}{id T:String}{r:List V->Hp->VK->Prop}
def tCB(r:List V->Hp->VK->Prop)(t:TA):TE:=λσ H Q=>t σ H λvs H1=>r vs H1 Q
theorem zwe(hc:CallR X 060 r)(y:Gl X x)(M:X.mg x=B)(hv:iY x=G 060)(ha:PA X (e::es) t)(E:x≠"__name__":=by decide)(i:82=Fa:=by decide)
  (d:im (e::es) X.env=044::im es X.env:=by rfl) (z:(074).any (·.1)=Fa:=by rfl):PE X 012 (tCB r t):=by
 intro pins s σ H Q I h;apply i4<|zc8 I y M hv ?_ E i;show PyProof.Rows.callWith_builtin1 (thn 091 λus s1 zz=>ex5 zz λvs H1 I1 r1 q1=>hc pins s1 σ H1 vs us Q I1 r1 q1) d z
theorem zsd(hc:CallR X (.type T) r)(y:Gl X x)(M:X.mg x=B)(hv:iY x=G (.type T))(ha:PA X (e::es) t)(E:x≠"__name__":=by decide)(i:82=Fa:=by decide)
  (d:im (e::es) X.env=044::im es X.env:=by rfl) (z:(074).any (·.1)=Fa:=by rfl):PE X 012 (tCB r t):=by
 intro pins s σ H Q I h;apply i4<|zc8 I y M hv ?_ E i;show PyProof.Rows.callWith_type1 (thn 091 λus s1 zz=>ex5 zz λvs H1 I1 r1 q1=>hc pins s1 σ H1 vs us Q I1 r1 q1) d z
end
end L2
namespace HT
open PySem PyProof.Rows
section
open PySem.SeqAt
open PySem.AutoSeq1 (wpAny_loadPart')
open PySem.MeetsSeq PySem.MeetsSeq2 PySem.MeetsSeq3
end
section
variable {prog:ik}{w:World}{A:io}{E:Y0}{s:ig}
theorem cat_tup(p:IsTup s.heap t vs.toArray)(U:IsTup s.heap b j.toArray)(hv:vs≠[])
  (Y:j=[]->Q (.ref t) s) (h2:j≠[]->Q 016 {s with heap:=s.heap.push {cls:=.type "tuple",data:=.seq (vs++j).toArray} })
  (hsz:vs.length+j.length<=ii):wpAny 73 A (iD .Add (.ref t) 53) Q E s:=by
 let((cls,dd,data,f),C,hc,n,hd):=id p;let((o,g,data2,d),a,l,c,i):=id U;simp only at hc hd l i;subst hc hd l i;let e:vs.toArray++j.toArray=(vs++j).toArray:=by simp
 by_cases O:j=[]
 .exact concat_meets ⟨_,C,R⟩ ⟨_,a,R⟩ noFill_tuple_add seq_tuple_add PySem.F.slot_tuple_add PySem.F.entry_tuple_add (PySem.F.args_tuple_add_2 _ _)
   (tuple_addW1 t b vs.toArray j.toArray n c dd g f d (by simpa using hv)<|by simp[O]) ⟨C,a,Y O⟩
 .refine concat_meets ⟨_,C,R⟩ ⟨_,a,R⟩ noFill_tuple_add seq_tuple_add PySem.F.slot_tuple_add PySem.F.entry_tuple_add (PySem.F.args_tuple_add_2 _ _)
   (tuple_addW2 t b vs.toArray j.toArray n c dd g f d (by simpa using hv) (by simpa using O)<|by rw[y07,y07];show hsz) ⟨C,a,?_⟩
  rw[e];show h2 O
noncomputable def sIx(n d:Nat):Option Int->Nat
 |none=>d
 |some v=>if v<0 then(v+(n:Int)).toNat else min v.toNat n
theorem sIx_none(n d:Nat):sIx n d B=d:=rfl
theorem sIx_nat(n d k:Nat):sIx n d (G (k:Int))=min k n:=by
 change(if(k:Int)<0 then((k:Int)+(n:Int)).toNat else min (k:Int).toNat n)=min k n;rw[Xp 01,y2r]
theorem sIx_le(n d:Nat)(hd:d<=n)(o:Option Int):sIx n d o<=n:=by
 cases o with
 |none=>show hd
 |some v =>
  change(if v<0 then(v+(n:Int)).toNat else min v.toNat n)<=n;by_cases hv:v<0
  .rw[Xq hv];omega
  .rw[Xp hv];show Nat.min_le_right _ _
theorem clip_eq(v:Int)(n d:Nat):(if v<0 then max (v+(n:Int)) 0 else min v (n:Int))=((sIx n d 018:Nat):Int):=by
 change(if v<0 then max (v+(n:Int)) 0 else min v (n:Int))=(((if v<0 then(v+(n:Int)).toNat else min v.toNat n):Nat):Int);by_cases hv:v<0
 .simp only[Xq hv];omega
 .simp only[Xp hv];omega
theorem zq3(lo hi:Option Int)(n:Nat):Builtin.Slice.sliceAdjust lo hi 1 (n:Int)=(((sIx n 0 lo:Nat):Int),((sIx n n hi:Nat):Int)):=by
 let Y:¬((1:Int)<0):=by omega
 unfold Builtin.Slice.sliceAdjust;simp only[Y,if_false];apply Prod.ext ?_ ?_
 .cases lo with
  |none=>rfl
  |some v=>show clip_eq v n 0
 .cases hi with
  |none=>rfl
  |some v=>show clip_eq v n n
theorem zpv(i j:Nat):Builtin.Slice.slicePlaces (i:Int) (j:Int) 1=j-i:=by
 unfold Builtin.Slice.slicePlaces;let Y:(1:Int)>0:=by omega
 simp only[Y,if_true,Int.ediv_one];split<;>omega
theorem zhr(p:jY v o)(h:Q o s):wpAny 73 A (Builtin.Slice.slicePartIndex v) Q E s:=by
 cases p with
 |none=>show slicePart_none h
 |int i t=>show slicePart_int h
theorem zfu{f:Ad}{M vu:Va}{lo hi:Option Int}{n:Nat}{Q:Int×Int×Nat->ig->Prop}(hs:s.heap.IsSliceOf f M vu .none)(D:jY M lo)(Y:jY vu hi)
  (h:Q (((sIx n 0 lo:Nat):Int),1,sIx n n hi-sIx n 0 lo) s):wpAny 73 A (Builtin.Slice.sliceApplied (.ref f)<|pure (n:Int)) Q E s:=by
 let(os,d,c,g):=id hs;unfold Builtin.Slice.sliceApplied Builtin.Slice.sliceFields;apply ia<|ia (iu d g (x:=M) R<|ia (iu d g (x:=vu) R<|ia (iu d g (x:=.none) R<|ib ?_)));apply ia<|slicePart_none ?_;change wpAny _ _ (if((1:Int)==0)=N then _ else _) _ _ s;rw[Xp 06];apply ia<|zhr D (ia<|zhr Y (ia<|ib ?_));change wpAny _ _ (match Builtin.Slice.sliceAdjust lo hi 1 (n:Int)with|(lo,hi)=>pure (lo,(1:Int),Builtin.Slice.slicePlaces lo hi 1)) _ _ s;rw[zq3 lo hi n];change wpAny _ _ (pure (((sIx n 0 lo:Nat):Int),(1:Int),Builtin.Slice.slicePlaces ((sIx n 0 lo:Nat):Int) ((sIx n n hi:Nat):Int) 1)) _ _ s;rw[zpv];show ib h
theorem zv7(xs:Array Va)(i k:Nat):((List.range k).filterMap λ(m:Nat)=>xs[((i:Int)+(m:Int)*1).toNat]?).toArray=((xs.toList.drop i).take k).toArray:=by
 let e:(λ(m:Nat)=>xs[((i:Int)+(m:Int)*1).toNat]?)=λm=>xs[i+m]?:=by
  funext m;let:((i:Int)+(m:Int)*1).toNat=i+m:=by omega
  rw[this]
 rw[e];let:=pick_run xs i k;rw[List.filterMap_map]at this;let D:((λx=>xs[x]?)∘λx=>i+x)=λm=>xs[i+m]?:=rfl;rw[D]at this;rw[this]
theorem getItem_tuple_cut{t f:Ad}{items:Array Va}{M vu:Va}{lo hi:Option Int}{Q:Y0}(j:IsTup s.heap t items)(hs:s.heap.IsSliceOf f M vu .none)(D:jY M lo)(Y:jY vu hi)
  (O:¬(sIx items.size 0 lo=0/\sIx items.size items.size hi=items.size))
  (h:Q 016 {s with heap:=s.heap.push {cls:=.type "tuple",data:=.seq ((items.toList.drop<|sIx items.size 0 lo).take<|sIx items.size items.size hi-sIx items.size 0 lo).toArray} })
  (hsz:items.size<=ii):wpAny 73 A (jH (.ref t)<|.ref f) Q E s:=by
 let a:sizeOk (.seq ((items.toList.drop<|sIx items.size 0 lo).take 134).toArray):=by
  change((items.toList.drop<|sIx items.size 0 lo).take 134).toArray.size<=ii;rw[y07,y12,y2u,y1m];omega
 let o:sIx items.size items.size hi<=items.size:=sIx_le _ _ 43 hi;let(os,d,c,g):=id hs;let i:s.TypeIs (.ref f) "slice":=⟨os,d,c⟩;unfold jH
 try with_reducible apply iy ?_
 first|apply ia (ib ?_)|skip
 apply ia<|wpAny_sequenceKey j.typeIs 06 ?_;apply ia (i0 (name:=Str.ofString "__getitem__") j.typeIs PyProof.Rows.slot_tuple_getitem
  (i7 PyProof.Rows.slot_tuple_getitem j.typeIs entry_tuple_getitem ?_<|args_tuple_getitem _ _))
 change wpAny _ _ (Builtin.Tuple.tupleItemsOf (.ref t)>>=_) _ _ s;apply ia<|tupleItemsOf_ j ?_;apply ia<|jA i ?_;rw[Xq 06];apply ia<|zfu hs D Y ?_;let e:¬((((sIx items.size 0 lo:Nat):Int)==0&&(1:Int)==1&&134==items.size)=N):=by
  intro q;rw[y05,y05]at q;let q1:((sIx items.size 0 lo:Nat):Int)=0:=eq_of_beq q.1.1;let q2:sIx items.size items.size hi-sIx items.size 0 lo=items.size:=eq_of_beq q.2;show O ⟨by omega,by omega⟩
 change wpAny _ _ (if(((sIx items.size 0 lo:Nat):Int)==0&&(1:Int)==1&&134==items.size)=N then _ else _) _ _ s;rw[Xp e,zv7]
 first
  |show ia (m:=Builtin.Tuple.tupleExact _) (iG (ib ⟨_,rfl,ib h⟩) a)
  |show ia (m:=Builtin.Tuple.tupleExact _) (iG (ia<|ib (ib ⟨_,rfl,ib h⟩)) a)
  |show ia (ia (m:=Builtin.Tuple.tupleExact _)<|iG (ib<|ib ⟨_,rfl,ib h⟩) a)
  |show ia (ia (m:=Builtin.Tuple.tupleExact _)<|iG (ib ⟨_,rfl,ib h⟩) a)
end
end HT
namespace L2
abbrev TO:=St->Hp->(Option Int->Hp->Prop)->Prop
def PO(X:Cx)(e:Option Expr)(t:TO):Prop :=
 ∀(pins:Y2) (s:ig) (σ:St) (H:Hp) (Q:Option Int->Hp->Prop),02 H s->t σ H Q->
  wpAny 26 X.A (evalPart e X.env) (λu s'=>∃o H',02 H' s'/\jY u o/\Q o H') X.xe s
def tNoPart:TO:=λ_ H Q=>Q B H
def tPart(t:TE):TO:=λσ H Q=>t σ H λx H1=>∃i,x=.int i/\Q (G i) H1
theorem zfg:∀{us:List Va},Vals 057 us->la us ns:=by
 induction ns with
 |nil=>intro us r;rw[y30]at r;cases r;show .nil
 |cons n ns A =>
  intro us r;rw[y0o]at r;cases r with
  |cons r1 T =>
   let(t,e):=r1;subst e;show .cons n t<|A T
section
variable {X:Cx}{e:Expr}{te:TE}{lo hi:Option Expr}{tl th:TO}{pos p2:Pos}
theorem zde:PO X B tNoPart:=by
 intro pins s σ H Q I h;rw[evalPart_none];show ib ⟨B,H,I,.none,h⟩
theorem zdd(h:PE X e te):PO X (G e) (tPart te):=by
 intro pins s σ H Q I O;rw[evalPart_some];apply thn (h pins s σ H _ I O) λu s1 zz=>ex5 zz λx H1 I1 r1 q1=>?_;let(i,rfl,q):=q1;let(t,rfl):=r1;show⟨G i,H1,I1,.int i t,q⟩
def SlR(X:Cx)(r:V->Option Int->Option Int->Hp->VK->Prop):Prop :=
 ∀(pins:Y2) (s:ig) (σ:St) (H:Hp) (x:V) (v M vu:Va) (lo hi:Option Int) (f:Ad) (Q:VK),02 H s->RelV x v->s.heap.IsSliceOf f M vu .none->jY M lo->jY vu hi->r x lo hi H Q->
  ∃T id,jo (.type T) "__getitem__"=pure (G 060)/\s.TypeIs v T/\wpAny 26 X.A (jH v<|.ref f) 028 X.xe s
def tSl(r:V->Option Int->Option Int->Hp->VK->Prop)(te:TE)(tl th:TO):TE:=λσ H Q=>te σ H λx H1=>tl σ H1 λl H2=>th σ H2 λu H3=>r x l u H3 Q
theorem zck(L:SlR X r)(d:PE X e te)(C:PO X lo tl)(U:PO X hi th):PE X (.Subscript e (.Slice lo hi B p2) pos) (tSl r te tl th):=by
 intro pins s σ H Q I h;apply Subscript_<|thn (d pins s σ H _ I h) λv s1 zz=>ex5 zz λx H1 I1 r1 q1=>?_;apply wpAny_Slice<|thn (C pins s1 σ H1 _ I1 q1) λM s2 zz=>ex5 zz λl H2 A D q2=>thn (U pins s2 σ H2 _ A q2) λvu p zz=>ex5 zz λu H3 w Y q3=>?_;rw[evalPart_none];apply ib ?_;let E:02 H3 {p with heap:=p.heap.push {cls:=.type "slice",data:=.fields #[M,vu,.none]} }:=w.kept (t':=p.toks) λb ob q=>y03 _ q;let(T,id,a,j,y):=L pins {p with heap:=p.heap.push {cls:=.type "slice",data:=.fields #[M,vu,.none]} } σ H3 x v M vu l u p.heap.objs.size Q E r1 (Heap.IsSliceOf.new ..) D Y q3;change wpAny 26 X.A (subscriptTail e (.Slice lo hi B p2) v<|.ref p.heap.objs.size) 028 X.xe {p with heap:=p.heap.push {cls:=.type "slice",data:=.fields #[M,vu,.none]} };show tail_any (ops:=[.ref p.heap.objs.size,v]) j a y (by with_unfolding_all rfl)
noncomputable def cutV(xs:List V)(lo hi:Option Int):List V:=(xs.drop<|HT.sIx xs.length 0 lo).take 129
theorem zgx(xs:List V)(lo hi:Option Int):(cutV xs lo hi).length<=xs.length:=by
 unfold cutV;rw[y12,y2u];omega
def rSlT(K:Frag):V->Option Int->Option Int->Hp->VK->Prop:=λx lo hi H Q=>∃a xs,x=.ref a/\SqT K H a xs/\
 ¬183/\∀p,H p=B->Q 42 (upd H p<|.tup (cutV xs lo hi))
theorem sl_tup:SlR X (rSlT X.K):=by
 intro pins s σ H x v M vu lo hi f Q I rx hs D Y h;let(a,xs,rfl,J,O,q):=h;cases rx;let(its,r,j,hz):=I.tuple J;let g:its.toArray.size=xs.length:=by rw[y07];show r.length.symm
 apply⟨"tuple",_,PyProof.Rows.slot_tuple_getitem.lookup,j.typeIs,?_⟩;apply HT.getItem_tuple_cut j hs D Y (by rw[g];show O) ?_ (by rw[g];show hz);rw[g];apply⟨.ref s.heap.objs.size,_,I.laid (t':=s.toks) (o:=.tup<|cutV xs lo hi) (λb ob q=>y03 _ q) 43 ?_,R,q _ 083⟩;show⟨y0v (zgx xs lo hi) hz,_,(r.drop<|HT.sIx xs.length 0 lo).take 129,IsTup.new _ _⟩
def rCatT(K:Frag):R2:=λx y H Q=>∃a b xs ys,x=.ref a/\y=.ref b/\SqT K H a xs/\SqT K H b ys/\xs≠[]/\xs.length+ys.length<=ii/\
 (ys=[]->Q 07 H)/\(ys≠[]->∀p,H p=B->Q 42 (upd H p<|.tup (xs++ys)))
theorem Vals.nil_iff(r:Vals xs us):us=[]↔xs=[]:=by
 cases r with
 |nil=>simp
 |cons _ _=>simp
theorem op_catT:OpR X (iD .Add) (rCatT X.K):=by
 infer_instance;let(a,b,xs,ys,rfl,rfl,g,U,J,hz,q1,q2):=h;cases rx;cases ry;let(its,r1,r,_):=I.tuple g;let(Q,T,p2,_):=I.tuple U;apply HT.cat_tup r p2 (λz=>J<|r1.nil_iff.mp z) (λz=>⟨.ref a,H,I,R,q1<|T.nil_iff.mp z⟩) (λz=>?_) (by rw[←r1.length,←T.length];show hz);apply⟨.ref s.heap.objs.size,_,I.laid (t':=s.toks) (o:=.tup<|xs++ys) (λb ob q=>y03 _ q) 43 ?_,R,q2 (λw=>z<|T.nil_iff.mpr w) _ 083⟩;show⟨by rw[y0j];show hz,_,r1.append T,IsTup.new _ _⟩
end
noncomputable def ixN(n:Nat)(i:Int):Option Nat:=if 0<=i then(if i<n then G i.toNat else B)else if -(n:Int)<=i then G (i+n).toNat else B
def atI{d:Type}(xs:List d)(i:Int):Option d:=(ixN xs.length i).bind λj=>xs[j]?
theorem ixN_seq(h:ixN n i=G j):seqIndex? i n=G j/\j<n/\-(n:Int)<=i/\i<n:=by
 unfold ixN at h;by_cases h0:0<=i
 .rw[Xq h0]at h;by_cases Y:i<n
  .rw[Xq Y]at h;let e:i.toNat=j:=Option.some.inj h;show⟨by rw[seqIndex_of h0 Y,e],by omega,by omega,Y⟩
  .rw[Xp Y]at h;cases h
 .rw[Xp h0]at h;by_cases Y:-(n:Int)<=i
  .rw[Xq Y]at h;let e:(i+n).toNat=j:=Option.some.inj h;show⟨by rw[seqIndex_neg 01 Y,e],by omega,Y,by omega⟩
  .rw[Xp Y]at h;cases h
theorem znq{d:Type}{xs:List d}{i:Int}{v:d}(h:atI xs i=G v):∃j,seqIndex? i xs.length=G j/\xs[j]?=G v/\j<xs.length/\-(xs.length:Int)<=i/\i<xs.length:=by
 unfold atI at h;cases e:ixN xs.length i with
 |none=>rw[e]at h;cases h
 |some j =>
  rw[e]at h;let(Y,h2,h3,p):=ixN_seq e;show⟨j,Y,h,h2,h3,p⟩
theorem zam{d:Type}{xs:List d}{j:Nat}{v:d}(h:xs[j]?=G v):atI xs (j:Int)=G v:=by
 let o:j<xs.length:=(y0d.mp h).1;let e:ixN xs.length (j:Int)=G j:=by
  unfold ixN;rw[Xq 01,Xq 01];simp
 unfold atI;rw[e];show h
theorem zjz(xs:List d)(v:d):atI (xs++[v]) (-1)=G v:=by
 let C:(xs++[v]).length=xs.length+1:=by simp
 let e:ixN (xs++[v]).length (-1)=G xs.length:=by
  unfold ixN;rw[C,Xp 06,Xq 01];congr 1;omega
 unfold atI;rw[e];change(xs++[v])[xs.length]?=G v;simp
def PlainIx(b:Expr):Prop:=∀o i,jP b Fa o i=operate [o,i] (jH o i)
def IxR(X:Cx)(r:R2):Prop :=
 ∀(g l:Expr) (pins:Y2) (s:ig) (σ:St) (H:Hp) (x y:V) (v u:Va) (Q:VK),02 H s->RelV x v->RelV y u->r x y H Q->
  jP l Fa v u=operate [v,u] (jH v u)->wpAny 26 X.A (subscriptTail g l v u) 028 X.xe s
def MtR(X:Cx)(id:String)(r:V->List V->Hp->VK->Prop):Prop :=
 ∀(pins:Y2) (s:ig) (σ:St) (H:Hp) (x:V) (xs:List V) (v:Va) (us:List Va) (Q:VK),02 H s->RelV x v->Vals xs us->r x xs H Q->
  wpAny 26 X.A (call 060 (v::us)) 028 X.xe s
section
variable {X:Cx}{a b:Expr}{ta tb:TE}{pos:Pos}
theorem zao(L:IxR X r)(g:PE X a ta)(U:PE X b tb)(hs:PlainIx b):PE X (.Subscript a b pos) (tOp r ta tb):=by
 intro pins s σ H Q I h;show Subscript_<|binT g U I h λv u s2 x y H2 A rx ry q=>L a b pins s2 σ H2 x y v u Q A rx ry q<|hs _ _
def rIxL(K:Frag):R2:=λx y H Q=>asR x λp=>∃xs,asI y λi=>SqL K H p xs/\∃v,atI xs i=G v/\Q v H
def rIxT(K:Frag):R2:=λx y H Q=>asR x λp=>∃xs,asI y λi=>SqT K H p xs/\∃v,atI xs i=G v/\Q v H
def rIxS:R2:=λx y H Q=>asS x λz=>asI y λi=>z.length<=ii/\∃c,atI z.cps.toList i=G c/\Q (.str ⟨#[c]⟩) H
theorem ix_list:IxR X (rIxL X.K):=by
 intro g l pins s σ H x y v u Q I rx ry h hs;let(p,rfl,xs,h'):=zc9 h;let(i,rfl,T,z,d,q):=zd2 h';cases rx;let(t,rfl):=ry;let(its,r,D,hz):=I.list T;let(j,Y,h2,h3,L,h5):=znq d;let(w,e,c):=r.get h2;let C:=r.length;let E:=line63;let fin:EP X pins σ Q w s:=⟨z,H,I,c,q⟩;by_cases h0:0<=i
 .let o:i.toNat=j:=by
   rw[seqIndex_of h0 h5]at Y;show Option.some.inj Y
  show item_listR D.isList h0 01 (by rw[o];simpa using e) fin hs
 .let o:(i+(its.toArray.size:Int)).toNat=j:=by
   rw[seqIndex_neg 01 L]at Y;rw[y07,←C];show Option.some.inj Y
  show subscriptTail_builtinR (x:=w) D.isList.typeIs slot_list_getitem.lookup
   (wpAny_getItem_list_neg (Q:=λr s'=>r=w/\EP X pins σ Q r s') D.isList 01 (by rw[y07]<;>omega) 01 (by rw[o];simpa using e) ⟨R,fin⟩) hs
theorem ix_tup:IxR X (rIxT X.K):=by
 intro g l pins s σ H x y v u Q I rx ry h hs;let(p,rfl,xs,h'):=zc9 h;let(i,rfl,T,z,d,q):=zd2 h';cases rx;let(t,rfl):=ry;let(its,r,D,hz):=I.tuple T;let(j,Y,h2,h3,L,h5):=znq d;let(w,e,c):=r.get h2;let C:=r.length;let E:=line63;let fin:EP X pins σ Q w s:=⟨z,H,I,c,q⟩;show subscriptTail_builtinR (x:=w) D.typeIs slot_tuple_getitem.lookup
  (getItem_tuple (j:=j) (Q:=λr s'=>r=w/\EP X pins σ Q r s') D 01 01 (by rw[y07,←C];show Y) (by simpa using e) ⟨R,fin⟩) hs
theorem ix_str:IxR X rIxS:=by
 intro g l pins s σ H x y v u Q I rx ry h hs;let(z,rfl,h'):=asS_ex h;let(i,rfl,hz,c,d,q):=zd2 h';let(t,rfl):=rx;let(t',rfl):=ry;let(j,Y,h2,h3,p,h5):=znq d;let C:z.cps.toList.length=z.length:=by simp[Str.length]
 rw[C]at Y p h5;let E:=line63;show tail_any (typeIs_str s z t) slot_str_getitem.lookup (getItem_str (c:=c) (by
  let M:decide (i < -(2^63:Int))=Fa:=Xf 01;let D:decide (i>=2^63)=Fa:=Xf 01;rw[M,D,y3h]) (by rw[Y];simpa using h2) ⟨.str ⟨#[c]⟩,H,I.tok _,⟨_,R⟩,q⟩) hs
def rSetL:V->V->V->Hp->(Hp->Prop)->Prop:=λo i v H Q=>∃p xs k j,o=.ref p/\i=.int k/\H p=G 99/\ixN xs.length k=G j/\Q (upd H p<|.lst (xs.set j v))
theorem zkg(lo hi:Option Int)(n:Nat):(jp lo hi B n).1=((HT.sIx n 0 lo:Nat):Int)/\(jp lo hi B n).2.1=((HT.sIx n n hi:Nat):Int)/\(jp lo hi B n).2.2=1:=by
 apply⟨?_,?_,R⟩
 .cases lo with
  |none=>simp[jp,HT.sIx]
  |some i =>
   simp only[jp,HT.sIx,Option.getD_none,show(1:Int)>0 by decide,if_true];by_cases h:i<0
   .simp only[h,if_true]<;>omega
   .simp only[h,if_false]<;>omega
 .cases hi with
  |none=>simp[jp,HT.sIx]
  |some i =>
   simp only[jp,HT.sIx,Option.getD_none,show(1:Int)>0 by decide,if_true];by_cases h:i<0
   .simp only[h,if_true]<;>omega
   .simp only[h,if_false]<;>omega
theorem zio(its:List Va)(lo hi:Option Int):slicePick its.toArray lo hi B=((its.drop<|HT.sIx its.length 0 lo).take<|HT.sIx its.length its.length hi-HT.sIx its.length 0 lo).toArray:=by
 let(Y,h2,h3):=zkg lo hi its.toArray.size;unfold slicePick;rw[Y,h2,h3];simp only[sliceRange_one,pick_run,y07]<;>rfl
def rSlL(K:Frag):V->Option Int->Option Int->Hp->VK->Prop:=λx lo hi H Q=>∃a xs,x=.ref a/\SqL K H a xs/\∀p,H p=B->Q 42 (upd H p<|.lst (cutV xs lo hi))
theorem sl_list:SlR X (rSlL X.K):=by
 intro pins s σ H x v M vu lo hi f Q I rx hs D Y h;let(a,xs,rfl,J,q):=h;cases rx;let(its,r,j,hz):=I.list J;let g:=r.length;apply⟨"list",_,slot_list_getitem.lookup,j.isList.typeIs,?_⟩;apply wpAny_getItem_list_slice j.isList hs D Y .none 05 ?_ (by rw[y07]<;>omega);rw[zio,←g];apply⟨.ref s.heap.objs.size,_,I.laid (t':=s.toks) (o:=.lst<|cutV xs lo hi) (λb ob q=>y03 _ q) 43 ?_,R,q _ 083⟩;show⟨y0v (zgx xs lo hi) hz,_,0,(r.drop<|HT.sIx xs.length 0 lo).take 129,y0h _ R⟩
noncomputable def flatV:V->Bool
 |.non=>N
 |.bl _=>N
 |.int _=>N
 |.str _=>N
 |_=>Fa
noncomputable def eqV:V->V->Bool
 |.non,.non=>N
 |.bl a,.bl b=>a==b
 |.bl a,.int b=>(if a then 1 else 0)==b
 |.int a,.bl b=>a==(if b then 1 else 0)
 |.int a,.int b=>a==b
 |.str a,.str b=>a==b
 |_,_=>Fa
theorem zlo(ry:RelV y u)(rx:RelV x v)(d:flatV y=N)(c:flatV x=N):SeqAt.EqAt A s u v (eqV y x):=by
 cases y with
 |non =>
  cases ry;cases x with
  |non=>cases rx;show SeqAt.EqAt.same _
  |bl b=>cases rx;show SeqAt.EqAt.none_bool b
  |int b=>let(t,rfl):=rx;show SeqAt.EqAt.none_int b t
  |str b=>let(t,rfl):=rx;show SeqAt.EqAt.none_str b t
  |_=>show Xa (show Fa=N from c) y0k
 |bl a =>
  cases ry;cases x with
  |non=>cases rx;show SeqAt.EqAt.bool_none a
  |bl b=>cases rx;show SeqAt.EqAt.bool_bool a b
  |int b=>let(t,rfl):=rx;show SeqAt.EqAt.bool_int a b t
  |str b=>let(t,rfl):=rx;show SeqAt.EqAt.bool_str a b t
  |_=>show Xa (show Fa=N from c) y0k
 |int a =>
  let(t',rfl):=ry;cases x with
  |non=>cases rx;show SeqAt.EqAt.int_none a t'
  |bl b=>cases rx;show SeqAt.EqAt.int_bool a t' b
  |int b=>let(t,rfl):=rx;show SeqAt.EqAt.int_int a t' b t
  |str b=>let(t,rfl):=rx;show SeqAt.EqAt.int_str a t' b t
  |_=>show Xa (show Fa=N from c) y0k
 |str a =>
  let(t',rfl):=ry;cases x with
  |non=>cases rx;show SeqAt.EqAt.str_none a t'
  |bl b=>cases rx;show SeqAt.EqAt.str_bool a t' b
  |int b=>let(t,rfl):=rx;show SeqAt.EqAt.str_int a t' b t
  |str b=>let(t,rfl):=rx;show SeqAt.EqAt.str_str a t' b t
  |_=>show Xa (show Fa=N from c) y0k
 |_=>show Xa (show Fa=N from d) y0k
def eqU(x:V)(u:Va):Bool:=match u with
 |.none=>eqV .non x
 |.bool b=>eqV (.bl b) x
 |.int i _=>eqV (.int i) x
 |.str z _=>eqV 94 x
 |_=>Fa
theorem zzd(r:RelV y u)(f:flatV y=N):eqU x u=eqV y x:=by
 cases y with
 |non=>cases r;rfl
 |bl b=>cases r;rfl
 |int i=>let(t,rfl):=r;rfl
 |str z=>let(t,rfl):=r;rfl
 |_=>show Xa (show Fa=N from f) y0k
theorem zg4:∀{xs:List V} {us:List Va},Vals xs us->xs.all flatV=N->us.any (eqU x)=xs.any λy=>eqV y x
 |_,_,.nil,_=>rfl
 |y::xs,u::us,.cons r t,f=>by
  rw[y24,y05]at f;rw[y2w,y2w,zzd r f.1,zg4 t f.2]
theorem zex(rx:RelV x v)(c:flatV x=N):∀{xs:List V} {us:List Va},Vals xs us->xs.all flatV=N->∀u∈us,SeqAt.EqAt A s u v (eqU x u)
 |_,_,.nil,_=>λu U=>by cases U
 |y::xs,u::us,.cons r t,f=>λw U=>by
  rw[y24,y05]at f;rcases y09.mp U with rfl|U
  .rw[zzd r f.1];show zlo r rx f.1 c
  .exact zex rx c t f.2 w U
def inV(x:V)(xs:List V):Bool:=xs.any λy=>eqV y x
def rIn(K:Frag)(neg:Bool):R2:=λx y H Q=>∃p xs,y=.ref p/\(SqL K H p xs\/SqT K H p xs)/\flatV x=N/\xs.all flatV=N/\Q (.bl<|if neg then !inV x xs else inV x xs) H
theorem zso:OpR X (iw .In) (rIn X.K Fa):=by
 infer_instance;let(p,xs,rfl,T,c,fs,q):=h;cases ry;rcases T with T|T
 .let(its,r,D,hz):=I.list T;apply SeqAt.in_listAt (eqU x) D.isList (λw O=>zex rx c r fs w<|by simpa using O) ⟨.bl _,H,I,R,?_⟩;rw[show its.toArray.any (eqU x)=its.any (eqU x) by simp,zg4 r fs];show q
 .let(its,r,D,hz):=I.tuple T;apply SeqAt.in_tupleAt (eqU x) D (λw O=>zex rx c r fs w<|by simpa using O) ⟨.bl _,H,I,R,?_⟩;rw[show its.toArray.any (eqU x)=its.any (eqU x) by simp,zg4 r fs];show q
theorem zk4:OpR X (iw .NotIn) (rIn X.K N):=by
 infer_instance;let(p,xs,rfl,T,c,fs,q):=h;cases ry;rcases T with T|T
 .let(its,r,D,hz):=I.list T;apply SeqAt.notIn_listAt (eqU x) D.isList (λw O=>zex rx c r fs w<|by simpa using O) ⟨.bl _,H,I,R,?_⟩;rw[show its.toArray.any (eqU x)=its.any (eqU x) by simp,zg4 r fs];show q
 .let(its,r,D,hz):=I.tuple T;apply SeqAt.notIn_tupleAt (eqU x) D (λw O=>zex rx c r fs w<|by simpa using O) ⟨.bl _,H,I,R,?_⟩;rw[show its.toArray.any (eqU x)=its.any (eqU x) by simp,zg4 r fs];show q
theorem zlz:CallR X 076 (λxs H Q=>∃p ys,xs=[.ref p]/\(SqL X.K H p ys\/SqT X.K H p ys)/\Q (.int ys.length) H):=by
 intro pins s σ H xs us Q I r h;let(p,ys,rfl,T,q):=h;let(u,rfl,rx):=vals1 r;cases rx;let E:=line63;rcases T with T|T
 .let(its,r',D,hz):=I.list T;let g:=r'.length;show Calls.call_len_list D.isList (by simp only[y07]<;>omega) ⟨.int ys.length,H,I.tok _,⟨s.toks+1,by rw[y07,g]⟩,q⟩
 .let(its,r',D,hz):=I.tuple T;let g:=r'.length;show len_tuple D (by simp only[y07]<;>omega) ⟨.int ys.length,H,I.tok _,⟨s.toks+1,by rw[y07,g]⟩,q⟩
theorem zft:CallR X 076 (λxs H Q=>∃z,xs=[.str z]/\z.length<=ii/\Q (.int z.length) H):=by
 intro pins s σ H xs us Q I r h;let(z,rfl,hz,q):=h;let(u,rfl,t,rfl):=vals1 r;let E:=line63;show len_str 01 ⟨.int z.length,H,I.tok _,⟨_,R⟩,q⟩
theorem zjp:CallR X (.type "tuple") (λxs H Q=>∃p ys,xs=[.ref p]/\((SqL X.K H p ys/\∀l,H l=B->Q (.ref l) (upd H l<|.tup ys))\/(SqT X.K H p ys/\Q 42 H))):=by
 intro pins s σ H xs us Q I r h;let(p,ys,rfl,h):=h;let(u,rfl,rx):=vals1 r;cases rx;rcases h with⟨T,q⟩|⟨T,q⟩
 .let(its,r',D,hz):=I.list T;let g:=r'.length;apply call_tuple_list D.isList (λh' kp=>?_) (by simp only[y07]<;>omega);let I1:02 H {s with heap:=h'}:=I.kept (t':=s.toks) kp;let A:02 (upd H h'.objs.size<|.tup ys) {s with heap:=h'.push {cls:=.type "tuple",data:=.seq its.toArray} } :=
   I1.laid (t':=s.toks) (λb o e=>y03 _ e) 43 (show ObjOk X.prog X.w _ _ _ (.tup ys)from⟨hz,its,r',IsTup.new _ _⟩)
  show⟨.ref h'.objs.size,_,A,R,q _<|I1.hok.fresh 43⟩
 .let(its,r',D,hz):=I.tuple T;show call_tuple_same D ⟨.ref p,H,I,R,q⟩
def tyV(K:Frag)(T:String)(x:V)(H:Hp):Prop:=match x with
 |.str _=>T="str"
 |.int _=>T="int"
 |.ref p=>(T="list"/\∃xs,SqL K H p xs)\/(T="tuple"/\∃o,K.lookup p=G o/\o.cls=.type "tuple"/\o.dict=B)\/
   (T="dict"/\((∃kvs,H p=G 020)\/∃kvs,H p=G (.dT kvs)))\/(T="set"/\∃S n,H p=G (.set S n))
 |_=>False
theorem zyj{pins:Y2}{σ:St}{H:Hp}{s:ig}{T:String}{x:V}{v:Va}(I:02 H s)(r:RelV x v)(ty:tyV X.K T x H):
  s.TypeIs v T/\∀a,v=.ref a->∃ob,s.heap.get? a=G ob/\ob.dict=B:=by
 cases x with
 |str z =>
  let(t,rfl):=r;cases(show T="str" from ty);show⟨typeIs_str s z t,λ_ e=>nomatch e⟩
 |int i =>
  let(t,rfl):=r;cases(show T="int" from ty);show⟨typeIs_int s i t,λ_ e=>nomatch e⟩
 |ref p =>
  cases r;rcases ty with⟨rfl,xs,Y⟩|⟨rfl,o,O,hc,hd⟩|⟨rfl,O⟩|⟨rfl,S,n,O⟩
  .let(its,_,g,_):=I.list Y;apply⟨g.isList.typeIs,λa e=>?_⟩;cases e;let(o,n,e,c,hd,_):=g;show⟨o,e,hd⟩
  .refine⟨⟨o,I.kIn p o O,hc⟩,λa e=>?_⟩;cases e;show⟨o,I.kIn _ o O,hd⟩
  .let z:∃o,s.heap.get? p=G o/\o.ExactDict:=by
    rcases O with⟨kvs,O⟩|⟨kvs,O⟩
    .let(_,_,_,_,o,_,_,e,ex,_):=I.hok p _ O;show⟨o,e,ex⟩
    .let(_,_,_,_,o,_,_,e,ex,_):=I.hok p _ O;show⟨o,e,ex⟩
   let(o,e,ex):=z;apply⟨⟨o,e,ex.1⟩,λa D=>?_⟩;cases D;show⟨o,e,ex.2.1⟩
  .let(o,_,_,_,e,ex,_):=I.hok p _ O;apply⟨⟨o,e,ex.1⟩,λa D=>?_⟩;cases D;show⟨o,e,ex.2.1⟩
 |_=>show False.elim ty
def tBM0(K:Frag)(T:String)(r:V->List V->Hp->VK->Prop)(c:TE):TE:=λσ H Q=>c σ H λx H1=>tyV K T x H1/\r x [] H1 Q
def tBM(K:Frag)(T:String)(r:V->List V->Hp->VK->Prop)(c:TE)(t:TA):TE:=λσ H Q=>c σ H λx H1=>tyV K T x H1/\t σ H1 λxs H2=>r x xs H2 Q
variable {o e:Expr}{es:List Expr}{to:TE}{t:TA}{name:Str}{apos cpos:Pos}{T id:String}{r:V->List V->Hp->VK->Prop}
theorem pe_bm0(pa:PlainAttrs T)(slot:Slot T name id)(f:typeOf 060=pure (.type "method_descriptor"))(M:MtR X id r)(C:PE X o to)
  (c:attributeBase o name X.env (eval o X.env)=eval o X.env:=by rfl) (d:107=N:=by rfl):PE X (.Call (.Attribute o name apos) [] [] cpos) (tBM0 X.K T r to):=by
 intro pins s σ H Q I h;apply wpAny_Call_method0_late c d<|thn (C pins s σ H _ I h) λv s1 zz=>ex5 zz λx H1 I1 r1 zq=>?_;let(ty,q1):=zq;let(Y,h2):=zyj I1 r1 ty;show⟨T,id,pa,slot,f,Y,h2,Calls.callWith_builtin R<|PySem.evalArgs_none (M pins s1 σ H1 x [] v [] Q I1 r1 .nil q1)⟩
theorem pe_bm(pa:PlainAttrs T)(slot:Slot T name id)(f:typeOf 060=pure (.type "method_descriptor"))(M:MtR X id r)(C:PE X o to)(g:PA X (e::es) t)
  (c:attributeBase o name X.env (eval o X.env)=eval o X.env:=by rfl)
  (i:((iN cpos<|im (e::es) X.env).all (λx=>!x.1)&&(173).all (λx=>x.1.isSome)
   && decide ((e::es).length+([]:List jN).length+(if([]:List jN).isEmpty then 0 else 1)<30))=N:=by rfl)
  (d:107=N:=by rfl) (hs:im (e::es) X.env=044::im es X.env:=by rfl) (l:(iN cpos<|im es X.env).any (·.1)=Fa:=by rfl) :
  PE X (.Call (.Attribute o name apos) (e::es) [] cpos) (tBM X.K T r to t):=by
 intro pins s σ H Q I h;apply wpAny_Call_method_late c i d R<|thn (C pins s σ H _ I h) λv s1 zz=>ex5 zz λx H1 I1 r1 zq=>?_;let(ty,q1):=zq;let(Y,h2):=zyj I1 r1 ty;apply⟨T,id,pa,slot,f,Y,h2,?_⟩;let j:=g cpos pins s1 σ H1 _ I1 q1;rw[hs]at j ⊢;apply Calls.callWith_builtin (by change(Fa||(iN cpos<|im es X.env).any (·.1))=Fa;rw[l]<;>rfl)<|Calls.evalArgs_plain ?_;show thn j λus s2 zz=>ex5 zz λvs H2 A y q2=>M pins s2 σ H2 x vs v us Q A r1 y q2
end
def MtM(X:Cx)(id:String)(r:V->List V->Hp->VK->Prop):Prop :=
 ∀(pins:Y2) (s:ig) (σ:St) (H:Hp) (x:V) (xs:List V) (v:Va) (us:List Va) (Q:VK),02 H s->RelV x v->Vals xs us->r x xs H Q->
  wpAny 26 X.A (call 060 (v::us)) 028 X.xe s
theorem Vals.one:∀{x:V} {us:List Va},Vals [x] us->∃u,us=[u]/\RelV x u:=λh=>vals1 h
theorem Vals.zero:∀{us:List Va},Vals [] us->us=[]
 |_,.nil=>rfl
theorem Vals.dropLast(h:Vals xs us):Vals xs.dropLast us.dropLast:=by
 induction h with
 |nil=>show .nil
 |cons r t A =>
  cases t with
  |nil=>show .nil
  |cons q t'=>show .cons r A
theorem Vals.reverse(h:Vals xs us):Vals xs.reverse us.reverse:=by
 induction h with
 |nil=>show .nil
 |cons r t A=>rw[y3i,y3i];show Vals.append A<|.cons r .nil
theorem zqt{d:Type}(l:List d):l.eraseIdx (l.length-1)=l.dropLast:=by
 induction l with
 |nil=>rfl
 |cons a r A =>
  cases r with
  |nil=>rfl
  |cons b r =>
   let e:(a::b::r).length-1=((b::r).length-1)+1:=by
    let Y:(a::b::r).length=r.length+2:=rfl;let h2:(b::r).length=r.length+1:=rfl;omega
   rw[e,List.eraseIdx_cons_succ,A]
   all_goals rfl
section
variable {X:Cx}{pins:Y2}{σ:St}{H:Hp}{s:ig}{l b:Ad}{xs ys zs:List V}
theorem Inv.lset{its its':List Va}(I:02 H s)(o:H l=G 99)
  (e:s.heap.get? l=G {cls:=.type "list",data:=.seq its.toArray n}) (j:f its.toArray=its'.toArray) (hv:Vals ys its') (hz:ys.length<=ii) :
  02 (upd H l 75) {s with heap:=s.heap.update l<|Obj.mapSeq f,toks:=t'}:=by
 let q:=PySem.IsL.update e f;rw[j]at q;apply I.write (x:=l) (e:=l) (by rw[o];show trivial) 027 (λg u U r=>(y1d s.heap (Obj.mapSeq f)<|Ne.symm U).trans r) ⟨_,q⟩ ?_;show⟨hz,its',_,hv,q⟩
theorem Inv.lnew(I:02 H s)(hv:Vals ys its)(hz:ys.length<=ii):
  02 (upd H s.heap.objs.size 75) {s with heap:=s.heap.push {cls:=.type "list",data:=.seq its.toArray},toks:=t'} :=
 I.laid (λ_ _ q=>y03 _ q) 43 ⟨hz,its,0,hv,y0h _ R⟩
theorem Inv.fresh(I:02 H s):H s.heap.objs.size=B:=I.hok.fresh 43
theorem Inv.lstM(I:02 H s)(o:H l=G 99):xs.length<=ii/\∃(its:List Va) (n:Nat),Vals xs its/\xs.length=its.length/\s.heap.get? l=G {cls:=.type "list",data:=.seq its.toArray n}:=by
 let(z,its,n,r,e):=I.hok l _ o;show⟨z,its,n,r,r.length,e⟩
end
section
variable {X:Cx}
def rAppend:V->List V->Hp->VK->Prop:=λx vs H Q=>∃l xs y,x=.ref l/\vs=[y]/\H l=G 99/\xs.length<ii/\Q .non (upd H l<|.lst (xs++[y]))
theorem zla:MtM X "list.append" rAppend:=by
 intro pins s σ H x vs v us Q I rx d h;let(l,xs,y,rfl,rfl,o,hz,q):=h;cases rx;let(u,rfl,f):=d.one;let(z,its,n,r,C,e):=I.lstM o;apply je F.slot_list_append ⟨_,e,R⟩ F.entry_list_append (F.args_list_append_2 _ _) (PySem.list_append l its.toArray n u<|by rw[y07];omega) ⟨e,?_⟩;apply⟨.non,_,I.lset (its':=its++[u]) o e 05 (r.append<|.cons f .nil) ?_,R,q⟩;rw[y0j,y0u];omega
def rExtend:V->List V->Hp->VK->Prop:=λx vs H Q=>∃l b xs w,x=.ref l/\vs=[.ref b]/\H l=G 99/\H b=G (.lst w)/\xs.length+w.length<=ii/\Q .non (upd H l<|.lst (xs++w))
def rPop:V->List V->Hp->VK->Prop:=λx vs H Q=>∃l xs y,x=.ref l/\vs=[]/\H l=G 99/\xs[xs.length-1]?=G y/\Q y (upd H l<|.lst xs.dropLast)
theorem mt_pop:MtM X "list.pop" rPop:=by
 intro pins s σ H x vs v us Q I rx d h;let(l,xs,y,rfl,rfl,o,L,q):=h;cases rx;let a:=d.zero;subst a;let(z,its,n,r,C,e):=I.lstM o;let(u,U,f):=r.get L;let c:its.toArray[its.toArray.size-1]?=G u:=by
  change its.toArray[its.length-1]?=G u;rw[←Array.getElem?_toList,←C];show U
 apply je F.slot_list_pop ⟨_,e,R⟩ F.entry_list_pop (F.args_list_pop_1 _) (MeetsSeq.list_pop_last l its.toArray n u c<|by rw[y07];omega) ⟨e,?_⟩;apply⟨y,_,I.lset (its':=its.dropLast) o e ?_ r.dropLast ?_,f,q⟩
 .change its.toArray.eraseIdxIfInBounds (its.toArray.size-1)=its.dropLast.toArray;rw[y07,List.eraseIdxIfInBounds_toArray,zqt]
 .rw[List.length_dropLast];omega
def rPopAt:V->List V->Hp->VK->Prop:=λx vs H Q=>∃l xs i k y,x=.ref l/\vs=[.int i]/\H l=G 99/\-(2^63)<=i/\i<2^63/\seqIndex? i xs.length=G k/\xs[k]?=G y/\Q y (upd H l<|.lst (xs.eraseIdx k))
def rCat:R2:=λx y H Q=>∃l b xs w,x=.ref l/\y=.ref b/\H l=G 99/\H b=G (.lst w)/\xs.length+w.length<=ii/\∀p,H p=B->Q 42 (upd H p<|.lst (xs++w))
theorem op_cat:OpR X (iD .Add) rCat:=by
 infer_instance;let(l,b,xs,w,rfl,rfl,o,d,hz,q):=h;cases rx;cases ry;let(z,its,n,r,C,e):=I.lstM o;let(p,Q,c,T,i,D):=I.lstM d;apply PySem.P.add_list e D ?_ (by rw[y07,y07];omega);let O:its.toArray++Q.toArray=(its++Q).toArray:=by simp
 rw[O];show⟨.ref _,_,I.lnew (t':=s.toks) (r.append T) (by rw[y0j];omega),R,q _ I.fresh⟩
end
end L2
namespace Att
open PySem PySem.W PySem.Calls PyProof.Rows
theorem zgt:∀(ns:List Int) (vs:List Va),WellAll P h vs (ns.map WData.int)->la vs ns:=by
 intro ns
 induction ns with
 |nil =>
  intro vs w;rw[y30]at w;cases w;show .nil
 |cons n ns A =>
  intro vs w;rw[y0o]at w;cases w with
  |cons a b =>
   cases a;show .cons _ _<|A _ b
theorem zrs{l:OpenLaw}(hn:l.most=G n){h:Heap}
  (hpre:l.row.toRowW.claim.pre args=N) (hwl:WellAll P h vals args) :
  ∃a vs ns,vals=[Va.ref a]/\args=[WData.list<|ns.map WData.int]/\h.get? a=G {cls:=.type "list",data:=.seq vs.toArray}/\la vs ns/\ns.length<=n:=by
 let hsh:WShape.hasAll [] args [.list .int]=N:=(pre_splitW hpre).1;let hc:l.pre.holds [] {args:=args}=N:=(pre_splitW hpre).2;let(d,r,rfl,h1,h2):=hasAllW_cons hsh;obtain rfl:=hasAllW_nil h2;let(xs,rfl,h3):=hasW_list h1;let(ns,rfl):=items_int h3;let hlen:ns.length<=n:=by
  unfold OpenLaw.pre at hc;let h4:(WTm.not<|.lt (.lit<|.int (n:Int)) (.len<|.arg 0)).holds [] {args:=[.list<|ns.map .int]}=N:=by
   let h4:=(holds_andW hc).1;rw[hn]at h4;show h4
  let h5:=condW_of h4<|w_not (w_lt w_lit<|w_len_list (w_arg R));rw[y01]at h5;apply y20 λq=>?_;let q':(n:Int)<((ns.length:Nat):Int):=by omega
  first
   |(rw[Xg q']at h5;show Xa h5<|by decide)
   |(simp at h5;omega)
 cases hwl with
 |cons w1 w2 =>
  cases w2;cases w1 with
  |list ho hall=>show⟨_,_,ns,R,R,ho,zgt ns _ hall,hlen⟩
theorem zr3(l:OpenLaw)(args:List WData):l.row.toRowW.claim.post args (.bool N) args=N :=
 postW_of (r:=l.row.toRowW) (X:=(N==N))
  (show WShape.has [] (.bool N) .bool=N by first|rfl|decide|simp[WShape.has,WShape.arms,WShape.armsAll])
  (show(WTm.eq .res<|.lit (.bool N)).value [] {args:=args,res:=G<|.bool N,after:=args}=G (.bool<|N==N)from w_eq_bool (w_res R) w_lit) R
theorem attach_call{l:OpenLaw}{d:DefRec}
  (E:l.most=G n) (D:d.params.defaults=[])
  (call:∀(w:World) (s₀ s₁:ig) (mg mb:Y1) (z:Ad) (o:Obj) (j cd doc:Va) (a:Ad) (vs:List Va) (ns:List Int),
   Ground q c [] u w s₀ mg mb s₁.heap->Q w s₁.heap->
   s₁.heap.get? z=G o->o.data=.func (docDef d.name d.params d.body d.scope j cd doc)->s₁.heap.CodeRec cd d.name->mg d.name=G (.ref z)->
   s₁.heap.get? a=G {cls:=.type "list",data:=.seq vs.toArray}->la vs ns->ns.length<=n->s₁.gens=#[]->
   iZ (model l.prog w) jU (.call (.ref z) ⟨[.ref a],[]⟩) (λr s'=>r=.ok (.ret<|.bool N)/\OldK s₁.heap s'.heap/\s'.os=s₁.os/\j8 s'.gens) s₁) :
  WalkO q c u Q l.row.toRowW d [] (λf vs=>PySem.call f vs):=by
 intro w s₀ s₁ mg mb Gq Y z o j cd doc L kV U hd hcd I C y args H x s v J e O;obtain rfl:L=.none:=Dflts.none I D;obtain rfl:kV=.none:=Dflts.noKw I;let(a,vs,ns,rfl,rfl,A,i,g):=zrs E s e;apply enter_call<|iA (call w s₀ s₁ mg mb z o j cd doc a vs ns Gq Y U (fd_plain hd) hcd C A i g y) λr s' T=>?_;let(rfl,h2,h3,p):=T;show⟨.inl ⟨.bool N,.bool N,[],R,λ_=>rfl,.bool N,zr3 l _,λ_=>⟨List.Pairwise.nil,λ_ M=>(nomatch M)⟩⟩,h2,h3,p⟩
end Att
namespace L2
theorem zj2:∀{vs:List Va} {ns:List Int},la vs ns->Vals 057 vs
 |_,_,.nil=>.nil
 |_,_,.cons n t h=>.cons ⟨t,R⟩<|zj2 h
noncomputable abbrev KOf{K:Frag}{h:Heap}(_:K.In h):Frag:=K
noncomputable def defArgs(s:Stmt):iL:=match s with
 |.FunctionDef _ a _ _ _ _ _ _ _ _=>a
 |_=>{posonlyargs:=[],args:=[],vararg:=B,kwonlyargs:=[],kw_defaults:=[],kwarg:=B,defaults:=[]}
noncomputable def defBody(s:Stmt):List Stmt:=match s with
 |.FunctionDef _ _ b _ _ _ _ _ _ _=>b
 |_=>[]
noncomputable def defScope(s:Stmt):Scope:=match s with
 |.FunctionDef _ _ _ _ _ _ a _ _ _=>a
 |_=>{kind:=.function,names:=[],isGenerator:=Fa,isCoroutine:=Fa}
abbrev CX0:CXT:=λ_ _ _ _ _ _=>False
abbrev E0:XK:=λ_ _ _=>False
theorem pass0:Passes CX0 X E0:=λ_ _ _ _ _ _ _ h=>h.elim
structure Fun(K:Frag)(x qual:Str)(st:Stmt)(f:Ad)(fd:i5):Prop where
 ex:∃(oc:Va) (od:Option Ad) (kV doc pm:Va) (an:Option Ad) (cdv ct:Va) (osl:Y8),
  fd=PySem.W.fnOf x qual (defArgs st) 040 95 .none kV doc pm an cdv ct/\K.lookup f=G ⟨oc,od,.func fd,osl⟩/\PySem.W.codeIn K cdv qual=N
 kp:PySem.W.keepIn K 57=N
section
variable {P:ik}{w:World}{K:Frag}{mg:Y1}{base:Heap}
theorem Fun.ok{x qual:Str}{st:Stmt}{f:Ad}{fd:i5}{Nq ps:List Str}{k:Nat}{sp:Sp}(F:Fun K x qual st f fd)(S:FnScope Nq ps 95)(len:∀vs H Q E,sp vs H Q E->vs.length=ps.length)
  (i:∀(cdv:Va) (A:io) (outer:List Env) (s:ig) (H:Hp) (vs:List V) (Q:VK) (E:XK),Room k 141->sp vs H Q E->
   ∃t,PSs (cxOf CX0 P w K mg base Nq qual 95 f cdv A outer s H E).nox 040 t/\t {nx:=λ_ H'=>Q .non H',rt:=Q} 023 H):FnOk P w K mg base CX0 (k+1) f fd ps sp:=by
 let(oc,T,kV,doc,j,a,cdv,ct,g,rfl,lk,hcd):=F.ex;apply fn_of lk hcd S len λA outer s H vs Q E L l=>?_;let(t,h,q):=i cdv A outer s H vs Q E L l;show⟨t,h.nox,q⟩
theorem Fun.binds{x qual:Str}{st:Stmt}{f:Ad}{fd:i5}{ps:List Str}(F:Fun K x qual st f fd)
  (h:∀(kV doc pm:Va) (an:Option Ad) (cdv ct:Va) (us:List Va),us.length=ps.length->jf 180 024=pure 021):Binds K fd ps []:=by
 let(oc,T,kV,doc,pm,an,cdv,ct,g,rfl,lk,hcd):=F.ex;show .all<|h kV doc pm an cdv ct
theorem zo2{x qual:Str}{st:Stmt}{f:Ad}{oc:Va}{T an:Option Ad}{g:Y8}{kV doc pm cdv ct:Va}(l:K.lookup f=G ⟨oc,T,.func 180,g⟩)
  (c:PySem.W.codeIn K cdv qual=N) (k:PySem.W.keepIn K 57=N):Fun K x qual st f 180:=⟨⟨oc,T,kV,doc,pm,an,cdv,ct,g,R,l,c⟩,k⟩
end
theorem small1000(h:n<=1000):n<ii:=Nat.lt_of_le_of_lt h 06
section
variable {X:Cx}
theorem pv(i:Nat){x:Str}{pos:Pos}(hN:X.Nq[i]?=G x:=by rfl)(hv:Vis X.env.scope x:=by first|show Or.inl rfl|show Or.inr (Or.inl R)|show Or.inr (Or.inr R))(hd:(x==("__debug__":Str))=Fa:=by decide)
  (hcd:079=Fa:=by decide):PE X (.Name x pos) (tVar i):=zhv hN hv hd hcd
end
theorem iteF{A Bq:Prop}(h:Bq):if Fa=N then A else Bq:=by
 rw[Xp y0k];show h
theorem iteT{A Bq:Prop}(h:A):if N=N then A else Bq:=by
 rw[Xq rfl];show h
theorem itT{c A Bq:Prop}[Decidable c](e:c)(h:A):if decide c=N then A else Bq:=by
 rw[Xg e];show iteT h
theorem itF{c A Bq:Prop}[Decidable c](e:¬c)(h:Bq):if decide c=N then A else Bq:=by
 rw[Xf e];show iteF h
theorem ite2{c A Bq:Prop}[Decidable c](Y:c->A)(h2:¬c->Bq):if c then A else Bq:=by
 by_cases h:c
 .rw[Xq h];show Y h
 .rw[Xp h];show h2 h
def Same(H H':Hp):Prop:=∀b o,H b=G o->H' b=G o
theorem Same.refl(H:Hp):Same H H:=λ_ _ h=>h
theorem Same.trans(a:Same H H1)(b:Same H1 H2):Same H H2:=λc o h=>b c o<|a c o h
theorem Same.free(e:Same H H')(h:H' l=Option.none):H l=Option.none:=by
 cases q:H l with
 |none=>rfl
 |some o =>
  rw[e l o q]at h;cases h
theorem Same.seq{K:Frag}{H H':Hp}{a:Ad}{xs:List V}(e:Same H H')(h:SqL K H a xs):SqL K H' a xs:=by
 rcases h with(h|⟨o,h⟩)|h
 .exact .inl<|.inl (e _ _ h)
 .exact .inl<|.inr ⟨o,e _ _ h⟩
 .exact .inr h
theorem ixm{a:Ad}{S:Ad->List V->Prop}{xs:List V}{i:Int}{v:V}{Rq:V->Prop}(e:S a xs)(h:atI xs i=G v)(r:Rq v):asR 07 λp=>∃xs,S p xs/\∃v,atI xs i=G v/\Rq v:=⟨xs,e,v,h,r⟩
theorem mkT{n:Nat}{Rq:Prop}(k:Rq)(h:Nat.ble n ii=N:=by rfl):n<=ii/\Rq:=⟨Nat.le_of_ble_eq_true h,k⟩
theorem atom{A:Prop}(h:∀Gq:Prop,(A->Gq)->Gq):A:=h A id
theorem zfj(env:Env):∀(names:List<|Str×jh) (cs:Y4),
  (∀p∈names,p.2=.free->∃c,env.cells.lookup p.1=G c)->(∀x c,cs.lookup x=G c->env.cells.lookup x=G c)->
  ∃cl:List<|Str×Ad,(forIn names cs λ(p:Str×jh) (r:Y4)=>(if(p.2==NameKind.free)=N then(do let c ←cellOf env p.1;pure (ForInStep.yield ((p.1,c)::r)))else pure (ForInStep.yield r):Sem<|ForInStep (List<|Str×Ad)))=(pure cl:Sem<|List (Str×Ad))/\
   (∀x c,cl.lookup x=G c->env.cells.lookup x=G c)/\(∀x,(cs.lookup x).isSome=N->(cl.lookup x).isSome=N)/\(∀p∈names,p.2=.free->(cl.lookup p.1).isSome=N)
 |[],cs,_,h2=>⟨cs,R,h2,λ_ h=>h,λ_ h=>nomatch h⟩
 |(n,k)::r,cs,Y,h2=>by
  let d:∀p∈r,p.2=.free->∃c,env.cells.lookup p.1=G c:=λp l=>Y p<|y08 _ l;by_cases O:(k==NameKind.free)=N
  .let w:k=.free:=by simpa using O
   let(c,hc):=Y (n,k) y0c w;let a:∀x c',((n,c)::cs).lookup x=G c'->env.cells.lookup x=G c':=λx c' e=>by
    rw[y0w]at e;cases J:x==n with
    |true =>
     rw[J]at e;let M:x=n:=by simpa using J
     rw[M,hc];show e
    |false=>rw[J]at e;show h2 x c' e
   let(cl,M,D,L,o):=zfj env r ((n,c)::cs) d a;let E:(((n,c)::cs).lookup n).isSome=N:=by rw[y0w,beq_self_eq_true];rfl
   apply⟨cl,?_,D,λx J=>L x ?_,λp l j=>?_⟩
   .rw[y27];let q:cellOf env n=pure c:=by unfold cellOf;rw[hc]
    simp only[O,if_true,q];show M
   .rw[y0w];cases x==n with
    |true=>rfl
    |false=>show J
   .rcases y09.mp l with e|l
    .rw[e];show L n E
    .exact o p l j
  .let(cl,M,D,L,o):=zfj env r cs d h2;apply⟨cl,?_,D,L,λp l j=>?_⟩
   .rw[y27];let f:(k==NameKind.free)=Fa:=by simpa using O
    simp only[f,y1u,if_false];show M
   .rcases y09.mp l with e|l
    .rw[e]at j;show Xa (by simpa using j) O
    .exact o p l j
theorem zia(h:∀p∈scope.names,p.2=.free->∃c,env.cells.lookup p.1=G c):
  ∃cl,closureFor scope env=pure cl/\(∀x c,cl.lookup x=G c->env.cells.lookup x=G c)/\(∀p∈scope.names,p.2=.free->∃c,cl.lookup p.1=G c):=by
 let(cl,M,D,_,o):=zfj env scope.names [] h (λx c e=>by simp at e);apply⟨cl,?_,D,λp l j=>y31.mp<|o p l j⟩;let q:closureFor scope env=(forIn scope.names [] λ(p:Str×jh) (r:Y4)=>(if(p.2==NameKind.free)=N then(do let c ←cellOf env p.1;pure (ForInStep.yield ((p.1,c)::r)))else pure (ForInStep.yield r):Sem<|ForInStep (List<|Str×Ad)))>>=pure:=by
  unfold closureFor;rfl
 rw[q,M];rfl
theorem zfn{env:Env}:∀{names:List (Str×jh)} {x:Str},(∀y∈names,y.2 ≠ .cell)->
  ((names.map λ(n,k)=>if(094)then(n,NameKind.cell)else(n,k)).lookup x=G .cell\/
   (names.map λ(n,k)=>if(094)then(n,NameKind.cell)else(n,k)).lookup x=G .free)->(x,NameKind.free)∈names
 |[],_,_,h=>by simp at h
 |(n,k)::r,x,hc,h=>by
  let A:=@zfn env r x λy L=>hc y<|y08 _ L;simp only[y0o]at h;cases J:x==n with
  |true =>
   let e:x=n:=by simpa using J
   subst e;by_cases p:(k==NameKind.free&&env.scope.kind ==.function&&env.kindOf x==G .cell)=N
   .let:k=.free:=by
     simp only[y05]at p;simpa using p.1.1
    subst this;show y0c
   .rw[Xp p]at h;simp only[y0w,J]at h;rcases h with h|h
    .let:k=.cell:=Option.some.inj h;show Xa this<|hc (x,k) y0c
    .let:k=.free:=Option.some.inj h;subst this;show y0c
  |false =>
   apply y08 _<|A ?_;by_cases p:094=N
   .rw[Xq p]at h;simpa only[y0w,J]using h
   .rw[Xp p]at h;simpa only[y0w,J]using h
theorem zfm{env:Env}:∀{names:List (Str×jh)} {x:Str},names.lookup x=G .free->
  ((names.map λ(n,k)=>if(094)then(n,NameKind.cell)else(n,k)).lookup x=G .cell\/
   (names.map λ(n,k)=>if(094)then(n,NameKind.cell)else(n,k)).lookup x=G .free)
 |[],_,h=>by simp at h
 |(n,k)::r,x,h=>by
  let A:=@zfm env r x;simp only[y0o];cases J:x==n with
  |true =>
   simp only[y0w,J]at h;let e:k=.free:=Option.some.inj h;subst e;by_cases p:(NameKind.free==NameKind.free&&env.scope.kind ==.function&&env.kindOf n==G .cell)=N
   .rw[Xq p];left;simp only[y0w,J]
   .rw[Xp p];right;simp only[y0w,J]
  |false =>
   simp only[y0w,J]at h;by_cases p:094=N
   .rw[Xq p];simpa only[y0w,J]using A h
   .rw[Xp p];simpa only[y0w,J]using A h
def cxB(X:Cx)(scope:Scope)(tn:List Str)(cp:Y6)(cl:Y4)(C:Ad)(s:ig)(H:Hp)(fp:List Ad):Cx :=
 {X with Nq:=tn++cp.map (·.2),s₀:=s,H₀:=H,env:=compEnvC scope cl C X.env,outer:=X.stack,ex:=fp,fn:=λ_=>Fa,pn:=[],xe:=λ_ _=>False}
noncomputable def stB(tn:List Str)(cp:Y6)(σ:St):St:=List.replicate tn.length B++cp.map λp=>(σ[p.1]?).getD B
structure CompOk(X:Cx)(scope:Scope)(cp:Y6):Prop where
 kind:scope.kind=.function
 nocell:∀y∈scope.names,y.2 ≠ .cell
 names:∀y∈scope.names,y.2=.local->scope.names.lookup y.1=G .local
 free:∀y∈scope.names,y.2=.free->X.env.kindOf y.1=G .cell\/X.env.kindOf y.1=G .free
 cap:∀p∈cp,X.Nq[p.1]?=G p.2/\scope.names.lookup p.2=G .free
section
variable {X:Cx}{pins:Y2}{σ:St}{H:Hp}{s:ig}{scope:Scope}{tn:List Str}{cp:Y6}{cl:Y4}{fp:List Ad}
theorem mem_of_lookup'{d:Type}:∀{l:List (Str×d)} {x:Str} {v:d},l.lookup x=G v->(x,v)∈l
 |[],_,_,h=>by simp at h
 |(n,k)::r,x,v,h=>by
  rw[y0w]at h;cases J:x==n with
  |true =>
   rw[J]at h;let e:x=n:=by simpa using J
   let D:k=v:=Option.some.inj h;subst e D;show y0c
  |false=>rw[J]at h;show y08 _<|mem_of_lookup' h
theorem znp(I:02 H s)(O:CompOk X scope cp)(g:∀x c,cl.lookup x=G c->X.env.cells.lookup x=G c)(f:∀p∈scope.names,p.2=.free->∃c,cl.lookup p.1=G c)
  (j:∀b∈fp,FpOk X pins H b/\b<s.heap.objs.size) (hns:h₁.Ns s.heap.objs.size m0) (hk:∀b o,s.heap.get? b=G o->h₁.get? b=G o) :
  Inv (cxB X scope tn cp cl s.heap.objs.size s H fp) [] (stB tn cp σ) H {s with heap:=h₁,toks:=t'}:=by
 let ok:(cxB X scope tn cp cl s.heap.objs.size s H fp).Ok:=by
  apply⟨I.ok.mod,O.kind,I.ok.glob,I.ok.blt,y06 _,λx y c M D=>I.ok.inj x y c (g x c M)<|g y c D,λx J=>?_,λx c J=>(by cases J),I.ok.hd,I.ok.frames,.inl R,λb U=>⟨y0m (j b U).2,λx c e=>?_⟩,
   λb o e=>I.bs b o e,y0v I.ok.bsz I.sz,λb o e U=>?_,λb U T=>?_,I.stack,I.stkFree⟩
  .exact f (x,.free) (zfn O.nocell J) R
  .exact(j b U).1.2.2.2.2.1 x c<|g x c e
  .rcases(j b U).1.2.2.2.1 with z|z
   .exact I.ok.noex b o e z
   .exact Xa (y0r (y0g e)<|y0v I.ok.bsz z)<|y1p _
  .rcases y09.mp (I.stkSub b T)with z|z
   .exact(j b U).1.2.1 z
   .exact(j b U).1.2.2.1 z
 apply⟨ok,R,I.bare,Un.kept hk,⟨m0,hns,λi x v M D L=>?_⟩,λx c e=>?_,I.hok.fresh 43,λx c e=>I.freeC x c<|g x c e,λp hp=>by simp[cxB]at hp,I.hok.kept hk,?_⟩
 ·-- a sg name
  let Q:(tn++cp.map (·.2))[i]?=G x:=M;let d:(List.replicate tn.length B++cp.map λp=>(σ[p.1]?).getD B)[i]?=G 018:=D;by_cases hi:i<tn.length
  .rw[y11<|by simpa using hi]at d;rw[y36,Xq hi]at d;cases d
  .rw[y13 (by simpa using y20 hi),y1t,y04]at d;rw[y13<|y20 hi,y04]at Q;cases hp:cp[i-tn.length]? with
   |none=>rw[hp]at Q;cases Q
   |some p =>
    rw[hp]at Q d;let e1'':p.2=x:=Option.some.inj Q;let A:(σ[p.1]?).getD B=G v:=Option.some.inj d;let(c1,c2):=O.cap p<|y0q hp;rw[e1'']at c1 c2;let hs:σ[p.1]?=G 018:=by
     cases q:σ[p.1]? with
     |none=>rw[q]at A;cases A
     |some z=>rw[q]at A;show congrArg G A
    let w:=O.free (x,.free) (mem_of_lookup' c2) rfl;let hvis:Vis X.env.scope x:=by
     rcases w with z|z
     .exact .inr<|.inl z
     .exact .inr<|.inr z
    let(m,E,C):=I.loc;let(u,r,l):=C p.1 x v c1 hs hvis;apply⟨u,r,.inr ?_⟩;rcases l with⟨z,_⟩|⟨_,c,hc,o,Y,hd⟩
    .rcases w with y|y<;>(rw[z]at y;cases y)
    .let(c',aw):=f (x,.free) (mem_of_lookup' c2) rfl;let:c'=c:=Option.some.inj<|(g x c' aw).symm.trans hc;subst this;show⟨zfm c2,c',aw,o,hk c' o Y,hd⟩
 .let(v,o,Y,hd):=I.cell x c<|g x c e;show⟨v,o,hk c o Y,hd⟩
 .change(stB tn cp σ).length=(tn++cp.map (·.2)).length;unfold stB;simp
theorem zu7{O:St}{H':Hp}{s':ig}{h':Heap}{a:Y2}(I:02 H s)(j:∀b∈fp,FpOk X pins H b)
  (J:Inv (cxB X scope tn cp cl s.heap.objs.size s H fp) a O H' s') (hs:Heap.SameBut s.heap.objs.size s'.heap h'):02 H' {s' with heap:=h'}:=by
 let ne:∀b o,s.heap.get? b=G o->b≠s.heap.objs.size:=λb o e=>y0m<|y0g e;let U:Un (frs X.stack) fp H H' s.heap h':=by
  let u:Un (frs X.stack) fp H H' s.heap s'.heap:=J.base;apply⟨λb o e n Y h2=>(hs.2 b<|ne b o e).trans<|u.keep b o e n Y h2,λb o e n Y h2=>?_,u.free,λb o e h2=>?_,u.tups,u.frzs,u.tbls⟩
  .let(f,q):=u.slot b o e n Y h2;show⟨f,(hs.2 b<|ne b o e).trans q⟩
  .let(A,q):=u.there b o e h2;show⟨A,(hs.2 b<|ne b o e).trans q⟩
 let fr:H' s.heap.objs.size=B:=J.free;let hok:HOk X.prog X.w H' h':=λb ob e=>by
  apply(J.hok b ob e).stay (λc v hc q=>(hs.2 c ?_).trans q) (λ_ q=>q) (λ_ _ _ _ _ q=>q) λ_ _ q=>q;rintro rfl;rcases hc with z|z
  .rw[←z,fr]at e;cases e
  .rw[fr]at z;cases z
 apply I.call' (s':={s' with heap:=h'}) (ch:=fp) J.os U hok J.bare λb d=>?_;let(_,f1,_,D,T,l):=j b d;show⟨D,f1,T,l⟩
end
def PIfs(X:Cx)(d:List Expr)(t:TT):Prop :=
 ∀(pins:Y2) (s:ig) (σ:St) (H:Hp) (Q:Bool->Hp->Prop),02 H s->t σ H Q->
  wpAny 26 X.A (forIn d N λc r=>if r=N then do let ok ←isTrue c X.env (eval c X.env);pure (ForInStep.yield ok)else pure (ForInStep.yield r)) (TP X pins σ Q) X.xe s
def tYes:TT:=λ_ H Q=>Q N H
theorem zbd:PIfs X [] tYes:=λ_ _ _ H _ I h=>wpAny_tests_nil ⟨H,I,h⟩
theorem zyu(h:PT X c t):PIfs X [c] t:=λpins s σ H Q I O=>wpAny_tests_one<|h pins s σ H Q I O
theorem zlr(I:Nat->ig->Prop)
  (turn:∀n s,I n s->wpAny 73 A (j5 it) (λr s₁=>match r with
   |none=>Rq (.ok .next) s₁
   |some v=>wpAny 73 A (iX a it v) (λ_ s₂=>wpAny 73 A (assign a env v) (λ_ s₃ =>
     wpAny 73 A (forIn d N λc r=>if r=N then do let ok ←isTrue c env (eval c env);pure (ForInStep.yield ok)else pure (ForInStep.yield r)) (λok i =>
      if ok=N then wpAny 73 A (eval u env) (λx l =>
       wpAny 73 A (call (.builtin "list.append") [acc,x]) (λ_ o=>∃m,m<n/\I m o) (λ_ _=>False) l) (λ_ _=>False) i
      else∃m,m<n/\I m i) (λ_ _=>False) s₃) (λ_ _=>False) s₂) (λ_ _=>False) s₁) (λ_ _=>False) s)
  (n:Nat) (h:I n s) :
  iZ 73 A (.compLoop (.ListComp u [⟨a,iter,d,0⟩] scope pos) 0 it acc env) Rq s:=by
 apply codeAny_loop R I (λn s y=>?_) n h;change wpAny _ A ((compTurn (.ListComp u [⟨a,iter,d,0⟩] scope pos) 0 it acc env).onRaise λx=>do noteFrame x env;theTreesLotGoes x) _ _ s;apply wpAny_noted ?_;rw[compTurn_list];apply ia<|jb (ia<|ip (turn n s y) (λr s₁ h₁=>?_) λ_ _ f=>f.elim);cases r with
 |none=>show ib h₁
 |some v =>
  apply ia<|ip h₁ (λ_ s₂ j=>?_) λ_ _ f=>f.elim;apply ia<|ip j (λ_ s₃ e=>ia<|ip e (λok i g=>?_) λ_ _ f=>f.elim) λ_ _ f=>f.elim;cases ok with
  |false=>show ib ⟨R,g⟩
  |true =>
   show ia<|ia (ip g (λx l q=>ia<|ip q (λ_ o p=>ib<|ib ⟨R,p⟩) λ_ _ f=>f.elim) λ_ _ f=>f.elim)
def tComp(tn:List Str)(cp:Y6)(a:TI)(g:TG)(tif:TT)(te:TE):TE:=λσ H Q=>a σ H λJ H1=>∀D,H1 D=B->∃W:Nat->Nat->St->Hp->Prop,
 (∃m,W 0 m (stB tn cp σ) 054)/\∀i m f Hb,W i m f Hb->
  (J.stop i Hb/\Q 71 Hb)\/(J.go i Hb/\∀x H',J.yld i Hb x H'->g x f H' λd H2=>tif d H2 λc H3 =>
   if c=N then te d H3 λy H4=>∃ys,H4 D=G 75/\ys.length<ii/\∃o,o<m/\W (i+1) o d 089
   else∃o,o<m/\W (i+1) o d H3)
theorem zh6{X:Cx}{elt tg iter:Expr}{ifs:List Expr}{scope:Scope}{pos cpos:Pos}{wi:TI}{g:TG}{tif:TT}{te:TE}(tn:List Str)(cp:Y6)(O:CompOk X scope cp)(hc:X.calm=N)(hi:PI X tg iter wi)
  (hg:∀cl C s H fp,PG 073 tg g) (hif:∀cl C s H fp,PIfs 073 ifs tif) (he:∀cl C s H fp,PE 073 elt te)
  (hs:∀x,jr iter X.env x=pure x) {pins:Y2} {s:ig} {σ:St} {H:Hp} {Q:VK} {Rq:Y0} {use:Option (Va->Sem Unit)} (I:02 H s) (h:tComp tn cp wi g tif te σ H Q)
  (fin:∀(D C:Ad) (H5:Hp) (s5:ig) (m:Y1),02 H5 s5->FpOk X pins H5 C->s5.heap.Ns C m->Q 71 H5->compPost 26 X.A X.xe use Rq 71 C (.ok .next) s5) :
  wpAny 26 X.A (comprehension 115 scope X.env cpos (newList []) Fa (eval iter X.env) use) Rq X.xe s:=by
 let(cl,aa,b7,da):=zia (scope:=scope) (env:=X.env) λp l j=>I.ok.has p.1<|O.free p l j;apply wpAny_comprehension_free (use:=use) R hs aa O.kind O.names<|thn (hi pins s σ H _ I h) λv s1 Y=>thn Y λitv s2 h2=>?_;let(it,fp,tn',J,H2,rfl,A,T,st2,q,rest):=h2;apply iG ?_;let w:02 (upd H2 s2.heap.objs.size<|.lst []) {s2 with heap:=s2.heap.push {cls:=.type "list",data:=.seq ([]:List Va).toArray} }:=A.lnew (its:=[]) (t':=s2.toks) .nil<|y17 _;let(W,(m0,w0),turn):=rest s2.heap.objs.size A.fresh;let fpl:∀b∈fp,b<s2.heap.objs.size:=λb U=>by
  let(o,e,_):=T.obj _ _ st2 b U;show y0g e
 let f3:∀b∈fp,FpOk X pins (upd H2 s2.heap.objs.size<|.lst []) b:=λb U=>⟨by rw[zaj<|y0m (fpl b U)];show(q b U).1,(q b U).2⟩;let sz3:(078).objs.size=s2.heap.objs.size+1:=y1g ..;apply wpAny_newFunctionEnv O.nocell (by intro y hy;simp at hy) (λh₁ hns hsb=>?_) O.kind;let hk1:∀b o,(078).get? b=G o->h₁.get? b=G o:=λb o e =>
  hsb.extBut b o (y0m<|y0g e) (y03 _ e)
 let J3:=znp (tn:=tn) (cp:=cp) (t':=s2.toks+([]:List<|Str×Va).length) w O b7 da (λb U=>⟨f3 b U,by rw[sz3];show y26<|fpl b U⟩) hns hk1;let st3:tn' 0 h₁:=T.keep _ _ _ st2 λb U o e=>hk1 b o<|y03 _ e;change iZ _ _ (.compStart _ 0 035 (.ref s2.heap.objs.size)<|compEnvC scope cl (078).objs.size X.env) _ _;generalize bh:cxB X scope tn cp cl (078).objs.size {s2 with heap:=s2.heap.push {cls:=.type "list",data:=.seq ([]:List Va).toArray} } (upd H2 s2.heap.objs.size<|.lst []) fp=XB at J3;let br:XB.prog=X.prog:=by rw[←bh];rfl
 let hw:XB.w=X.w:=by rw[←bh];rfl
 let hK:XB.K=X.K:=by rw[←bh];rfl
 let hA:XB.A=X.A:=by rw[←bh];rfl
 let di:XB.env=compEnvC scope cl (078).objs.size X.env:=by rw[←bh];rfl
 let k7:XB.calm=N:=by rw[←bh];show hc
 let hxe:XB.xe=λ_ _=>False:=by rw[←bh];rfl
 let hgB:PG XB tg g:=by rw[←bh];show hg _ _ _ _ _
 let hifB:PIfs XB ifs tif:=by rw[←bh];show hif _ _ _ _ _
 let heB:PE XB elt te:=by rw[←bh];show he _ _ _ _ _
 let fB:∀(pb:Y2) (Hb:Hp),(∀b∈fp,Hb b=B)->(∀b∈fp,∀p∈XB.pn++pb,p.1≠b)->∀b∈fp,FpOk XB pb Hb b:=λpb Hb E l b U=>by
  apply⟨E b U,?_,?_,.inl (by rw[←bh];show U),λx c e=>?_,l b U⟩
  .rw[di];change b≠(078).objs.size;rw[sz3];show y0m<|y26 (fpl b U)
  .rw[←bh];change b∉frs X.stack;intro z;rcases y09.mp (A.stkSub b z)with y|y
   .exact(q b U).2.1 y
   .exact(q b U).2.2.1 y
  .rw[di]at e;show(q b U).2.2.2.2.1 x c<|b7 x c e
 let pn0:XB.pn=[]:=by rw[←bh];rfl
 let i2:∀s₃:ig,s₃={s2 with heap:=h₁,toks:=s2.toks+([]:List<|Str×Va).length}->
   iZ 26 X.A (.compLoop 115 0 035 (.ref s2.heap.objs.size) XB.env)
    (compPost 26 X.A X.xe use Rq (.ref s2.heap.objs.size) (078).objs.size) s₃:=by
  rintro s₃ rfl;apply zlr (λn s'=>∃i f Hb,Inv XB [] f Hb s'/\tn' i s'.heap/\(∀b∈fp,Hb b=B)/\W i n f Hb) ?_ m0 ⟨0,stB tn cp σ,_,J3,st3,λb U=>(f3 b U).1,w0⟩;rintro n s4 ⟨i,σ4,H4,I4,st4,fr4,w4⟩;rcases turn i n σ4 H4 w4 with⟨stop,qn⟩|⟨go,step⟩
  .let d:=T.done XB br hw hK k7 i [] s4 σ4 H4 (λ_ _=>False) I4 (fB [] H4 fr4 λb U p l=>by rw[pn0]at l;simp at l) st4 stop;rw[hA]at d;apply thn d λr s5 ⟨L,I5⟩=>?_;subst L;let(mm,hn5,_):=id I5.loc;let fr5:H4 (078).objs.size=B:=by
    let z:=I5.free;rw[di]at z;show z
   let J5:02 H4 s5:=by
    rw[←bh]at I5;show zu7 (h':=s5.heap) w f3 I5 ⟨R,λ_ _=>rfl⟩
   show fin _ _ H4 s5 mm J5 (w.fpOk 43 fr5) (by rw[di]at hn5;show hn5) qn
  .let d:=T.item XB br hw hK k7 i [] s4 σ4 H4 (λ_ _=>False) I4 (fB [] H4 fr4 λb U p l=>by rw[pn0]at l;simp at l) st4 go;rw[hA]at d;apply thn d λr s5 ⟨u,L,h5⟩=>?_;subst L;apply thn h5 λ_ s6 zz=>ex5 zz λx H6 I6 r6 zq=>?_;let(y6,st6,fr6):=zq;let I6':=I6.pinned (fB [] H6 fr6 λb U p l=>by rw[pn0]at l;simp at l)<|T.obj _ _ st6;let q6:=step x H6 y6;let a1:=hgB _ s6 σ4 H6 x u _ I6' r6 q6;rw[hxe,br,hw,hA]at a1;apply thn a1 λ_ s7 ⟨a,H7,I7,q7⟩=>?_;let a2:=hifB _ s7 a H7 _ I7 q7;rw[hxe,br,hw,hA]at a2;apply thn a2 λok s8 ⟨H8,I8,q8⟩=>?_;let again:∀{gz:St} {H9:Hp} {s9:ig},Inv XB ([]++pinsAt fp s6.heap) gz H9 s9->(∃m',m'<n/\W (i+1) m' gz H9)->∃m,m<n/\∃i f Hb,Inv XB [] f Hb s9/\tn' i s9.heap/\(∀b∈fp,Hb b=B)/\W i m f Hb:=λ{gz H9 s9} I9 n9=>by
    let(m',M,w9):=n9;apply⟨m',M,i+1,gz,H9,I9.unpinned,T.keep _ _ _ st6 λb U o e=>(I9.pin (b,o)<|y0p _ (y0p _<|zdt U e)).1,λb U=>?_,w9⟩;let(o,e,d):=T.obj _ _ st6 b U;show(I9.pin (b,o)<|y0p _ (y0p _<|zdt U e)).2.1
   cases ok with
   |false=>show again I8 q8
   |true =>
    change wpAny _ _ _ _ _ _;let a3:=heB _ s8 a H8 _ I8 q8;rw[hxe,br,hw,hA]at a3;apply thn a3 λyv s9 zz=>ex5 zz λy H9 I9 r9 zq=>?_;let(ys,hD,ag,n9):=zq;let a4:=zla (X:=XB) _ s9 a H9 (.ref s2.heap.objs.size) [y] (.ref s2.heap.objs.size) [yv] (λ_ H'=>∃m',m'<n/\W (i+1) m' a H') I9 R (.cons r9 .nil) ⟨_,ys,y,R,R,hD,ag,n9⟩;rw[hxe,br,hw,hA]at a4;show thn a4 λ_ i1 zz=>ex5 zz λ_ H10 I10 _ q10=>again I10 q10
 rw[di]at i2;apply codeAny_compStart_list (i2 _ R)<|T.self _ 0 _ _ _ st3 (i2 _ R)
theorem zay(tn:List Str)(cp:Y6)(O:CompOk X scope cp)(hc:X.calm=N)(hi:PI X tg iter c)
  (y:∀cl C s H fp,PG 073 tg g) (u:∀cl C s H fp,PIfs 073 ifs tif) (d:∀cl C s H fp,PE 073 elt te)
  (hs:∀x,jr iter X.env x=pure x:=by intro _;rfl) :
  PE X 115 (tComp tn cp c g tif te):=by
 intro pins s σ H Q I h;rw[eval_ListComp];apply zh6 tn cp O hc hi y u d hs I h λD C H5 s5 m r l Y q5=>⟨m,Y,λh' p=>⟨.ref D,H5,?_,R,q5⟩⟩;let(M,f1,q,a,A,l):=l;show r.turned (t':=s5.toks) (λb o U e=>(p.2 b U).trans e) M f1 a A l
theorem ziy{X:Cx}{i:Nat}{x:Str}{elt tg iter:Expr}{ifs:List Expr}{scope:Scope}{pos f T:Pos}{c:TI}{g:TG}{tif:TT}{te:TE}(hN:X.Nq.Nodup)(J:X.Nq[i]?=G x)(hl:Loc X.env.scope x)(tn:List Str)(cp:Y6)(O:CompOk X scope cp)(hc:X.calm=N)(hi:PI X tg iter c)
  (y:∀cl C s H fp,PG 073 tg g) (u:∀cl C s H fp,PIfs 073 ifs tif) (d:∀cl C s H fp,PE 073 elt te)
  (hsw:ju 115 (G<|.Name x f) T.line X.env=pure N:=by rfl) (hs:∀x,jr iter X.env x=pure x:=by intro _;rfl)
  (j:X.fn x=N\/X.env.scope.names.lookup x=G .local:=by first|show .inl rfl|show .inr rfl|assumption) :
  PS X (.Assign [.Name x f] 115 T) (tAsg (tComp tn cp c g tif te)<|gName i):=by
 intro pins s σ H D I h;rw[exec_Assign_Name_used _ _ _ _ hsw];apply ia<|jb (ia ?_);change wpAny _ X.A (do let _ ←comprehension (.ListComp elt [⟨tg,iter,ifs,0⟩] scope pos) scope X.env _ (newList []) Fa (eval iter X.env) (G<|assign (.Name x f) X.env)) _ _ s;apply ia<|ip (zh6 tn cp O hc hi y u d hs (Rq:=λ_ s'=>SP X pins D .next s') I h λE C H5 s5 m r l Y q5=>?_) (λ_ _ q=>ib<|ib q) λ_ _ e=>e;let(M,f1,f2,f3,A,l):=l;change wpAny _ X.A (assign (.Name x f) X.env<|.ref E) _ _ _;apply wpAny_assign_Name<|zj7 r hN J hl (v:=.ref E) R (λQ w ⟨a,L,ha⟩=>?_) j;let ne:C≠a:=by
  rcases ha with e|e
  .rw[e];show f1
  .exactλz=>A x a e z.symm
 apply⟨m,Y.sameBut L ne,λh' p=>⟨_,H5,w.turned (t':=Q.toks) (λb o U e=>(p.2 b U).trans e) M f1 f3 A l,q5⟩⟩
noncomputable def Its(z:Str):It:=⟨λi _=>i<z.cps.size,λi H x H'=>H'=H/\∃c,z.cps[i]?=G c/\x=.str ⟨#[c]⟩,λi _=>z.cps.size<=i⟩
theorem zny{P:ik}{w:World}{K:Frag}{C:Expr}(z:Str)(t:Tok)(it:Ad)(ty:String)(f:ty="str_ascii_iterator"\/ty="str_iterator"):
  Turn P w K C (Its z) [it] it (λi h=>h.IsStrIter it ty z t i) where
 mem:=by simp
 obj:=λi h st b U=>by
  let e:b=it:=by simpa using U
  subst e;let(o,e,c,d):=st;show⟨o,e,λv z=>by rw[d]at z;cases z⟩
 keep:=λi h h' st k=>by
  let(o,e,r):=st;show⟨o,k it 05 o e,r⟩
 item:=by
  intro X g O p hc i pins s σ H E I j st y;subst g O p;let(M,f1,q,D,T,l):=j it 05;let hi:i<z.cps.size:=y;let J:z.cps[i]?=G z.cps[i]:=by simp[hi]
  let a:(["enumerate","zip","dict_itemiterator","dict_reverseitemiterator","odict_iterator","itertools.zip_longest","itertools.pairwise"].contains ty)=Fa:=by
   rcases f with e|e<;>(rw[e];decide)
  let fin:∀h',h'.IsStrIter it ty z t (i+1)->Heap.SameBut it s.heap h'->∃u,G (Va.str ⟨#[z.cps[i]]⟩ s.toks)=G u/\
    wpAny 26 X.A (iX C 035 u) (λ_ s2=>∃x H',02 H' s2/\RelV x u/\(Its z).yld i H x H'/\s2.heap.IsStrIter it ty z t (i+1)/\∀b∈[it],H' b=B) E {s with heap:=h',toks:=s.toks+1}:=λh' Y L=>by
   let I1:02 H {s with heap:=h',toks:=s.toks+1}:=I.turned (t':=s.toks+1) (λb o U e=>(L.2 b U).trans e) M f1 D T l;let(o,e,c,d):=id Y;show⟨_,R,zxt (s:={s with heap:=h',toks:=s.toks+1}) e c d a ⟨.str ⟨#[z.cps[i]]⟩,H,I1,⟨_,R⟩,⟨R,_,J,R⟩,Y,λb U=>(j b U).1⟩⟩
  rcases f with e|e
  .subst e;show wpAny_pyNext_ascii_item st J fin
  .subst e;show wpAny_pyNext_wide_item st J fin
 done:=by
  intro X g O p hc i pins s σ H E I j st y;subst g O p;let(M,f1,q,D,T,l):=j it 05;let hi:z.cps.size<=i:=y;let J:z.cps[i]?=B:=by simp[hi]
  rcases f with e|e
  .subst e;show wpAny_pyNext_ascii_end 026 st J λh' eb=>⟨R,I.turned (t':=s.toks) (λb o U e=>eb b o U e) M f1 D T l⟩
  .subst e;show wpAny_pyNext_wide_end 026 st J λh' eb=>⟨R,I.turned (t':=s.toks) (λb o U e=>eb b o U e) M f1 D T l⟩
 self:=by
  intro A i s Q E st h;rcases f with e|e
  .subst e;show wpAny_pyIter_striter_ascii st h
  .subst e;show wpAny_pyIter_striter_wide st h
def iStr(tl:TE):TI:=λσ H Rq=>tl σ H λx H1=>∃z,x=.str z/\Rq (Its z) H1
theorem zyt{X:Cx}{r l:Expr}{tl:TE}(C:PE X l tl):PI X r l (iStr tl):=by
 intro pins s σ H Rq I h;apply thn (C pins s σ H _ I h) λv s1 zz=>ex5 zz λx H1 I1 r1 q1=>?_;let(z,e,q):=q1;subst e;let(t,rfl):=r1;let a:∀b∈[s1.heap.objs.size],FpOk X pins H1 b:=λb U=>by
  let e:b=s1.heap.objs.size:=by simpa using U
  subst e;show I1.fpOk 43<|I1.hok.fresh 43
 cases g:z.cps.all (· < 128)
 .exact wpAny_pyIter_wide g ⟨s1.heap.objs.size,[s1.heap.objs.size],_,_,H1,R,I1.kept (t':=s1.toks) λb o e=>y03 _ e,zny z t _ "str_iterator"<|.inr R,⟨_,y0h _ R,R,R⟩,a,q⟩
 .exact wpAny_pyIter_ascii g ⟨s1.heap.objs.size,[s1.heap.objs.size],_,_,H1,R,I1.kept (t':=s1.toks) λb o e=>y03 _ e,zny z t _ "str_ascii_iterator" 027,⟨_,y0h _ R,R,R⟩,a,q⟩
def rSlS:V->Option Int->Option Int->Hp->VK->Prop:=λx lo hi H Q=>∃z,x=.str z/\z.length<=ii/\Q (.str<|Txt.slice z lo hi) H
theorem sl_str:SlR X rSlS:=by
 intro pins s σ H x v M vu lo hi f Q I rx hs D Y h;let(z,rfl,hz,q):=h;let(t,rfl):=rx;apply⟨"str",_,F.slot_str_getitem.lookup,typeIs_str _ _ _,?_⟩;let go:∀(l u:Option<|Int×Tok),M=partValue l->vu=partValue u->lo=l.map (·.1)->hi=u.map (·.1)->wpAny 26 X.A (jH (.str z t)<|.ref f) 028 X.xe s:=by
  rintro l u rfl rfl rfl rfl;apply wpAny_getItem_str_slice (l:=l) (u:=u) (st:=B) ?_ R ?_
  .let(o,e,c,d):=hs;show⟨o,e,c,d⟩
  .exact post_val_or_str ⟨y0v (Txt.slice_le z _ _) hz,λt' k=>⟨.str _,H,I.tok _,⟨_,R⟩,q⟩⟩
 cases D with
 |none =>
  cases Y with
  |none=>show go B B R R R R
  |int j u=>show go B (G (j,u)) R R R R
 |int i t' =>
  cases Y with
  |none=>show go (G (i,t')) B R R R R
  |int j u=>show go (G (i,t')) (G (j,u)) R R R R
theorem znn:CallR X 080 (λxs H Q=>∃x T t b,xs=[x,.ty T]/\TyOf X.K H x t/\PySem.W.kitOne X.K t (.type T)=G b/\Q (.bl b) H):=by
 intro pins s σ H xs us Q I r h;let(x,T,t,b,rfl,ty,e,q):=h;let(u,w',rfl,rx,ry):=vals2 r;cases(show w'=Va.type T from ry);show ztr I rx ty e λf=>⟨.bl b,H,I.tok _,R,q⟩
section
open PyProof.Rows.LSm
theorem zyf:∀{us:List Va},Vals 067 us->BoolsAre us bs:=by
 induction bs with
 |nil=>intro us r;rw[y30]at r;cases r;show .nil
 |cons b bs A =>
  intro us r;rw[y0o]at r;cases r with
  |cons r1 T =>
   cases(show _=Va.bool b from r1);show .cons b<|A T
theorem zno(hc:X.calm=N):CallR X (.builtin "all") (λxs H Q=>∃(p:Ad) (bs:List Bool),xs=[.ref p]/\SqL X.K H p 067/\Q (.bl<|bs.all id) H):=by
 intro pins s σ H xs us Q I r h;let(p,bs,rfl,J,q):=h;let(u,rfl,rx):=vals1 r;cases(show u=Va.ref p from rx);let(vs,d,D,hz):=I.list J;let C:=D.isList;let U:=zyf d;let f:p<s.heap.objs.size:=by let(_,e,_):=C;show y0g e
 apply call_all_walk<|jg C ?_;apply⟨s.heap.objs.size,[s.heap.objs.size,p],[s.heap.objs.size],vs.toArray.size,_,_,λi=>(bs[i]?).getD N,R,Walks.list (A:=X.A.in1) 026 _ p (y0m f) vs.toArray,
  ⟨⟨_,y0h _ R,R,R⟩,C.push _⟩,λi v s' c E' g j=>?_,λh' a O=>?_⟩
 .let(b,e,rfl):=U.get i v (by simpa using g);simp only[e,y15]at j;show iC j
 .let e:((List.range vs.toArray.size).all λi=>(bs[i]?).getD N)=bs.all id:=by
   rw[y07,U.length];show range_all bs
  rw[e];show⟨.bl _,H,I.kept<|kept_iter O,R,q⟩
theorem zlx(hc:X.calm=N):CallR X (.builtin "sum") (λxs H Q=>∃(p:Ad) (ns:List Int),xs=[.ref p]/\SqL X.K H p 057/\Q (.int ns.sum) H):=by
 intro pins s σ H xs us Q I r h;let(p,ns,rfl,J,q):=h;let(u,rfl,rx):=vals1 r;cases(show u=Va.ref p from rx);let(vs,d,g,hz):=I.list J;let hi:=zfg d;let(ys,L):=hi.allInts.items;let w:s.heap.IsList p (intItems ys):=L▸g.isList;apply sum_intListG 026 w λh' f t' O=>?_;let M:ns=ys.toList.map (·.1):=by
  rw[←nums_intItems,←L];show(show numsOf vs.toArray.toList=ns from hi.numsOf).symm
 let D:preSum (numAt ys) ys.size=ns.sum:=by
  rw[preSum_eq,y0n 05,M]
 rw[D];show⟨.int _,H,I.kept O,⟨_,R⟩,q⟩
end
def rZfill:V->List V->Hp->VK->Prop:=λx vs H Q=>∃z i,x=.str z/\vs=[.int i]/\PadOk i=N/\Q (.str<|Txt.zfill z i) H
def EqOk(X:Cx)(k:Nat)(H:Hp)(x y:V)(b:Bool):Prop:=∀(pins:Y2) (σ:St) (s:ig) (A:io) (u v:Va),A.units+k<cLine->02 H s->RelV x u->RelV y v->SeqAt.EqAt A s u v b
def RcOk(X:Cx)(k:Nat)(H:Hp)(x y:V)(b:Bool):Prop:=∀(pins:Y2) (σ:St) (s:ig) (A:io) (u v:Va),A.units+k<cLine->02 H s->RelV x u->RelV y v->SeqAt.RcAt A s u v b
section
variable {X:Cx}{k:Nat}{H:Hp}{x y:V}{a b:Ad}{xs ys:List V}
theorem zln(c:flatV x=N)(d:flatV y=N):EqOk X k H x y (eqV x y):=λ_ _ _ _ _ _ _ _ rx ry=>zlo rx ry c d
theorem Vals.at(r:Vals xs us)(h:j<us.length):∃(h':j<xs.length),RelV xs[j] us[j]:=by
 let C:=r.length;let h':j<xs.length:=by omega
 let(u,e,q):=r.get (i:=j) (x:=xs[j]) (by simp[h']);rw[y00 h]at e;cases e;show⟨h',q⟩
theorem zht(J:SqL X.K H a xs)(L:SqL X.K H b ys)(C:xs.length=ys.length)(e:Nat->Bool)(d:∀j (Y:j<xs.length) (h2:j<ys.length),EqOk X k H xs[j] ys[j]<|e j):
  RcOk X (k+1) H 07 53 ((052).all e):=λpins σ s A u v U I rx ry=>by
 cases(show u=Va.ref a from rx);cases(show v=Va.ref b from ry);let(us,r1,r,_):=I.list J;let(vs,T,l,_):=I.list L;let l1:=r1.length;let l2:=T.length;let q:=SeqAt.RcAt.lists (A:=A) (e:=e) r.isList l.isList (by rw[y07,y07];omega) 01 λj Y h2=>by
  rw[y07]at Y h2;let(g1,q1):=r1.at Y;let(c,q2):=T.at h2;show d j g1 c pins σ s A.in1 _ _ (by change A.units+1+k<cLine;omega) I (by simpa using q1) (by simpa using q2)
 rw[y07,←l1]at q;show q
theorem zks(J:SqL X.K H a xs)(L:SqL X.K H b ys)(C:xs.length≠ys.length):RcOk X k H 07 53 Fa:=λpins σ s A u v U I rx ry=>by
 cases(show u=Va.ref a from rx);cases(show v=Va.ref b from ry);let(us,r1,r,_):=I.list J;let(vs,T,l,_):=I.list L;let l1:=r1.length;let l2:=T.length;show SeqAt.RcAt.lists_lengths r.isList l.isList (by rw[y07,y07];simp;omega) 01
theorem zpu(J:SqL X.K H a xs)(L:SqL X.K H b ys)(c:xs.all flatV=N)(d:ys.all flatV=N):
  RcOk X 1 H 07 53 (xs.length==ys.length&&(052).all λj=>eqV (xs.getD j .non)<|ys.getD j .non):=by
 by_cases C:xs.length=ys.length
 .let q:=zht (k:=0) J L C (λj=>eqV (xs.getD j .non)<|ys.getD j .non) λj Y h2=>by
   let M:xs.getD j .non=xs[j]:=by simp[List.getD,Y]
   let D:ys.getD j .non=ys[j]:=by simp[List.getD,h2]
   rw[M,D];show zln (y0s.mp c _<|y0b Y)<|y0s.mp d _ (y0b h2)
  rw[show(081)=N by simp[C],y1c];show q
 .rw[show(081)=Fa by simp[C],y1b];show zks J L C
end
def rEqD(X:Cx)(k:Nat):R2:=λx y H Q=>∃c,RcOk X k H x y c/\Q (.bl c) H
theorem zyx(U:X.A.units+k<cLine):OpR X (iw .Eq) (rEqD X k):=by
 infer_instance;let(c,r,q):=h;show r pins σ s X.A v u U I rx ry _ _ _ _ ⟨.bl c,H,I,R,q⟩
def CW(D:Ad)(n:Nat)(Pv:Nat->List V->St->Hp->Prop)(i m:Nat)(σ:St)(H:Hp):Prop:=m=n-i/\i<=n/\∃ys,H D=G 75/\ys.length<=i/\Pv i ys σ H
def CStep(D:Ad)(n i:Nat)(Pv:Nat->List V->St->Hp->Prop)(d:St)(y:V)(H4:Hp):Prop :=
 ∃ys,H4 D=G 75/\ys.length<ii/\∃o,o<n-i/\CW D n Pv (i+1) o d 089
def CSkip(D:Ad)(n i:Nat)(Pv:Nat->List V->St->Hp->Prop)(d:St)(H3:Hp):Prop:=∃o,o<n-i/\CW D n Pv (i+1) o d H3
section
variable {D:Ad}{Q:VK}{g:TG}{tif:TT}{te:TE}{σ0:St}{H1:Hp}{n i:Nat}{Pv:Nat->List V->St->Hp->Prop}
theorem cstep(E:n<=ii)(hi:i<n)(I:H4 D=G 75)(C:ys.length<=i)(h:Pv (i+1) (ys++[y]) d 089):CStep D n i Pv d y H4 :=
 ⟨ys,I,by omega,n-(i+1),by omega,R,hi,ys++[y],zat,by rw[y0j,y0u];omega,h⟩
theorem cskip(hi:i<n)(I:H3 D=G 75)(C:ys.length<=i)(h:Pv (i+1) ys d H3):CSkip D n i Pv d H3 :=
 ⟨n-(i+1),by omega,R,hi,ys,I,by omega,h⟩
theorem zng{J:It}(Pv:Nat->List V->St->Hp->Prop)(E:n<=ii)(h0:Pv 0 [] σ0 054)
  (q:∀i ys σ H,i<n->H D=G 75->Pv i ys σ H->J.go i H) (a:∀ys σ H,H D=G 75->Pv n ys σ H->J.stop n H)
  (hs:∀i ys σ H,i<n->H D=G 75->ys.length<=i->Pv i ys σ H->∀x H',J.yld i H x H'->g x σ H' λd H2=>tif d H2 λc H3 =>
   if c=N then te d H3 λy H4=>CStep D n i Pv d y H4 else CSkip D n i Pv d H3)
  (hd:∀ys σ H,H D=G 75->ys.length<=n->Pv n ys σ H->Q 71 H) :
  ∃W:Nat->Nat->St->Hp->Prop,(∃m,W 0 m σ0 054)/\∀i m j Hb,W i m j Hb->
   (J.stop i Hb/\Q 71 Hb)\/(J.go i Hb/\∀x H',J.yld i Hb x H'->g x j H' λd H2=>tif d H2 λc H3 =>
    if c=N then te d H3 λy H4=>∃ys,H4 D=G 75/\ys.length<ii/\∃o,o<m/\W (i+1) o d 089
    else∃o,o<m/\W (i+1) o d H3):=by
 apply⟨CW D n Pv,⟨n,by omega,y17 _,[],zat,y06 _,h0⟩,?_⟩;rintro i m σ H ⟨rfl,hi,ys,I,C,p⟩;by_cases f:i<n
 .exact .inr ⟨q i ys σ H f I p,hs i ys σ H f I C p⟩
 .let e:i=n:=by omega
  subst e;show .inl ⟨a ys σ H I p,hd ys σ H I C p⟩
theorem zx5(Pv:Nat->List V->St->Hp->Prop)(E:z.cps.size<=ii)(h0:Pv 0 [] σ0 054)
  (hs:∀i ys σ H c,i<z.cps.size->z.cps[i]?=G c->H D=G 75->ys.length<=i->Pv i ys σ H->g (.str ⟨#[c]⟩) σ H λd H2=>tif d H2 λc H3 =>
   if c=N then te d H3 λy H4=>CStep D z.cps.size i Pv d y H4 else CSkip D z.cps.size i Pv d H3)
  (hd:∀ys σ H,H D=G 75->ys.length<=z.cps.size->Pv z.cps.size ys σ H->Q 71 H) :
  ∃W:Nat->Nat->St->Hp->Prop,(∃m,W 0 m σ0 054)/\∀i m f Hb,W i m f Hb->
   ((Its z).stop i Hb/\Q 71 Hb)\/((Its z).go i Hb/\∀x H',(Its z).yld i Hb x H'->g x f H' λd H2=>tif d H2 λc H3 =>
    if c=N then te d H3 λy H4=>∃ys,H4 D=G 75/\ys.length<ii/\∃o,o<m/\W (i+1) o d 089
    else∃o,o<m/\W (i+1) o d H3) :=
 zng Pv E h0 (λi _ _ _ hi _ _=>hi) (λ_ _ _ _ _=>y06 _) (λi ys σ H hi I C p x H' y=>by
  let(e,c,hc,ex):=y;subst e ex;show hs i ys σ _ c hi hc I C p) hd
theorem zur{K:Frag}{a:Ad}{xs:List V}(Pv:Nat->List V->St->Hp->Prop)(E:xs.length<=ii)(h0:Pv 0 [] σ0 054)
  (C:∀i ys σ H,i<=xs.length->H D=G 75->Pv i ys σ H->SqL K H a xs)
  (hs:∀i ys σ H x,i<xs.length->xs[i]?=G x->H D=G 75->ys.length<=i->Pv i ys σ H->g x σ H λd H2=>tif d H2 λc H3 =>
   if c=N then te d H3 λy H4=>CStep D xs.length i Pv d y H4 else CSkip D xs.length i Pv d H3)
  (hd:∀ys σ H,H D=G 75->ys.length<=xs.length->Pv xs.length ys σ H->Q 71 H) :
  ∃W:Nat->Nat->St->Hp->Prop,(∃m,W 0 m σ0 054)/\∀i m f Hb,W i m f Hb->
   ((Itl K a).stop i Hb/\Q 71 Hb)\/((Itl K a).go i Hb/\∀x H',(Itl K a).yld i Hb x H'->g x f H' λd H2=>tif d H2 λc H3 =>
    if c=N then te d H3 λy H4=>∃ys,H4 D=G 75/\ys.length<ii/\∃o,o<m/\W (i+1) o d 089
    else∃o,o<m/\W (i+1) o d H3) :=
 zng Pv E h0 (λi ys σ H hi I p=>⟨xs,xs[i],C i ys σ H (y1i hi) I p,by simp[hi]⟩) (λys σ H I p=>⟨xs,C _ ys σ H 43 I p,y06 _⟩) (λi ys σ H hi I w p x H' y=>by
  let(e,y):=y;subst e;show hs i ys σ _ x hi (y xs<|C i ys σ _ (y1i hi) I p) I w p) hd
end
section
variable {κ:Type}[DecidableEq κ]
noncomputable def valV(kvs:List<|κ×V)(k:κ):Option V:=(kvs.find? λC=>decide (C.1=k)).map (·.2)
noncomputable def putK(kvs:List<|κ×V)(k:κ)(v:V):List (κ×V) :=
 if(kvs.any λC=>decide (C.1=k))=N then kvs.map (λC=>if C.1=k then(C.1,v)else C)else kvs++[(k,v)]
theorem znw:valV ([]:List<|κ×V) k=B:=rfl
theorem zbh{p:κ×V}(e:p.1=k):valV (p::r) k=G p.2:=by simp[valV,y28,e]
theorem zbi{p:κ×V}(e:¬p.1=k):valV (p::r) k=valV r k:=by simp[valV,y28,e]
theorem zeh(k:κ):∀kvs:List<|κ×V,(kvs.any λC=>decide (C.1=k))=(valV kvs k).isSome
 |[]=>rfl
 |p::r=>by
  rw[y2w];by_cases e:p.1=k
  .simp only[zbh e,Xg e,Bool.true_or,Option.isSome_some]
  .rw[zbi e,Xf e,y3w];show zeh k r
theorem znx(k j:κ)(y:V):∀kvs:List<|κ×V,valV (kvs.map λC=>if C.1=k then(C.1,y)else C) j=(valV kvs j).map λx=>if j=k then y else x
 |[]=>rfl
 |p::r=>by
  let A:=znx k j y r;rw[y0o];by_cases h:p.1=k
  .rw[Xq h];by_cases e:p.1=j
   .rw[zbh (p:=(p.1,y)) e,zbh e,y1x,Xq<|e.symm.trans h]
   .rw[zbi (p:=(p.1,y)) e,zbi e,A]
  .rw[Xp h];by_cases e:p.1=j
   .rw[zbh (p:=p) e,zbh e,y1x,Xp λz=>h<|e.trans z]
   .rw[zbi (p:=p) e,zbi e,A]
theorem zj3(k j:κ)(y:V):∀kvs:List<|κ×V,valV kvs k=B->valV (kvs++[(k,y)]) j=if j=k then G y else valV kvs j
 |[],_=>by
  by_cases e:k=j
  .rw[Xq e.symm];show zbh (p:=(k,y)) e
  .rw[Xp λz=>e z.symm];show zbi (p:=(k,y)) e
 |p::r,E=>by
  rw[y1r];let O:¬p.1=k:=λz=>by rw[zbh z]at E;cases E
  rw[zbi O]at E;let A:=zj3 k j y r E;by_cases e:p.1=j
  .rw[zbh e,zbh e,Xp λz=>O<|e.trans z]
  .rw[zbi e,zbi e,A]
theorem zeg(kvs:List<|κ×V)(k j:κ)(y:V):valV (putK kvs k y) j=if j=k then G y else valV kvs j:=by
 unfold putK;by_cases a:(kvs.any λC=>decide (C.1=k))=N
 .rw[Xq a,znx];rw[zeh]at a;by_cases e:j=k
  .let(x,J):=y31.mp a;rw[Xq e,e,J,y1x,Xq rfl]
  .rw[Xp e];cases valV kvs j with
   |none=>rfl
   |some x=>rw[y1x,Xp e]
 .rw[Xp a];apply zj3 k j y kvs ?_;rw[zeh]at a;cases q:valV kvs k with
  |none=>rfl
  |some x=>rw[q]at a;show(a R).elim
theorem zec(kvs:List<|κ×V)(k:κ)(v:V):(putK kvs k v).length<=kvs.length+1:=by
 unfold putK;split
 .rw[y01];omega
 .rw[y0j,y0i,y1k];omega
theorem ziw{kvs:List (κ×V)}{k:κ}(v:V)(h:valV kvs k=B):putK kvs k v=kvs++[(k,v)]:=by
 unfold putK;rw[zeh,h];show Xp 06
theorem RelO.isSome_eq(r:RelO o u):o.isSome=u.isSome:=by
 cases o with
 |none=>cases u with
  |none=>rfl
  |some _=>show(show False from r).elim
 |some _=>cases u with
  |none=>show(show False from r).elim
  |some _=>rfl
theorem KV.val(r:KV kvs vs)(k:κ):RelO (valV kvs k) (jV vs k):=by
 unfold KV at r
 induction r with
 |nil=>show True.intro
 |@cons p q ps qs h t A =>
  let(Y,h2):=h;by_cases e:p.1=k
  .let l:q.1=k:=Y.symm.trans e;let b:jV (q::qs) k=G q.2:=by simp[jV,y28,l]
   rw[zbh e,b];show h2
  .let l:¬q.1=k:=λz=>e<|Y.trans z;let b:jV (q::qs) k=jV qs k:=by simp[jV,y28,l]
   rw[zbi e,b];show A
theorem KV.any(r:KV kvs vs)(k:κ):(kvs.any λC=>decide (C.1=k))=vs.any λC=>decide (C.1=k):=by
 unfold KV at r
 induction r with
 |nil=>rfl
 |cons h t A=>rw[y2w,y2w,A,h.1]
theorem KV.repl(r:KV kvs vs)(k:κ)(ry:RelV y u):
  KV (kvs.map λC=>if C.1=k then(C.1,y)else C) (vs.map λC=>if C.1=k then(C.1,u)else C):=by
 unfold KV at r ⊢
 induction r with
 |nil=>show .nil
 |@cons p q ps qs h t A =>
  rw[y0o,y0o];apply .cons ?_ A;let(Y,h2):=h;by_cases e:p.1=k
  .rw[Xq e,Xq<|Y.symm.trans e];show⟨Y,ry⟩
  .rw[Xp e,Xp λz=>e<|Y.trans z];show⟨Y,h2⟩
theorem KV.put(r:KV kvs vs)(k:κ)(ry:RelV y u):KV (putK kvs k y) (stored vs k u):=by
 unfold putK stored;rw[r.any k];by_cases e:(vs.any λC=>decide (C.1=k))=N
 .rw[Xq e,Xq e];show r.repl k ry
 .rw[Xp e,Xp e];show Paired.snoc r ⟨R,ry⟩
theorem KV.length{kvs:List (κ×V)}{vs:List (κ×Va)}(r:KV kvs vs):kvs.length=vs.length:=Paired.length r
end
theorem zto(r:RelV (kV k) u):(025).is k u=N:=by
 cases k with
 |inl i=>let(t,e):=(show∃t,u=Va.int i t from r);subst e;show zm6 P w i t
 |inr x=>let(t,e):=(show∃t,u=Va.str x t from r);subst e;show zm5 P w x t
theorem kV_inj(e:kV a=kV b):a=b:=by
 cases a with
 |inl i=>cases b with
  |inl j=>have l:V.int i=V.int j:=e;injection l with l;rw[l]
  |inr y=>show nomatch(show V.int i=V.str y from e)
 |inr x=>cases b with
  |inl j=>show nomatch(show V.str x=V.int j from e)
  |inr y=>have l:V.str x=V.str y:=e;injection l with l;rw[l]
theorem zli:∀{ks:List Key} {us:List Va},Vals (ks.map kV) us->ItemsAre 025 ks us
 |[],_,r=>by rw[y30]at r;cases r;show .nil
 |k::ks,_,r=>by
  rw[y0o]at r;cases r with
  |cons h t=>show .cons (zto h)<|zli t
abbrev KT(H:Hp):List (List Key×V)->List (List Key×Ad×Va)->Prop:=i9 λp q=>p.1=q.1/\H q.2.1=G (.tup<|p.1.map kV)/\RelV p.2 q.2.2
theorem KT.val(r:KT H kvs xs)(k:List Key):RelO (valV kvs k) ((atKey xs k).map (·.2)):=by
 induction r with
 |nil=>show True.intro
 |@cons p q ps qs h t A =>
  let(Y,_,h2):=h;by_cases e:p.1=k
  .let l:q.1=k:=Y.symm.trans e;let b:atKey (q::qs) k=G q.2:=by simp[atKey,y28,l]
   rw[zbh e,b];show h2
  .let l:¬q.1=k:=λz=>e<|Y.trans z;let b:atKey (q::qs) k=atKey qs k:=by simp[atKey,y28,l]
   rw[zbi e,b];show A
theorem KT.repl(r:KT H kvs xs)(k:List Key)(ry:RelV y u):
  KT H (kvs.map λC=>if C.1=k then(C.1,y)else C) (xs.map<|putAt k u):=by
 induction r with
 |nil=>show .nil
 |@cons p q ps qs h t A =>
  rw[y0o,y0o];apply .cons ?_ A;let(Y,h2,h3):=h;unfold putAt;by_cases e:p.1=k
  .rw[Xq e,Xq<|Y.symm.trans e];show⟨Y,h2,ry⟩
  .rw[Xp e,Xp λz=>e<|Y.trans z];show⟨Y,h2,h3⟩
theorem KT.put(r:KT H kvs xs)(k:List Key)(U:H b=G (.tup<|k.map kV))(ry:RelV y u):
  KT H (putK kvs k y) (storedH xs k b u):=by
 let e:(kvs.any λC=>decide (C.1=k))=(atKey xs k).isSome:=by
  rw[zeh,(r.val k).isSome_eq,Option.isSome_map]
 unfold putK storedH;rw[e];by_cases q:(atKey xs k).isSome=N
 .rw[Xq q,Xq q];show r.repl k ry
 .rw[Xp q,Xp q];show Paired.snoc r ⟨R,U,ry⟩
theorem KT.keeps(r:KT H kvs xs)(j:∀b ys,H b=G (.tup ys)->H' b=G (.tup ys)):KT H' kvs xs :=
 Paired.mapP r λ_ _ z=>⟨z.1,j _ _ z.2.1,z.2.2⟩
section
variable {P:ik}{w:World}{H:Hp}{h:Heap}{a:Ad}
theorem rd_of(ok:HOk P w H h)(e:Rd H a u):ObjOk P w H h a u:=e.ok ok
theorem zug(ok:HOk P w H h)(e:Rd H a 020):kvs.length<=ii/\(a==iE)=Fa/\∃vs,KV kvs vs/\h.DictOf 025 a vs :=
 show ObjOk P w H h a (020)from rd_of ok e
theorem dk_of(ok:HOk P w H h)(e:H a=G 020):kvs.length<=ii/\(a==iE)=Fa/\∃vs,KV kvs vs/\h.DictOf 025 a vs:=zug ok<|.inl e
theorem zlh(ok:HOk P w H h)(e:H a=G (.tup<|ks.map kV)):(jK 025).is h ks a:=by
 let(_,its,r,o,Y,h2,n,h3):=(show ObjOk P w H h a (.tup<|ks.map kV)from ok a _ e);show⟨o,its.toArray,n,Y,h2,h3,by simpa using zli r⟩
theorem zx2(ok:HOk P w H h)(e:Rd H a<|.dT kvs):kvs.length<=ii/\(a==iE)=Fa/\
  ∃xs,KT H kvs xs/\h.DictOfH (jK 025) a xs:=by
 let(z,y,xs,r,o,i,O,Y,h2,h3,L,h5):=(show ObjOk P w H h a (.dT kvs)from rd_of ok e);apply⟨z,y,xs,r,o,i,O,Y,h2,h3,L,λx J=>?_,h5⟩;let all:∀{l:List (List Key×V)} {m:List (List Key×Ad×Va)},KT H l m->∀x∈m,(jK 025).is h x.1 x.2.1:=by
  intro l m q
  induction q with
  |nil=>intro x J;show nomatch J
  |@cons p q ps qs T t A =>
   intro x J;rcases y09.mp J with e|J
   .subst e;show zlh ok (by rw[←T.1];show T.2.1)
   .exact A x J
 show all r x J
theorem dt_of(ok:HOk P w H h)(e:H a=G (.dT kvs)):kvs.length<=ii/\(a==iE)=Fa/\
  ∃xs,KT H kvs xs/\h.DictOfH (jK 025) a xs:=zx2 ok<|.inl e
end
def KeyV(k:Key)(y:V):Prop:=y=kV k\/∃b,y=.bl b/\k=.inl (blI b)
theorem KeyV.is(h:KeyV k y)(r:RelV y u):(025).is k u=N:=by
 rcases h with rfl|⟨b,rfl,rfl⟩
 .exact zto r
 .cases(show u=Va.bool b from r);show zxm b
def DGet(H:Hp)(a:Ad)(y:V)(r:Option V):Prop :=
 (∃kvs k,Rd H a 020/\KeyV k y/\r=valV kvs k)\/∃kvs k b,Rd H a (.dT kvs)/\y=.ref b/\H b=G (.tup<|k.map kV)/\r=valV kvs k
def DPut(H:Hp)(a:Ad)(y v:V)(H':Hp):Prop :=
 (∃kvs k,H a=G 020/\KeyV k y/\kvs.length<ii/\H'=upd H a (.dK<|putK kvs k v))\/
 ∃kvs k b,H a=G (.dT kvs)/\y=.ref b/\H b=G (.tup<|k.map kV)/\kvs.length<ii/\H'=upd H a (.dT<|putK kvs k v)
theorem DGet.k{H:Hp}{a:Ad}{kvs:List (Key×V)}{k:Key}(e:H a=G 020):DGet H a (kV k) (valV kvs k):=.inl ⟨kvs,k,.inl e,.inl R,R⟩
theorem DGet.t{k:List Key}(e:H a=G (.dT kvs))(u:H b=G (.tup<|k.map kV)):DGet H a 53 (valV kvs k):=.inr ⟨kvs,k,b,.inl e,R,u,R⟩
theorem DPut.k{H:Hp}{a:Ad}{kvs:List (Key×V)}{k:Key}{v:V}(e:H a=G 020)(C:kvs.length<ii):DPut H a (kV k) v (upd H a<|.dK (putK kvs k v)):=.inl ⟨kvs,k,e,.inl R,C,R⟩
theorem DPut.t{kvs:List (List Key×V)}{k:List Key}(e:H a=G (.dT kvs))(u:H b=G (.tup<|k.map kV))(C:kvs.length<ii):
  DPut H a 53 v (upd H a<|.dT (putK kvs k v)):=.inr ⟨kvs,k,b,e,R,u,C,R⟩
section
variable {X:Cx}{pins:Y2}{σ:St}{H:Hp}{s:ig}{a:Ad}{y v:V}{u r:Va}{o:Option V}{A:io}{E:Y0}
theorem Inv.big(I:02 H s):iE<s.heap.objs.size:=by
 let h:ir<s.heap.objs.size:=(I.mod.glob.keeps I.bk).lt;show y22 06 h
theorem zum(U:A.units+1<cLine)(I:02 H s)(g:DGet H a y 018)(ry:RelV y u)(h:∀w' s',02 H s'->RelV v w'->Q w' s'):
  wpAny 26 A (jH 07 u) Q E s:=by
 rcases g with⟨kvs,k,e,M,l⟩|⟨kvs,k,b,e,M,j,l⟩
 .let(z,hd,vs,rel,dd):=zug I.hok e;let(w',O,c):=RelO.some_of (v:=v) (o:=jV vs k) (by rw[l];show rel.val k);show wpAny_getItem_of (M.is ry) dd.mapOf O<|h w' _ (I.tok _) c
 .subst M;cases(show u=Va.ref b from ry);let(z,hd,xs,rel,dd):=zx2 I.hok e;let(w',O,c):=RelO.some_of (v:=v) (o:=(atKey xs k).map (·.2)) (by rw[l];show rel.val k);let(p,f,d):=y10.mp O;apply wpAny_getItem_heap (jC U) (zlh I.hok j) dd f ?_;rw[d];show h w' _ (I.tok _) c
theorem Qc8(U:A.units+1<cLine)(I:02 H s)(g:DGet H a y o)(ry:RelV y u)(h:∀s',02 H s'->Q (.bool<|!o.isSome) s'):
  wpAny 26 A (iw .NotIn u 07) Q E s:=by
 rcases g with⟨kvs,k,e,M,l⟩|⟨kvs,k,b,e,M,j,l⟩
 .let(z,hd,vs,rel,dd):=zug I.hok e;apply wpAny_notIn_of (M.is ry) hd dd.mapOf ?_;rw[←(rel.val k).isSome_eq,←l];show h _<|I.tok _
 .subst M;cases(show u=Va.ref b from ry);let(z,hd,xs,rel,dd):=zx2 I.hok e;apply wpAny_notIn_heap (jC U) (zlh I.hok j) hd dd ?_;let q:=(rel.val k).isSome_eq;rw[Option.isSome_map]at q;rw[←q,←l];show h _<|I.tok _
theorem zjg(I:02 H s)(j:Mut<|H a)(hs:Heap.SameBut a s.heap h')(d:∃q,h'.get? a=G q)(new:ObjOk X.prog X.w (upd H a ob) h' a ob):
  02 (upd H a ob) {s with heap:=h',toks:=t'} :=
 I.write (x:=a) (e:=a) j 027 (λb q U z=>(hs.2 b U).trans z) d new
theorem zuh(z:kvs.length<=ii)(hd:(a==iE)=Fa)(rel:KV kvs vs)(dd:h'.DictOf 025 a vs):
  ObjOk P w H' h' a 020:=⟨z,hd,vs,rel,dd⟩
theorem zul(U:A.units+1<cLine)(I:02 H s)(g:DPut H a y v H')(ry:RelV y u)(Y:RelV v r)(h:∀s',02 H' s'->Q () s'):
  wpAny 26 A (setItem 07 u r) Q E s:=by
 rcases g with⟨kvs,k,e,M,l,f⟩|⟨kvs,k,b,e,M,j,l,f⟩
 .subst f;let(z,hd,vs,rel,dd):=dk_of I.hok e;let hz:vs.length<=ii:=by rw[←rel.length];show z
  let C:(putK kvs k v).length<=ii:=by have:=zec kvs k v;omega
  apply wpAny_setItem_pairs (hsz:=hz) (M.is ry) dd λh' D hs=>h _ ?_;let d:∃q,h'.get? a=G q:=let⟨q,_,_,T,_⟩:=D;⟨q,T⟩;show zjg I (by rw[e];show True.intro) hs d<|zuh C hd (rel.put k Y) D
 .subst M f;cases(show u=Va.ref b from ry);let(z,hd,xs,rel,dd):=dt_of I.hok e;let hz:xs.length<=ii:=by rw[←Paired.length rel];show z
  let C:(putK kvs k v).length<=ii:=by have:=zec kvs k v;omega
  apply wpAny_setItem_heap (hsz:=hz) (jC U) (zlh I.hok j) dd λh' D hs=>h _ ?_;let(q,i,O,T,h2,h3,p,_,h5):=D;apply zjg I (by rw[e];show True.intro) hs ⟨q,T⟩ ⟨C,hd,_,(rel.put k j Y).keeps λc ys w=>?_,q,i,O,T,h2,h3,p,h5⟩;rw[zaj<|zm4 w e (λz=>nomatch z)];show w
end
section
variable {X:Cx}{pins:Y2}{σ:St}{H:Hp}{s:ig}{a:Ad}{kvs:List (Key×V)}{k:Key}{u:Va}{A:io}{E:Y0}
theorem Qdj(I:02 H s)(e:Rd H a 020)(h:∀t s',02 H s'->Q (.int kvs.length t) s'):wpAny 26 A (call 076 [.ref a]) Q E s:=by
 let(z,hd,vs,rel,dd):=zug I.hok e;apply call_len_dict hd dd (by rw[←rel.length];rw[jc]at z;omega) ?_;rw[←rel.length];show h _ _<|I.tok _
end
def NoSl(i:Expr):Prop:=∀a j,jP i Fa a j=operate [a,j] (jH a j)
theorem subD_of{prog:ik}{w:World}{A:io}{E:Y0}{s:ig}{env:Env}{g l:Expr}{pos:Pos}{T id:String}{Q:Y0}
  (C:jo (.type T) "__getitem__"=pure (G 060)) (hs:NoSl l)
  (h:wpAny 73 A (eval g env) (λo s₁=>wpAny 73 A (eval l env) (λi s₂=>s₂.TypeIs o T/\wpAny 73 A (jH o i) Q E s₂) E s₁) E s) :
  wpAny 73 A (eval (.Subscript g l pos) env) Q E s:=by
 apply Subscript_<|ip h (λo s₁ h₁=>ip h₁ (λi s₂ j=>?_) λ_ _ x=>x) λ_ _ x=>x;let(v,j):=j;unfold subscriptTail;apply ia ?_;rw[getitemInPython_of_ne v.not_modules];apply ia<|iT v C ?_;let fin:wpAny 73 A (jP l Fa o i) (λr s₃=>wpAny 73 A (letTemporaryGo g o r>>=λ_=>pure r) Q E s₃) E s₂:=by
  rw[hs o i];show wpAny_operating<|ip j (λr s₃ e=>ia<|wpAny_letTemporaryGo (ib e)) λ_ _ x=>x
 first
  |show ib (ia fin)
  |show ia (ib<|ia fin)
  |show ia fin
theorem zne{X:Cx}{pins:Y2}{σ:St}{H:Hp}{s:ig}{a:Ad}{y:V}{o:Option V}(I:02 H s)(g:DGet H a y o):s.TypeIs 07 "dict":=by
 rcases g with⟨kvs,k,e,_,_⟩|⟨kvs,k,b,e,_,_,_⟩
 .let(_,_,vs,_,dd):=zug I.hok e;show dd.typeIs
 .let(_,_,xs,_,dd):=zx2 I.hok e;show dd.typeIs
def tDGet(d ty:TE):TE:=λσ H Q=>d σ H λx H1=>ty σ H1 λy H2=>∃a v,x=.ref a/\DGet H2 a y 018/\Q v H2
def sDPut(d ty c:TE):TS:=λD σ H=>c σ H λv H1=>d σ H1 λx H2=>ty σ H2 λy H3=>∃a H4,x=.ref a/\DPut H3 a y v H4/\D.nx σ H4
section
variable {X:Cx}{o i e value:Expr}{pos pos' tpos:Pos}{td ty tv:TE}
theorem pe_dget(U:X.A.units+1<cLine)(Y:PE X o td)(hi:PE X i ty)(hs:NoSl i):PE X (.Subscript o i pos) (tDGet td ty):=by
 intro pins s σ H Q I h;apply subD_of PySem.F.slot_dict_getitem.lookup hs<|thn (Y pins s σ H _ I h) λu s1 zz=>ex5 zz λx H1 I1 rx q1=>thn (hi pins s1 σ H1 _ I1 q1) λj s2 zz=>ex5 zz λy H2 A ry zq=>?_;let(a,v,ex,g,q2):=zq;subst ex;obtain rfl:u=Va.ref a:=rx;show⟨zne A g,zum U A g ry λw' p w c=>⟨v,H2,w,c,q2⟩⟩
theorem ps_dput(U:X.A.units+1<cLine)(Y:PE X o td)(hi:PE X i ty)(hv:PE X value tv)(hs:ju value (G<|.Subscript o i pos') pos.line X.env=pure Fa):
  PS X (.Assign [.Subscript o i pos'] value pos) (sDPut td ty tv):=by
 intro pins s σ H D I h;apply wpAny_Assign_Subscript (thn (hv pins s σ H _ I h) λr s1 zz=>ex5 zz λv H1 I1 d q1=>thn (Y pins s1 σ H1 _ I1 q1) λu s2 zz=>ex5 zz λx H2 A rx q2=>thn (hi pins s2 σ H2 _ A q2) λj p ⟨y,H3,w,ry,a,H4,ex,g,q3⟩=>?_) hs;subst ex;obtain rfl:u=Va.ref a:=rx;show zul U w g ry d λf E=>⟨σ,H4,E,q3⟩
end
theorem zo9(h:Heap)(U:iE<h.objs.size):ObjOk P w H (h.push {cls:=.type "dict",data:=.dict #[]}) h.objs.size (.dK []) :=
 ⟨y17 _,beq_eq_false_iff_ne.mpr<|Ne.symm (y0m U),[],.nil,Heap.DictOf.new h⟩
theorem zo8(h:Heap)(U:iE<h.objs.size):ObjOk P w H (h.push {cls:=.type "dict",data:=.dict #[]}) h.objs.size (.dT []) :=
 ⟨y17 _,beq_eq_false_iff_ne.mpr<|Ne.symm (y0m U),[],.nil,_,#[],0,y0h _ R,⟨R,R,R⟩,R,R,y3f⟩
def tDNewK:TE:=λ_ H Q=>∀p,H p=B->Q 42 (upd H p<|.dK [])
def tDNewT:TE:=λ_ H Q=>∀p,H p=B->Q 42 (upd H p<|.dT [])
section
variable {X:Cx}{pos:Pos}
theorem zwb:PE X (.Dict [] [] pos) tDNewK:=λpins s σ H Q I h =>
 wpAny_Dict_empty ⟨.ref s.heap.objs.size,_,I.laid (a:=s.heap.objs.size) (o:=.dK []) (t':=s.toks) (λ_ _ q=>y03 _ q) 43<|zo9 s.heap I.big,R,h _ 083⟩
theorem zv9:PE X (.Dict [] [] pos) tDNewT:=λpins s σ H Q I h =>
 wpAny_Dict_empty ⟨.ref s.heap.objs.size,_,I.laid (a:=s.heap.objs.size) (o:=.dT []) (t':=s.toks) (λ_ _ q=>y03 _ q) 43<|zo8 s.heap I.big,R,h _ 083⟩
end
def tPairs:List (TE×TE)->St->Hp->(List (V×V)->Hp->Prop)->Prop
 |[],_,H,Q=>Q [] H
 |(f,c)::r,σ,H,Q=>f σ H λx H1=>c σ H1 λy H2=>tPairs r σ H2 λps H3=>Q ((x,y)::ps) H3
abbrev VV:List (V×V)->List (Va×Va)->Prop:=i9 λp q=>RelV p.1 q.1/\RelV p.2 q.2
def PPs(X:Cx)(pos:Pos)(g:List<|Option Expr)(f:List Expr)(i:List<|TE×TE):Prop :=
 ∀(pins:Y2) (s:ig) (σ:St) (H:Hp) (Q:List (V×V)->Hp->Prop),02 H s->tPairs i σ H Q->
  wpAny 26 X.A (evalPairs<|pairTrees g f X.env pos) (λvs s'=>∃ps H',02 H' s'/\VV ps vs/\Q ps H') X.xe s
theorem pps_nil:PPs X pos [] [] []:=λpins s σ H Q I h=>pairTrees_nil_walk ⟨[],H,I,.nil,h⟩
theorem zv6{f c:TE}(O:PE X k f)(hv:PE X v c)(L:PPs X pos ks vs i):
  PPs X pos (G k::ks) (v::vs) ((f,c)::i):=λpins s σ H Q I h =>
 pairTrees_cons_walk (thn (O pins s σ H _ I h) λu s1 zz=>ex5 zz λx H1 I1 rx q1=>thn (hv pins s1 σ H1 _ I1 q1) λd s2 zz=>ex5 zz λy H2 A ry q2 =>
  thn (L pins s2 σ H2 _ A q2) λj p zz=>ex5 zz λps H3 w rel q3=>⟨(x,y)::ps,H3,w,.cons ⟨rx,ry⟩ rel,q3⟩)
def mergeK(kvs g:List<|Key×V):List (Key×V):=g.foldl (λacc C=>putK acc C.1 C.2) kvs
theorem KV.merge:∀{g:List (Key×V)} {rs:List (Key×Va)} {kvs:List (Key×V)} {vs:List (Key×Va)},KV g rs->KV kvs vs->KV (mergeK kvs g) (merged vs rs):=by
 intro g rs kvs vs r;unfold KV at r
 induction r generalizing kvs vs with
 |nil=>intro q;show q
 |@cons p q ps qs h t A =>
  intro r0;let e:KV (putK kvs p.1 p.2) (stored vs q.1 q.2):=by
   let:=r0.put p.1 h.2;rw[←h.1];show this
  show A e
theorem zc2:∀(g kvs:List<|Key×V),(mergeK kvs g).length<=kvs.length+g.length
 |[],kvs=>by change kvs.length<=kvs.length+0;omega
 |p::r,kvs=>by
  let Y:=zc2 r<|putK kvs p.1 p.2;let h2:=zec kvs p.1 p.2;change(mergeK (putK kvs p.1 p.2) r).length<=_;rw[y0i];omega
theorem zic:∀{kvs:List (Key×V)} {j:List (Va×Va)},VV (kvs.map λC=>(kV C.1,C.2)) j->∃rs,Carries 025 j rs/\KV kvs rs
 |[],_,r=>by rw[y30]at r;cases r;show⟨[],True.intro,.nil⟩
 |p::kvs,_,r=>by
  rw[y0o]at r;cases r with
  |@cons a b x bs h t =>
   let(rs,c,q):=zic (P:=P) (w:=w) t;let(v,Q):=b;show⟨(p.1,Q)::rs,⟨zto h.1,R,c⟩,.cons ⟨R,h.2⟩ q⟩
def tDisp(i:List<|TE×TE):TE:=λσ H Q=>∀p,H p=B->tPairs i σ (upd H p<|.dK []) λps H2=>H2 p=G (.dK [])/\∃kvs:List<|Key×V,ps=kvs.map (λC=>(kV C.1,C.2))/\kvs.length<=15/\Q 42 (upd H2 p<|.dK (mergeK [] kvs))
theorem pe_disp(h:PPs X pos g f i)(U:g.all (·.isSome)=N)(C:g.length=f.length)(h0:g≠[])
  (r:g.length<=15):PE X (.Dict g f pos) (tDisp i):=by
 intro pins s σ H Q I q;let E:=I.hok.fresh<|y06 s.heap.objs.size;let I1:=I.laid (a:=s.heap.objs.size) (o:=.dK []) (h':=s.heap.push {cls:=.type "dict",data:=.dict #[]}) (t':=s.toks) (λ_ _ q=>y03 _ q) 43<|zo9 s.heap I.big;apply wpAny_Dict_walk (knd:=mixKind X.prog X.w) U C h0 r<|thn (h pins _ σ _ _ I1<|q _ E) λj s2 zz=>ex5 zz λps H2 A rel zq=>?_;let(e,kvs,l,lk,q2):=zq;subst l;let(rs,c,u):=zic (P:=X.prog) (w:=X.w) rel;let(z,hd,p,r0,dd):=dk_of A.hok e;cases r0;apply⟨rs,c,dd,λh' D hs=>⟨.ref s.heap.objs.size,_,?_,R,q2⟩⟩;let hz:(mergeK [] kvs).length<=ii:=by
  let Y:=zc2 kvs [];rw[y1k]at Y;rw[jc];omega
 let d:∃q,h'.get? s.heap.objs.size=G q:=let⟨q,_,_,T,_⟩:=D;⟨q,T⟩;show zjg A (by rw[e];show True.intro) hs d<|zuh hz hd (u.merge .nil) D
structure M1(X:Cx)(o:Expr)(m:Str)(apos:Pos)(e:Expr)(cpos:Pos):Prop where
 base:attributeBase o m X.env (eval o X.env)=eval o X.env
 few:((iN cpos<|im [e] X.env).all (λx=>!x.1)&&(173).all (λx=>x.1.isSome)
  && decide (([e]:List Expr).length+([]:List jN).length+(if([]:List jN).isEmpty then 0 else 1)<30))=N
 line:107=N
 trees:iN cpos (im [e] X.env)=[044]
def IsD(H:Hp)(a:Ad):Prop:=(∃kvs,Rd H a 020)\/∃kvs,Rd H a<|.dT kvs
def tDGet2(d ty c:TE):TE:=λσ H Q=>d σ H λx H1=>∃a,x=.ref a/\IsD H1 a/\ty σ H1 λy H2=>c σ H2 λz H3=>∃o,DGet H3 a y o/\Q (o.getD z) H3
section
variable {X:Cx}
theorem zu3:CallR X 076 (λxs H Q=>∃a kvs,xs=[V.ref a]/\H a=G 020/\Q (.int kvs.length) H):=by
 intro pins s σ H xs us Q I r h;let(a,kvs,rfl,g,q):=h;let(u,rfl,f):=vals1 r;cases f;show Qdj I (.inl g) λt s' w=>⟨.int kvs.length,H,w,⟨t,R⟩,q⟩
end
section
variable {κ:Type}[DecidableEq κ]
theorem ztc:∀{l:List κ} {k:κ},l.Nodup->¬k∈l->(l++[k]).Nodup
 |[],k,_,_=>by simp
 |a::r,k,h,O=>by
  let(Y,h2):=y1j.mp h;change(a::(r++[k])).Nodup;apply y1j.mpr ⟨λm=>?_,ztc h2 λm=>O<|y09.mpr (Or.inr m)⟩;rcases y16.mp m with q|q
  .exact Y q
  .exact O<|y09.mpr (Or.inl (y0e.mp q).symm)
end
noncomputable def notStar:Expr->Bool
 |.Starred _ _=>Fa
 |_=>N
theorem zar(h:notStar e=N):im (e::i) env=(Fa,eval e env)::im i env:=by
 cases e with
 |Starred v q=>show Xa (show Fa=N from h) y0k
 |_=>rw[starEach.eq_def]
theorem za7:∀{i:List Expr} {env:Env} {pos:Pos},i.all notStar=N->(iN pos<|im i env).any (·.1)=Fa
 |[],env,pos,_=>by rw[starEach.eq_def];rfl
 |e::r,env,pos,h=>by
  rw[y24,y05]at h;rw[zar h.1];show za7 h.2
section
variable {X:Cx}{x:Str}{p pos:Pos}{e:Expr}{es:List Expr}{te:TE}{t:TA}{T id:String}{r:List V->Hp->VK->Prop}
theorem pa_c(g:PE X e te)(L:PA X es t)(h:notStar e=N:=by rfl):PA X (e::es) (tCons te t):=pa_cons g L<|zar h
theorem za4(hc:CallR X 060 r)(y:Gl X x)(M:X.mg x=B)(hv:iY x=G 060)(g:PA X (e::es) t)(E:x≠"__name__":=by decide)(i:82=Fa:=by decide)
  (Y:notStar e=N:=by rfl) (h2:es.all notStar=N:=by rfl):PE X 012 (tCB r t):=zwe hc y M hv g E i (zar Y)<|za7 h2
theorem zby(hc:CallR X (.type T) r)(y:Gl X x)(M:X.mg x=B)(hv:iY x=G (.type T))(g:PA X (e::es) t)(E:x≠"__name__":=by decide)(i:82=Fa:=by decide)
  (Y:notStar e=N:=by rfl) (h2:es.all notStar=N:=by rfl):PE X 012 (tCB r t):=zsd hc y M hv g E i (zar Y)<|za7 h2
end
structure Dfn(K:Frag)(mg:Y1)(x:Str)(st:Stmt)(ps:List Str):Prop where
 ex:∃f fd,Fun K x x st f fd/\Binds K fd ps []/\mg x=G 57
structure Cal(P:ik)(w:World)(K:Frag)(mg:Y1)(base:Heap)(n:Nat)(x:Str)(ps:List Str)(sp:Sp):Prop where
 ex:∃f fd,FnOk P w K mg base CX0 n f fd ps sp/\Binds K fd ps []/\PySem.W.keepIn K 57=N/\mg x=G 57
section
variable {P:ik}{w:World}{K:Frag}{mg:Y1}{base:Heap}
theorem Dfn.cal{x:Str}{st:Stmt}{Nq ps:List Str}{k:Nat}{sp:Sp}(d:Dfn K mg x st ps)(S:FnScope Nq ps 95)(len:∀vs H Q E,sp vs H Q E->vs.length=ps.length)
  (i:∀(f:Ad) (cdv:Va) (A:io) (outer:List Env) (s:ig) (H:Hp) (vs:List V) (Q:VK) (E:XK),Room k 143->sp vs H Q E->
   ∃t,PSs (cxOf CX0 P w K mg base Nq x 95 f cdv A outer s H E).nox 040 t/\t {nx:=λ_ H'=>Q .non H',rt:=Q} 023 H):03 (k+1) x ps sp:=by
 let(f,fd,F,b,m):=d.ex;show⟨f,fd,F.ok S len<|i f,b,F.kp,m⟩
theorem Cal.mono(c:03 j x ps sp)(h:j<=k):03 k x ps sp:=by
 let(f,fd,F,r):=c.ex;show⟨f,fd,F.mono h,r⟩
theorem Dfn.never{x:Str}{st:Stmt}{ps:List Str}{sp:Sp}(d:Dfn K mg x st ps)(g:∀vs H Q E,¬sp vs H Q E):03 0 x ps sp:=by
 let(f,fd,F,b,m):=d.ex;show⟨f,fd,⟨λvs H Q E h=>Xa h<|g vs H Q E,λA outer s H args us vs Q E _ _ _ _ h=>Xa h<|g vs H Q E⟩,b,F.kp,m⟩
end
section
variable {X:Cx}{n k:Nat}{x:Str}{ps:List Str}{sp:Sp}{p pos:Pos}{e:Expr}{es:List Expr}{t:TA}
theorem zag(C:Cal X.prog X.w X.K X.mg X.base n x ps sp)(hr:Room k X.A)(hle:n<=k)(y:Gl X x)(g:PA X (e::es) t)(i:82=Fa:=by decide)
  (Y:notStar e=N:=by rfl) (h2:es.all notStar=N:=by rfl):PE X 012 (tCall sp [] E0 t):=by
 let(f,fd,F,b,kp,m):=C.ex;show zmt F 065 y m kp b .nil pass0 g i (zar Y)<|za7 h2
def GlV(mg:Y1)(x:Str)(v:V):Prop:=∃u,mg x=G u/\RelV v u
theorem zbf(y:Gl X x)(h:GlV X.mg x v)(hd:82=Fa:=by decide):PE X (.Name x pos) (tC v):=by
 let(u,m,r):=h;show zr8 y m r hd
end
theorem CompOk.of(kind:scope.kind=.function)
  (Y:(scope.names.all λy=>y.2 !=.cell&&(y.2 !=.local||scope.names.lookup y.1==G .local)&&(y.2 !=.free||(X.env.scope.names.lookup y.1==G .cell||X.env.scope.names.lookup y.1==G .free)))=N)
  (h2:(cp.all λp=>X.Nq[p.1]? ==G p.2&&scope.names.lookup p.2==G .free)=N):CompOk X scope cp:=by
 let g:=y0s.mp Y;apply⟨kind,λy L e=>?_,λy L e=>?_,λy L e=>?_,λp l=>?_⟩
 .let q:=g y L;rw[y05,y05]at q;rw[e]at q;show Xa q.1.1 06
 .let q:=g y L;rw[y05,y05]at q;let q:=q.1.2;rw[e]at q;simpa using q
 .let q:=g y L;rw[y05,y05]at q;let q:=q.2;rw[e]at q;let q:X.env.scope.names.lookup y.1=G .cell\/X.env.scope.names.lookup y.1=G .free:=by simpa using q
  show q
 .let q:=y0s.mp h2 p l;rw[y05]at q;show⟨by simpa using q.1,by simpa using q.2⟩
inductive Kd(H:Hp):V->String->Prop where
 |non:Kd H .non "NoneType"
 |bl (b:Bool):Kd H (.bl b) "bool"
 |int (i:Int):Kd H (.int i) "int"
 |str (z:Str):Kd H (.str z) "str"
 |lst {a:Ad} {xs:List V} (e:H a=G (.lst xs)):Kd H (.ref a) "list"
 |tup {a:Ad} {xs:List V} (e:H a=G (.tup xs)):Kd H (.ref a) "tuple"
 |dK {a:Ad} {kvs:List (Key×V)} (e:H a=G (.dK kvs)):Kd H (.ref a) "dict"
def kinds:List String:=["NoneType","bool","int","str","list","tuple","dict"]
noncomputable def subT(k T:String):Bool:=k==T||(k=="bool"&&T=="int")
theorem kit_ok(K:Frag):∀k∈kinds,∀T∈["str","list","tuple","bool","int","dict"],PySem.W.kitOne K (.type k) (.type T)=G (subT k T):=by
 intro k hk T hT;simp only[kinds,y09,y0l,or_false]at hk hT;rcases hk with rfl|rfl|rfl|rfl|rfl|rfl|rfl<;>rcases hT with rfl|rfl|rfl|rfl|rfl|rfl<;>first|rfl|kernel_rfl
theorem Kd.ty{K:Frag}{H:Hp}{x:V}{k:String}(h:Kd H x k):TyOf K H x (.type k)/\k∈kinds:=by
 cases h with
 |non=>show⟨.non,by decide⟩
 |bl b=>show⟨.bl b,by decide⟩
 |int i=>show⟨.int i,by decide⟩
 |str z=>show⟨.str z,by decide⟩
 |lst e=>show⟨.lst e,by decide⟩
 |tup e=>show⟨.tup e,by decide⟩
 |dK e=>show⟨.dK e,by decide⟩
theorem Kd.same(h:Kd H x k)(g:Same H H'):Kd H' x k:=by
 cases h with
 |non=>show .non
 |bl b=>show .bl b
 |int i=>show .int i
 |str z=>show .str z
 |lst e=>show .lst<|g _ _ e
 |tup e=>show .tup<|g _ _ e
 |dK e=>show .dK<|g _ _ e
theorem Kd.inj(h:Kd H x k)(h':Kd H x k'):k=k':=by
 cases h with
 |lst e=>cases h' with|lst _=>rfl|tup l=>rw[e]at l;cases l|dK l=>rw[e]at l;cases l
 |tup e=>cases h' with|lst l=>rw[e]at l;cases l|tup _=>rfl|dK l=>rw[e]at l;cases l
 |dK e=>cases h' with|lst l=>rw[e]at l;cases l|tup l=>rw[e]at l;cases l|dK _=>rfl
 |non=>cases h';rfl
 |bl _=>cases h';rfl
 |int _=>cases h';rfl
 |str _=>cases h';rfl
theorem call_isk{X:Cx}:CallR X 080 (λxs H Q=>∃x T k,xs=[x,.ty T]/\Kd H x k/\T∈["str","list","tuple","bool","int","dict"]/\Q (.bl<|subT k T) H):=by
 intro pins s σ H xs us Q I r h;let(x,T,k,e,hk,hT,q):=h;let(h1,h2):=hk.ty (K:=X.K);show znn pins s σ H xs us Q I r ⟨x,T,.type k,_,e,h1,kit_ok X.K k h2 T hT,q⟩
theorem zbb(h:H p=B)(o:HO):Same H (upd H p o):=λb u q=>by rw[zaj<|zau q h];show q
theorem Same.seqT{K:Frag}{H H':Hp}{a:Ad}{xs:List V}(e:Same H H')(h:SqT K H a xs):SqT K H' a xs:=by
 rcases h with(h|⟨o,h⟩)|h
 .exact .inl<|.inl (e _ _ h)
 .exact .inl<|.inr ⟨o,e _ _ h⟩
 .exact .inr h
section
variable {H:Hp}{Q:VK}{v:V}{a:Option V}{r:St}{i:Nat}
theorem zav{t:TS}{D:Ends}{σ:St}(O:St)(e:σ=O)(h:t D O H):t D σ H:=by rw[e];show h
theorem rd_v0:tVar 0 (G v::r) H Q=Q v H:=rfl
theorem rd_vS:tVar (i+1) (a::r) H Q=tVar i r H Q:=rfl
theorem zoe{A Bq:Prop}:(if N=N then A else Bq)=A:=rfl
theorem zof{A Bq:Prop}:(if Fa=N then A else Bq)=Bq:=rfl
theorem rd_ss{a b:Str}:(scal (.str a) (.str b)=N)=True:=eq_true R
theorem rd_si{a:Str}{b:Int}:(scal (.str a) (.int b)=N)=True:=eq_true R
theorem rd_is{b:Str}{a:Int}:(scal (.int a) (.str b)=N)=True:=eq_true R
theorem rd_ii{a b:Int}:(scal (.int a) (.int b)=N)=True:=eq_true R
theorem rd_bb{a b:Bool}:(scal (.bl a) (.bl b)=N)=True:=eq_true R
def cBody(tn:List Str)(cp:Y6)(g:TG)(tif:TT)(te:TE)(σ:St)(Q:VK)(J:It)(H1:Hp):Prop:=∀D,H1 D=B->∃W:Nat->Nat->St->Hp->Prop,
 (∃m,W 0 m (stB tn cp σ) 054)/\∀i m f Hb,W i m f Hb->
  (J.stop i Hb/\Q 71 Hb)\/(J.go i Hb/\∀x H',J.yld i Hb x H'->g x f H' λd H2=>tif d H2 λc H3 =>
   if c=N then te d H3 λy H4=>∃ys,H4 D=G 75/\ys.length<ii/\∃o,o<m/\W (i+1) o d 089
   else∃o,o<m/\W (i+1) o d H3)
theorem zrv:tComp tn cp c g tif te σ H Q=c σ H λJ H1=>cBody tn cp g tif te σ Q J H1:=rfl
def fBody(g:TG)(Y:TS)(D:Ends)(σ:St)(J:It)(H1:Hp):Prop:=∃W:Nat->Nat->St->Hp->Prop,(∃m,W 0 m σ H1)/\∀i m σ H,W i m σ H->
 (J.stop i H/\D.nx σ H)\/(J.go i H/\∃Nq:St->Hp->Prop,131/\∀x H',J.yld i H x H'->g x σ H' λd H2=>Y {D with nx:=Nq,ct:=Nq,bk:=D.nx} d H2)
theorem zyo:tFor c g Y D σ H=c σ H λJ H1=>fBody g Y D σ J H1:=rfl
end
section
variable {tn:List Str}{cp:Y6}{g:TG}{tif:TT}{te:TE}{σ0:St}{Q:VK}{H1:Hp}
theorem zyd(n:Nat)(Pv:Ad->Nat->List V->St->Hp->Prop)(E:n<=ii)(h0:∀D,H1 D=B->Pv D 0 [] 056 054)
  (q:∀D i ys σ H,H1 D=B->i<n->H D=G 75->Pv D i ys σ H->J.go i H) (a:∀D ys σ H,H1 D=B->H D=G 75->Pv D n ys σ H->J.stop n H)
  (hs:∀D i ys σ H x H',H1 D=B->i<n->H D=G 75->ys.length<=i->Pv D i ys σ H->J.yld i H x H'->g x σ H' λd H2=>tif d H2 λc H3 =>
   if c=N then te d H3 λy H4=>CStep D n i (Pv D) d y H4 else CSkip D n i (Pv D) d H3)
  (hd:∀D ys σ H,H1 D=B->H D=G 75->ys.length<=n->Pv D n ys σ H->Q 71 H):cBody tn cp g tif te σ0 Q J H1:=λD I =>
 zng (Pv D) E (h0 D I) (λi ys σ H=>q D i ys σ H I) (λys σ H=>a D ys σ H I) (λi ys σ H hi o C p x H' y=>hs D i ys σ H x H' I hi o C p y) (λys σ H=>hd D ys σ H I)
theorem cb_str(Pv:Ad->Nat->List V->St->Hp->Prop)(E:z.cps.size<=ii)(h0:∀D,H1 D=B->Pv D 0 [] 056 054)
  (hs:∀D i ys σ H c,H1 D=B->i<z.cps.size->z.cps[i]?=G c->H D=G 75->ys.length<=i->Pv D i ys σ H->g (.str ⟨#[c]⟩) σ H λd H2=>tif d H2 λc H3 =>
   if c=N then te d H3 λy H4=>CStep D z.cps.size i (Pv D) d y H4 else CSkip D z.cps.size i (Pv D) d H3)
  (hd:∀D ys σ H,H1 D=B->H D=G 75->ys.length<=z.cps.size->Pv D z.cps.size ys σ H->Q 71 H):cBody tn cp g tif te σ0 Q (Its z) H1:=λD I =>
 zx5 (Pv D) E (h0 D I) (λi ys σ H c=>hs D i ys σ H c I) (λys σ H=>hd D ys σ H I)
theorem zjn{K:Frag}{a:Ad}{xs:List V}(Pv:Ad->Nat->List V->St->Hp->Prop)(E:xs.length<=ii)(h0:∀D,H1 D=B->Pv D 0 [] 056 054)
  (C:∀D i ys σ H,H1 D=B->i<=xs.length->H D=G 75->Pv D i ys σ H->SqL K H a xs)
  (hs:∀D i ys σ H x,H1 D=B->i<xs.length->xs[i]?=G x->H D=G 75->ys.length<=i->Pv D i ys σ H->g x σ H λd H2=>tif d H2 λc H3 =>
   if c=N then te d H3 λy H4=>CStep D xs.length i (Pv D) d y H4 else CSkip D xs.length i (Pv D) d H3)
  (hd:∀D ys σ H,H1 D=B->H D=G 75->ys.length<=xs.length->Pv D xs.length ys σ H->Q 71 H):cBody tn cp g tif te σ0 Q (Itl K a) H1:=λD I =>
 zur (Pv D) E (h0 D I) (λi ys σ H=>C D i ys σ H I) (λi ys σ H x=>hs D i ys σ H x I) (λys σ H=>hd D ys σ H I)
theorem zzh{K:Frag}{a:Ad}{xs:List V}(Pv:Ad->Nat->List V->St->Hp->Prop)(E:xs.length<=ii)(h0:∀D,H1 D=B->Pv D 0 [] 056 054)
  (C:∀D i ys σ H,H1 D=B->i<=xs.length->H D=G 75->Pv D i ys σ H->SqT K H a xs)
  (hs:∀D i ys σ H x,H1 D=B->i<xs.length->xs[i]?=G x->H D=G 75->ys.length<=i->Pv D i ys σ H->g x σ H λd H2=>tif d H2 λc H3 =>
   if c=N then te d H3 λy H4=>CStep D xs.length i (Pv D) d y H4 else CSkip D xs.length i (Pv D) d H3)
  (hd:∀D ys σ H,H1 D=B->H D=G 75->ys.length<=xs.length->Pv D xs.length ys σ H->Q 71 H):cBody tn cp g tif te σ0 Q (Itt K a) H1 :=
 zyd xs.length Pv E h0 (λD i ys σ H I hi o p=>⟨xs,xs[i],C D i ys σ H I (y1i hi) o p,by simp[hi]⟩) (λD ys σ H I o p=>⟨xs,C D _ ys σ H I 43 o p,y06 _⟩) (λD i ys σ H x H' I hi o w p y=>by
  let(e,y):=y;subst e;show hs D i ys σ _ x I hi (y xs<|C D i ys σ _ I (y1i hi) o p) o w p) hd
variable {tb:TS}{D:Ends}
theorem zed{K:Frag}{a:Ad}{xs:List V}(Pv:Nat->St->Hp->Prop)(h0:Pv 0 σ0 H1)(C:∀i σ H,i<=xs.length->Pv i σ H->SqL K H a xs)
  (hs:∀i x σ H,xs[i]?=G x->Pv i σ H->g x σ H λd H2=>tb {D with nx:=Pv<|i+1,ct:=Pv<|i+1,bk:=D.nx} d H2) (hd:∀σ H,Pv xs.length σ H->D.nx σ H):fBody g tb D σ0 (Itl K a) H1:=zxw Pv h0 C hs hd
theorem zt9{K:Frag}{a:Ad}{xs:List V}(Pv:Nat->St->Hp->Prop)(h0:Pv 0 σ0 H1)(C:∀i σ H,i<=xs.length->Pv i σ H->SqT K H a xs)
  (hs:∀i x σ H,xs[i]?=G x->Pv i σ H->g x σ H λd H2=>tb {D with nx:=Pv<|i+1,ct:=Pv<|i+1,bk:=D.nx} d H2) (hd:∀σ H,Pv xs.length σ H->D.nx σ H):fBody g tb D σ0 (Itt K a) H1:=for_tup Pv h0 C hs hd
end
theorem zog{d:Type}(xs:List d):∀(i k:Nat),((List.range k).map λm=>i+m).filterMap (λj=>xs[j]?)=(xs.drop i).take k
 |i,0=>by simp
 |i,k+1=>by
  let A:=zog xs (i+1) k;rw[y2b,y0o,y0t,y2j];let e:((λm=>i+m)∘Nat.succ)=λm=>i+1+m:=by funext m;simp[Function.comp];omega
  rw[e];by_cases h:i<xs.length
  .rw[show i+0=i from rfl,y00 h,A,y3t h,List.take_succ_cons]
  .rw[show i+0=i from rfl,y0z 01,A,y2c 01,y2c 01];simp
noncomputable def cutL{d:Type}(xs:List d)(lo hi:Option Int):List d:=(xs.drop<|HT.sIx xs.length 0 lo).take 129
theorem idx_go{a b:Nat}{A Bq:Int}(j:A=a)(d:Bq=b):PySem.sliceRange A Bq 1=(List.range<|b-a).map λm=>a+m:=by
 subst j d;unfold PySem.sliceRange;simp only[show(1:Int)>0 by decide,if_true];let L:(if(a:Int)<(b:Int)then((b:Int)-(a:Int)+1-1)/1 else 0).toNat=b-a:=by
  split<;>omega
 rw[L];apply y1l λm _=>?_;omega
theorem zro(lo hi:Option Int)(n:Nat):Builtin.Str.strSliceIndices lo hi 1 n=(List.range<|HT.sIx n n hi-HT.sIx n 0 lo).map λm=>HT.sIx n 0 lo+m:=by
 unfold Builtin.Str.strSliceIndices;apply idx_go ?_ ?_
 .cases lo with
  |none=>rfl
  |some v =>
   rw[←HT.clip_eq v n 0];simp only[show(1:Int)>0 by decide,if_true];split<;>omega
 .cases hi with
  |none=>rfl
  |some v =>
   rw[←HT.clip_eq v n n];simp only[show(1:Int)>0 by decide,if_true];split<;>omega
theorem zrp(z:Str)(lo hi:Option Int):(Txt.slice z lo hi).cps.toList=cutL z.cps.toList lo hi:=by
 let C:z.cps.toList.length=z.length:=by simp[Str.length]
 unfold Txt.slice cutL;rw[C,zro];let p:=zog z.cps.toList (HT.sIx z.length 0 lo)<|HT.sIx z.length z.length hi-HT.sIx z.length 0 lo;let e:(λ(j:Nat)=>z.cps.toList[j]?)=λ(j:Nat)=>z.cps[j]?:=by funext j;simp
 rw[e]at p;split
 .rename_i h;simp only[y01,y18,beq_self_eq_true,y1c,beq_iff_eq]at h;let Y:=HT.sIx_le z.length z.length 43 hi;let h3:=HT.sIx_le z.length 0 (y17 _) lo;let h0:HT.sIx z.length 0 lo=0:=by omega
  let h2:HT.sIx z.length z.length hi-HT.sIx z.length 0 lo=z.length:=h;rw[h2,h0,List.drop_zero,y0n<|by rw[C];show y06 _]
 .rw[←p]
theorem zpb(xs:List d)(lo hi:Option Int):(cutL xs lo hi).length<=xs.length:=by
 unfold cutL;rw[y12,y2u];omega
theorem ze0(xs:List d)(k:Nat):cutL xs (G (k:Int)) B=xs.drop k:=by
 unfold cutL;rw[HT.sIx_nat,HT.sIx_none,y0n<|by rw[y2u];show y06 _];by_cases h:k<=xs.length
 .rw[y3o h]
 .rw[Nat.min_eq_right 01,y2c 43,y2c 01]
theorem zma(z:Str):z.length=z.cps.toList.length:=by simp[Str.length]
theorem zbp{d:Type}{c:d}{r:List d}:atI (c::r) 0=G c:=zam (j:=0) R
theorem RcOk.up(h:RcOk X j H x y b)(a:j<=k):RcOk X k H x y b:=λpins σ s A u v U=>h pins σ s A u v 01
theorem zad(h:n<=1000):n<=ii:=y1i<|small1000 h
theorem atI_mod{d:Type}{xs:List d}{i:Int}{n:Nat}(E:xs.length=n)(h0:0<n):∃v,atI xs (i%(n:Int))=G v/\v∈xs:=by
 let Y:0<=i%(n:Int):=Int.emod_nonneg _ 01;let h2:i%(n:Int)<n:=Int.emod_lt_of_pos _ 01;let h3:(i%(n:Int)).toNat<xs.length:=by omega
 apply⟨xs[(i%(n:Int)).toNat],?_,y0b h3⟩;let e:i%(n:Int)=(((i%(n:Int)).toNat:Nat):Int):=by omega
 let q:atI xs (((i%(n:Int)).toNat:Nat):Int)=G xs[(i%(n:Int)).toNat]:=zam 05;rw[←e]at q;show q
theorem zfh(L:Room k A)(j:Nat)(h:j<=64):A.units+j<cLine:=by have:=L.units;omega
section
variable {K:Frag}{h:Heap}{mg:Y1}
theorem dfn_mk{x:Str}{st:Stmt}{ps:List Str}{f:Ad}{oc:Va}{T an:Option Ad}{g:Y8}{kV doc pm cdv ct:Va}(X:K.In h)(Gq:h.Ns ir mg)
  (a:PySem.W.nsIn K ir x=G (G 57)) (l:K.lookup f=G ⟨oc,T,.func 114,g⟩)
  (c:PySem.W.codeIn K cdv x=N) (k:PySem.W.keepIn K 57=N)
  (U:∀(kV doc pm:Va) (an:Option Ad) (cdv ct:Va) (us:List Va),us.length=ps.length->jf 114 024=pure 021):Dfn K mg x st ps :=
 ⟨f,_,zo2 l c k,(zo2 l c k).binds U,PySem.W.mg_of X Gq a⟩
theorem law_mk{x y:Str}{st:Stmt}{f z:Ad}{oc:Va}{T an:Option Ad}{g:Y8}{kV doc pm cdv ct:Va}(X:K.In h)(Gq:h.Ns ir mg)(d:mg x=G (.ref z))
  (a:PySem.W.nsIn K ir x=G (G 57)) (l:K.lookup f=G ⟨oc,T,.func 114,g⟩)
  (c:PySem.W.codeIn K cdv x=N) (k:PySem.W.keepIn K 57=N) (U:∀(s:ig) (v:Va),jS s 114 ⟨[v],[]⟩ [(y,v)]) :
  ∃fd:i5,(∀(s:ig) (v:Va),jS s fd ⟨[v],[]⟩ [(y,v)])/\Fun K x x st z fd:=by
 let e:=d.symm.trans<|PySem.W.mg_of X Gq a;cases e;show⟨_,U,zo2 l c k⟩
theorem glv_mk(X:K.In h)(Gq:h.Ns ir mg)(a:PySem.W.nsIn K ir x=G (G u))(r:RelV v u):GlV mg x v:=⟨u,PySem.W.mg_of X Gq a,r⟩
end
section
variable {CX:CXT}{P:ik}{w:World}{K:Frag}{mg:Y1}{base:Heap}{Nq:List Str}{x:Str}{sc:Scope}{f:Ad}{cdv:Va}{A:io}{outer:List Env}{s:ig}{H:Hp}{E:XK}
theorem cxK:(cxOf CX P w K mg base Nq x sc f cdv A outer s H E).K=K:=rfl
theorem cxP:(cxOf CX P w K mg base Nq x sc f cdv A outer s H E).prog=P:=rfl
theorem cxW:(cxOf CX P w K mg base Nq x sc f cdv A outer s H E).w=w:=rfl
end
local instance (priority:=10000):BEq Key:=instBEqOfDecidableEq
local instance (priority:=10000):LawfulBEq Key:=inferInstanceAs (LawfulBEq (Sum Int Str))
noncomputable def onceK:List Key->List Key->List Key
 |acc,[]=>acc
 |acc,k::r=>onceK (if k∈acc then acc else acc++[k]) r
theorem zhy:∀(ks acc:List Key) (k:Key),onceK acc (ks++[k])=if k∈onceK acc ks then onceK acc ks else onceK acc ks++[k]
 |[],acc,k=>rfl
 |j::r,acc,k=>zhy r _ k
theorem zeu:∀(ks acc:List Key),(onceK acc ks).length<=acc.length+ks.length
 |[],acc=>y06 _
 |k::r,acc=>by
  let h:=zeu r<|if k∈acc then acc else acc++[k];change(onceK (if k∈acc then acc else acc++[k]) r).length<=acc.length+(r.length+1);split at h<;>rename_i c
  .rw[Xq c];omega
  .rw[Xp c];rw[y0j,y0u]at h;omega
theorem zgp:∀(ks acc:List Key),acc.Nodup->((onceK acc ks).length=acc.length+ks.length↔(acc++ks).Nodup)
 |[],acc,h=>by simp[onceK,h]
 |k::r,acc,h=>by
  change(onceK (if k∈acc then acc else acc++[k]) r).length=acc.length+(r.length+1)↔_;by_cases c:k∈acc
  .rw[Xq c];let l:=zeu r acc;constructor
   .intro e;omega
   .intro e;let:=(y32.mp e).2.2 k c k<|y0c;show Xa R this
  .rw[Xp c];let h':(acc++[k]).Nodup:=ztc h c;let A:=zgp r (acc++[k]) h';rw[y0j,y0u,y35]at A;rw[show acc.length+(r.length+1)=acc.length+1+r.length by omega];show A
theorem zsq(ks:List Key):(onceK [] ks).length=ks.length↔ks.Nodup:=by
 let h:=zgp ks [] y3f;simpa using h
structure SetR{P:ik}{w:World}{T:Type}[DecidableEq T](knd:PySem.KeyKind P w T)(a:Ad)(m:Nat)(Rp:Heap->List T->Prop):Prop where
 kept:∀{h h':Heap} {ks:List T},Rp h ks->(∀o,h.get? a=G o->h'.get? a=G o)->Rp h' ks
 add:∀{A:io} {E:Y0} {s:ig} {ks:List T} {k:T} {v:Va} {Q:Bool->ig->Prop},knd.is k v=N->ks.length+1<m->Rp s.heap ks->(∀h' b,Heap.SameBut a s.heap h'->Rp h' (ks++[k])->Q b {s with heap:=h'})->wpAny (model P w) A (setAddHashed a v<|knd.hash k) Q E s
section
variable {P:ik}{w:World}{A:io}{Rq:Result->ig->Prop}{it:Ad}{fp wr:List Ad}{Gq:Array jq->Array jq->Prop}{n:Nat}{Pv:Nat->Va->Prop}{St:Nat->ig->Prop}
def SetIs(P:ik)(w:World)(h:Heap)(a:Ad)(ks:List Key):Prop:=h.SetOf 025 a (λk=>decide (k∈onceK [] ks)) (onceK [] ks).length
theorem SetIs.kept(x:SetIs P w h a ks)(k:∀o,h.get? a=G o->h'.get? a=G o):SetIs P w h' a ks:=by
 let(o,i,l,t,Y,rest):=x;show⟨o,i,l,t,k o Y,rest⟩
theorem scan_kV(h:(025).is k v=N):v.scannable=N:=by
 rcases za6 h with⟨i,t,rfl,rfl⟩|⟨x,t,rfl,rfl⟩|⟨c,rfl,rfl⟩<;>rfl
theorem zpm{T:Type}[DecidableEq T]{knd:PySem.KeyKind P w T}{f:Heap->List T->Prop}(W:WalksS P w A.in1 it fp wr Gq n Pv St)(a:Ad)(j:SetR knd a (n+1) f)(g:a∉fp)(ks:List T)(E:ks.length=n)(hv:∀i v,Pv i v->∀k,ks[i]?=G k->knd.is k v=N):
  ∀(m i:Nat) (s:ig),n-i=m->i<=n->St i s->f s.heap (ks.take i)->(∀s',Moved (a::wr) Gq s s'->f s'.heap ks->Rq (.ok<|.ret .none) s')->
   iZ 014 A (.builtin "set.update.loop" ⟨[.ref a,.ref it],[]⟩) Rq s:=by
 let c:a∉wr:=λh=>g<|W.sub _ h;let up:∀b∈wr,b∈a::wr:=λb h=>y08 _ h;intro m
 induction m with
 |zero =>
  intro i s M hi st x q;obtain rfl:i=n:=by omega
  rw[y0n<|y40 E]at x;apply iJ F.entry_set_update_loop ?_;rw[Around.under_plainId F.plain_set_update_loop _];apply ia<|W.done s _ _ st λs' d=>ib<|q s' (d.mono up) (j.kept x λo e=>d.heap a _ c e)
 |succ m D =>
  intro i s M hi st x q;let lt:i<n:=by omega
  let O:ks[i]?=G ks[i]:=by simp[E,lt]
  apply iJ F.entry_set_update_loop ?_;rw[Around.under_plainId F.plain_set_update_loop _];apply ia<|W.item i s _ _ lt st λv s' pv Y d=>?_;let is:=hv i v pv _ O;let H:=j.kept (h':=s'.heap) x λo e=>d.heap a _ c e;apply ia (m:=holding [v]<|setAdd a v)<|iy ?_;unfold setAdd;apply iy<|ia (knd.pyHash (k:=ks[i]) is ?_);apply j.add (s:={s' with toks:=s'.toks+1}) is (by rw[y12];omega) H λh' l L J=>?_;let u:f h' (ks.take<|i+1):=by rw[y14,O,y21];show J
  apply ib ⟨jj F.plain_set_update_loop _,D (i+1) _ 01 lt (W.frame _ s' _ _ Y (y3g _) λb U o e=>?_) u λs2 y I=>?_⟩
  .rw[L.2 b λh=>g<|h▸U];show e
  .refine q s2 (Moved.trans W.gtrans ((d.mono up).then_heap (y3g _) λb o U e=>?_) y) I;rw[L.2 b λh=>U<|h▸y0c];show e
theorem setis_r(a:Ad)(M:m<jW):SetR 025 a m (λh ks=>SetIs P w h a ks):=⟨λx k=>x.kept k,λ{A E s ks k v Q} is C x q=>by
 let room:=zeu ks [];rw[y1k]at room;apply wpAny_setAddHashed_of (knd:=mixKind P w) is (scan_kV is) x 01 λh' L J=>q h' _ L ?_;unfold SetIs;rw[zhy];apply SetOf_congr J (λk'=>?_) ?_
 .by_cases c:k∈onceK [] ks
  .rw[Xq c];by_cases e:k'=k
   .subst e;simp[c]
   .simp[e]
  .rw[Xp c];simp[y16]
 .by_cases c:k∈onceK [] ks
  .rw[Xq c];simp[c]
  .rw[Xp c];simp[c]⟩
end
section
variable {P:ik}{w:World}{A:io}{E:Y0}{s:ig}
set_option maxHeartbeats 3200000 in
theorem set_ofG{T:Type}[DecidableEq T]{knd:PySem.KeyKind P w T}{Rp:Heap->List T->Prop}{Lp:Bool->Prop}{l:Ad}{its:Array Va}{ks:List T}{Q:Y0}(hh:A.handled=B)(hl:s.heap.IsList l its)(hk:ks.length=its.size)(hi:∀(i:Nat) v k,its[i]?=G v->ks[i]?=G k->knd.is k v=N)
  (SR:SetR knd s.heap.objs.size (its.size+1) Rp) (fresh:∀(h:Heap) led,Lp led->h.get? s.heap.objs.size=G {cls:=.type "set",dict:=B,data:=.set #[] 0 (.fresh 0 0 led)}->Rp h [])
  (nw:∀{A:io},iZ 014 A (.call (.builtin "set.__new__") ⟨[.type "set",.ref l],[]⟩) (wants (λobj s1=>∃led:Bool,Lp led/\obj=.ref s.heap.objs.size/\s1={s with heap:=s.heap.push {cls:=.type "set",dict:=B,data:=.set #[] 0 (.fresh 0 0 led)} }) E) s)
  (h:∀(h':Heap) (tk:Nat),Rp h' ks->181->Q 016 {s with heap:=h',toks:=tk}) :
  wpAny 014 A (call (.type "set") [.ref l]) Q E s:=by
 let(c,tl,hmro):=F.called_set.mro;let made:=F.called_set.made;let sub:=F.called_set.sub;apply iO<|j6 (ib ⟨Code.quiet_builtin _ 52,iJ F.entry_type_call ?_⟩);rw[Around.under_plain (weight_type_call_type "set" [.ref l] []) rfl];let a1:=F.called_set.notType;let a2:=F.called_set.canCreate;let a3:=F.typeCall_set_1<|.ref l
 repeat (any_goals (first|assumption|wp_step))
 apply iA nw λr s1 hr=>?_;cases r with
 |error e=>show hr
 |ok fl =>
  cases fl with
  |ret obj =>
   let(led,lp,rfl,rfl):=hr;let at0:(109).get? s.heap.objs.size=G {cls:=.type "set",dict:=B,data:=.set #[] 0 (.fresh 0 0 led)}:=y0h _ rfl;let ty:Shared.TypeIs {s with heap:=s.heap.push {cls:=.type "set",dict:=B,data:=.set #[] 0 (.fresh 0 0 led)} } (.ref s.heap.objs.size) "set":=⟨_,at0,R⟩;let i1:=F.called_set.init.lookup;let i2:=F.called_set.init.bind 016
   repeat (any_goals (first|assumption|wp_step))
   apply iA (ja («R»:=wants (λr s2=>r=.none/\∃h' tk,s2={s with heap:=h',toks:=tk}/\Rp h' ks/\
     181) E) F.called_set.init.plain F.entry_set_init (check_set_init_1 ty ?_)) λr2 s2 hr2=>?_
   .let(ol,ho,hc,nl,hd):=hl;let(oc,od,oda,osl):=ol;simp only at hc hd;subst hc;subst hd;let ho':(109).get? l=G {cls:=.type "list",dict:=od,data:=.seq its nl,slots:=osl}:=y03 _ ho;let b1:=F.sub_list_set;let b2:=F.sub_list_frozenset;let b3:(Va.type "list"==Va.type "dict")=Fa:=by decide
    let hl1:(109).IsList l its:=⟨_,ho',R,nl,R⟩;unfold Builtin.«set.__init__» noKeywords Builtin.Frozenset.updateFrom;generalize hPI:lf=PI
    wp_walk
    subst hPI;apply jg hl1 ?_;apply ia<|wpAny_runValue ?_;let ll:l<s.heap.objs.size:=y0g ho;let h3:A.in1.in1.in1.handled=B:=by simp[hh]
    let ne:l≠(109).objs.size:=by rw[y1g];show y0m<|y26 ll
    let nf:s.heap.objs.size∉[(109).objs.size,l]:=by
     rw[y1g];intro z;rcases y09.mp z with z|z
     .exact Xa z<|y0m (y2t _)
     .exact Xa (y0e.mp z)<|y2d ll
    apply zpm ((Walks.list h3 _ l ne its).toS) s.heap.objs.size SR nf ks hk (λi v pv k e=>hi i v k pv e) (its.size-0) 0 _ 01 (y17 _) ⟨⟨_,y0h _ R,R,R⟩,(hl1.push _)⟩ ?x0 ?q0
    case x0 =>
     apply SR.kept (h:=s.heap.push {cls:=.type "set",dict:=B,data:=.set #[] 0 (.fresh 0 0 led)}) ?_ λo e=>y03 _ e;rw[List.take_zero];show fresh _ led lp at0
    case q0 =>
     intro s' mv x';let(h',g',d',tk',os'):=s';let eg:g'=s.gens:=mv.gens;let ed:d'=s.drawn:=mv.drawn;let eo:os'=s.os:=mv.os;subst eg;subst ed;subst eo;apply ib<|ib ⟨R,h',tk',R,x',λb o hb e=>mv.heap b o ?_<|y03 _ (y03 _ e)⟩;rw[y1g];intro z;rcases y09.mp z with z|z
     .exact Xa z<|y0m hb
     .exact Xa (y0e.mp z)<|y0m (y26 hb)
   .cases r2 with
    |error e=>show hr2
    |ok f2 =>
     cases f2 with
     |ret r =>
      let(rfl,h',tk,rfl,x',k'):=hr2
      repeat (any_goals (first|assumption|wp_step))
      show h _ _ x' k'
     |_=>show hr2.elim
  |_=>show hr.elim
theorem zmg{its:Array Va}{ks:List Key}(p:A.handled=B)(C:s.heap.IsList l its)(O:ks.length=its.size)(hi:∀(i:Nat) v k,its[i]?=G v->ks[i]?=G k->(025).is k v=N)
  (U:its.size+1<jW)
  (h:∀(h':Heap) (f:Nat),SetIs P w h' s.heap.objs.size ks->181->Q 016 {s with heap:=h',toks:=f}) :
  wpAny 014 A (call (.type "set") [.ref l]) Q E s :=
 set_ofG (Lp:=λ_=>True) p C O hi (setis_r _ U) (λh led _ a=>SetOf_congr ((setObjOf_fresh (knd:=mixKind P w) led).setOf a<|by unfold jW;omega) (λ_=>rfl) R) (code_set_new_1 (.ref l) λled=>⟨led,trivial,R,R⟩) h
end
noncomputable def setK(P:ik)(w:World)(a:Ad)(ks:List Key):HO:=.ext λh=>SetIs P w h a ks
theorem znl(hc:X.calm=N):CallR X (.type "set") (λxs H Q=>∃(p:Ad) (ks:List Key),xs=[.ref p]/\SqL X.K H p (ks.map kV)/\ks.length<=1000/\∀a,H a=B->Q 07 (upd H a<|setK X.prog X.w a ks)):=by
 intro pins s σ H xs us Q I r h;let(p,ks,rfl,J,hz,q):=h;let(u,rfl,rx):=vals1 r;cases(show u=Va.ref p from rx);let(vs,d,g,_):=I.list J;let c:=d.length;rw[y01]at c;apply zmg (ks:=ks) 026 g.isList (by rw[y07];show c) (λi v k M D=>?_) (by rw[y07];unfold jW;omega) λh' f x k=>?_
 .let j:vs[i]?=G v:=by simpa using M
  let(u,e,q):=d.get (i:=i) (x:=kV k) (by rw[y04,D];rfl);rw[j]at e;cases e;show zto q
 .refine⟨.ref s.heap.objs.size,_,I.laid (t':=f) (λb u e=>k b u (y0g e) e) 43 ?_,R,q _ I.fresh⟩;let(o,U,l,t,C,rest):=id x;show⟨x,⟨o,C⟩,λY h2 y k1=>y.kept k1⟩
theorem zjt:CallR X 076 (λxs H Q=>∃(p:Ad) (ks:List Key),xs=[.ref p]/\H p=G (setK X.prog X.w p ks)/\ks.length<=1000/\Q (.int ((onceK [] ks).length:Int)) H):=by
 intro pins s σ H xs us Q I r h;let(p,ks,rfl,J,hz,q):=h;let(u,rfl,rx):=vals1 r;cases(show u=Va.ref p from rx);let(x,_):=I.hok p _ J;let(o,i,l,t,Y,a,hd,_,_,_,j,E):=x;let room:=zeu ks [];rw[y1k]at room;apply call_len_set Y a hd j (by rw[E];omega) ?_;rw[E];show(174)
structure New(H:Hp)(p:Ad)(o:HO)(H':Hp):Prop where
 nil:H p=B
 g:Same H H'
 at':H' p=G o
 eq:H'=upd H p o
theorem New.mk'(h:H p=B)(o:HO):New H p o (upd H p o):=⟨h,zbb h o,zat,R⟩
theorem New.lst{K:Frag}{H H':Hp}{p:Ad}{xs:List V}(n:New H p 99 H'):SqL K H' p xs:=.of n.at'
theorem Same.wr(g:Same H H')(h:H p=B)(o:HO):Same H (upd H' p o):=λb u e=>by rw[zaj<|zau e h];show g b u e
section
variable {X:Cx}{e:Expr}{es:List Expr}{t:TA}{pos:Pos}
def tTupN(t:TA):TE:=λσ H Q=>t σ H λxs H1=>xs.length<=ii/\∀p H',New H1 p 011 H'->Q 42 H'
def tLstN(t:TA):TE:=λσ H Q=>t σ H λxs H1=>xs.length<=ii/\∀p H',New H1 p 99 H'->Q 42 H'
theorem za0(h:PA X es t):PE X (.Tuple es y pos) (tTupN t):=by
 intro pins s σ H Q I T;apply wpAny_Tuple_spliced<|thn (h pos pins s σ H _ I T) λus s1 ⟨xs,H1,I1,r,z,q⟩=>⟨by rw[←r.length];show z,?_⟩;apply⟨.ref s1.heap.objs.size,upd H1 s1.heap.objs.size 011,I1.laid (t':=s1.toks) (λb u e=>y03 _ e) 43 ?_,R,q _ _<|.mk' I1.fresh _⟩;show⟨z,us,r,⟨_,y0h _ R,R,_,R⟩⟩
theorem zas(h:PA X es t):PE X (.List es pos) (tLstN t):=by
 intro pins s σ H Q I T;apply wpAny_List_spliced<|thn (h pos pins s σ H _ I T) λus s1 ⟨xs,H1,I1,r,z,q⟩=>⟨by rw[←r.length];show z,?_⟩;apply⟨.ref s1.heap.objs.size,upd H1 s1.heap.objs.size 99,I1.laid (t':=s1.toks) (λb u e=>y03 _ e) 43 ?_,R,q _ _<|.mk' I1.fresh _⟩;show⟨z,us,0,r,y0h _ R⟩
def rSlLN(K:Frag):V->Option Int->Option Int->Hp->VK->Prop:=λx lo hi H Q=>∃a xs,x=.ref a/\SqL K H a xs/\∀p H',New H p (.lst<|cutL xs lo hi) H'->Q 42 H'
theorem zvq:SlR X (rSlLN X.K):=λpins s σ H x v M vu lo hi f Q I rx hs D Y h=>by
 let(a,xs,e,J,q):=h;show sl_list pins s σ H x v M vu lo hi f Q I rx hs D Y ⟨a,xs,e,J,λp j=>q p _<|.mk' j _⟩
def rCatN:R2:=λx y H Q=>∃l b xs w,x=.ref l/\y=.ref b/\H l=G 99/\H b=G (.lst w)/\xs.length+w.length<=ii/\∀p H',New H p (.lst<|xs++w) H'->Q 42 H'
theorem op_catN:OpR X (iD .Add) rCatN:=λpins s σ H x y v u Q I rx ry h=>by
 let(l,b,xs,w,M,D,Y,h2,hz,q):=h;show op_cat pins s σ H x y v u Q I rx ry ⟨l,b,xs,w,M,D,Y,h2,hz,λp j=>q p _<|.mk' j _⟩
theorem za2:CallR X (.type "tuple") (λxs H Q=>∃p ys,xs=[.ref p]/\((SqL X.K H p ys/\∀l H',New H l (.tup ys) H'->Q (.ref l) H')\/(SqT X.K H p ys/\Q 42 H))):=λpins s σ H xs us Q I r h=>by
 let(p,ys,e,T):=h;apply zjp pins s σ H xs us Q I r ⟨p,ys,e,?_⟩;rcases T with⟨Y,q⟩|Y
 .exact .inl ⟨Y,λl i=>q l _<|.mk' i _⟩
 .exact .inr Y
theorem zly(hc:X.calm=N):CallR X (.type "set") (λxs H Q=>∃(p:Ad) (ks:List Key),xs=[.ref p]/\SqL X.K H p (ks.map kV)/\ks.length<=1000/\∀a H',New H a (setK X.prog X.w a ks) H'->Q 07 H'):=λpins s σ H xs us Q I r h=>by
 let(p,ks,e,J,hz,q):=h;show znl hc pins s σ H xs us Q I r ⟨p,ks,e,J,hz,λa c=>q a _<|.mk' c _⟩
end
section
variable {tn:List Str}{cp:Y6}{g:TG}{tif:TT}{te:TE}{σ0:St}{Q:VK}{H1:Hp}{K:Frag}{a:Ad}{xs:List V}
def PMap(S:St->Prop)(f:V->V)(xs:List V)(H1:Hp)(i:Nat)(ys:List V)(σ:St)(H:Hp):Prop:=Same H1 H/\S σ/\ys=(xs.take i).map f
theorem zgz(S:St->Prop)(f:V->V)(E:xs.length<=1000)(u:SqL K H1 a xs)(h0:S 056)
  (hs:∀D i σ H x,i<xs.length->x∈xs->xs[i]?=G x->Same H1 H->H1 D=B->H D=G (.lst<|(xs.take i).map f)->S σ->g x σ H λd H2=>tif d H2 λc H3 =>
   if c=N then te d H3 λy H4=>CStep D xs.length i (PMap S f xs H1) d y H4 else CSkip D xs.length i (PMap S f xs H1) d H3)
  (hd:∀D H,H1 D=B->Same H1 H->H D=G (.lst<|xs.map f)->Q 71 H):cBody tn cp g tif te σ0 Q (Itl K a) H1:=by
 apply zjn (K:=K) (a:=a) (xs:=xs) (λD i ys σ H=>PMap S f xs H1 i ys σ H) (zad E) (λD I=>⟨zbb I _,h0,R⟩) (λD i ys σ H _ _ _ p=>p.1.seq u) ?_ ?_
 .rintro D i ys σ H x I hi J o C ⟨r,l,rfl⟩;show hs D i σ H x hi (y0q J) J r I o l
 .rintro D ys σ H I o C ⟨r,l,rfl⟩;rw[y0n 43]at o;show hd D H I r o
theorem zfr(S:St->Prop)(f:V->V)(E:xs.length<=1000)(u:SqT K H1 a xs)(h0:S 056)
  (hs:∀D i σ H x,i<xs.length->x∈xs->xs[i]?=G x->Same H1 H->H1 D=B->H D=G (.lst<|(xs.take i).map f)->S σ->g x σ H λd H2=>tif d H2 λc H3 =>
   if c=N then te d H3 λy H4=>CStep D xs.length i (PMap S f xs H1) d y H4 else CSkip D xs.length i (PMap S f xs H1) d H3)
  (hd:∀D H,H1 D=B->Same H1 H->H D=G (.lst<|xs.map f)->Q 71 H):cBody tn cp g tif te σ0 Q (Itt K a) H1:=by
 apply zzh (K:=K) (a:=a) (xs:=xs) (λD i ys σ H=>PMap S f xs H1 i ys σ H) (zad E) (λD I=>⟨zbb I _,h0,R⟩) (λD i ys σ H _ _ _ p=>p.1.seqT u) ?_ ?_
 .rintro D i ys σ H x I hi J o C ⟨r,l,rfl⟩;show hs D i σ H x hi (y0q J) J r I o l
 .rintro D ys σ H I o C ⟨r,l,rfl⟩;rw[y0n 43]at o;show hd D H I r o
theorem zb6(E:xs.length<=1000)(J:xs[i]?=G x)(I:H1 D=B)(p:H4 D=G (.lst<|(xs.take i).map f))(c:Same H1 H4)(s2:S d)(e:y=f x):
  CStep D xs.length i (PMap S f xs H1) d y H4:=by
 let hi:i<xs.length:=(y0d.mp J).1;apply cstep (zad E) hi p (by rw[y01,y12];omega) ⟨c.wr I _,s2,?_⟩;rw[y14,J,y0y,e];rfl
def PFil(S:St->Prop)(p:V->Bool)(f:V->V)(xs:List V)(H1:Hp)(i:Nat)(ys:List V)(σ:St)(H:Hp):Prop:=Same H1 H/\S σ/\ys=((xs.take i).filter p).map f
theorem cf_tup(S:St->Prop)(p:V->Bool)(f:V->V)(E:xs.length<=1000)(u:SqT K H1 a xs)(h0:S 056)
  (hs:∀D i σ H x,i<xs.length->x∈xs->xs[i]?=G x->Same H1 H->H1 D=B->H D=G 118->S σ->g x σ H λd H2=>tif d H2 λc H3 =>
   if c=N then te d H3 λy H4=>CStep D xs.length i (PFil S p f xs H1) d y H4 else CSkip D xs.length i (PFil S p f xs H1) d H3)
  (hd:∀D H,H1 D=B->Same H1 H->H D=G (.lst<|(xs.filter p).map f)->Q 71 H):cBody tn cp g tif te σ0 Q (Itt K a) H1:=by
 apply zzh (K:=K) (a:=a) (xs:=xs) (λD i ys σ H=>PFil S p f xs H1 i ys σ H) (zad E) (λD I=>⟨zbb I _,h0,R⟩) (λD i ys σ H _ _ _ p=>p.1.seqT u) ?_ ?_
 .rintro D i ys σ H x I hi J o C ⟨r,l,rfl⟩;show hs D i σ H x hi (y0q J) J r I o l
 .rintro D ys σ H I o C ⟨r,l,rfl⟩;rw[y0n 43]at o;show hd D H I r o
theorem cf_step(E:xs.length<=1000)(J:xs[i]?=G x)(l:p x=N)(I:H1 D=B)(L:H4 D=G 118)(c:Same H1 H4)(s2:S d)(e:y=f x):
  CStep D xs.length i (PFil S p f xs H1) d y H4:=by
 let hi:i<xs.length:=(y0d.mp J).1;apply cstep (zad E) hi L ?_ ⟨c.wr I _,s2,?_⟩
 .rw[y01];let:=y1n p<|xs.take i;rw[y12]at this;omega
 .rw[y14,J,y2o,y0y,e];simp[l]
theorem zu0(J:xs[i]?=G x)(l:p x=Fa)(h3:H3 D=G 118)(r:Same H1 H3)(s2:S d):
  CSkip D xs.length i (PFil S p f xs H1) d H3:=by
 let hi:i<xs.length:=(y0d.mp J).1;apply cskip hi h3 ?_ ⟨r,s2,?_⟩
 .rw[y01];let:=y1n p<|xs.take i;rw[y12]at this;omega
 .rw[y14,J,y2o];simp[l]
end
section
variable {X:Cx}{k:Nat}{H:Hp}{a b:Ad}{xs ys:List V}
theorem zua(a b:Str):eqV (.str a) (.str b)=decide (a=b):=by
 by_cases h:a=b
 .subst h;simp[eqV]
 .simp[eqV,h]
theorem zns:∀(xs ys:List Str),(xs.length==ys.length&&(052).all λj=>eqV ((xs.map V.str).getD j .non)<|(ys.map V.str).getD j .non)=decide (xs=ys)
 |[],[]=>rfl
 |[],y::ys=>by simp
 |x::xs,[]=>by simp
 |x::xs,y::ys=>by
  let A:=zns xs ys;let e:(List.range (x::xs).length).all (λj=>eqV (((x::xs).map V.str).getD j .non)<|((y::ys).map V.str).getD j .non) =
    (decide (x=y)&&(052).all λj=>eqV ((xs.map V.str).getD j .non)<|(ys.map V.str).getD j .non):=by
   rw[y0i,y2b,y24,y23];show congrArg (· && _)<|zua x y
  rw[e];let D:((x::xs).length==(y::ys).length)=081:=by simp
  rw[D];by_cases J:x=y
  .subst J;rw[Xg R,y1c,A];simp
  .rw[Xf J,y1b,y25];simp[J]
theorem zcg(xs:List Str):(xs.map V.str).all flatV=N:=by
 rw[y0s];intro x J;let(z,_,rfl):=y0f.mp J;rfl
def rEqS(K:Frag):R2:=λx y H Q=>∃(a b:Ad) (xs ys:List Str),x=.ref a/\y=.ref b/\SqL K H a (xs.map V.str)/\SqL K H b (ys.map V.str)/\Q (.bl<|decide (xs=ys)) H
theorem op_eqS(U:X.A.units+8<cLine):OpR X (iw .Eq) (rEqS X.K):=by
 infer_instance;let(a,b,xs,ys,rfl,rfl,Y,h2,q):=h;let r:=zpu (X:=X) Y h2 (zcg xs)<|zcg ys;rw[y01,y01,zns]at r;show zyx (k:=1) (Nat.lt_of_le_of_lt (Nat.add_le_add_left 06 _) U) pins s σ H _ _ v u Q I rx ry ⟨_,r,q⟩
def rNeS(K:Frag):R2:=λx y H Q=>∃(a b:Ad) (xs ys:List Str),x=.ref a/\y=.ref b/\SqL K H a (xs.map V.str)/\SqL K H b (ys.map V.str)/\Q (.bl<|!decide (xs=ys)) H
theorem op_neS(U:X.A.units+8<cLine):OpR X (iw .NotEq) (rNeS X.K):=by
 infer_instance;let(a,b,xs,ys,rfl,rfl,Y,h2,q):=h;cases(show v=Va.ref a from rx);cases(show u=Va.ref b from ry);let(us,r1,r,_):=I.list Y;let(vs,T,l,_):=I.list h2;let l1:=r1.length;let l2:=T.length;let d:X.A.units<cLine:=by omega
 by_cases C:us.length=vs.length
 .let z:=SeqAt.RcNeAt.lists (A:=X.A) (s:=s) (e:=λj=>eqV ((xs.map V.str).getD j .non)<|(ys.map V.str).getD j .non) r.isList l.isList (by rw[y07,y07];show C) d λj Y h2=>by
   rw[y07]at Y h2;let(g1,q1):=r1.at Y;let(c,q2):=T.at h2;let M:(xs.map V.str).getD j .non=(xs.map V.str)[j]:=by rw[y02,y00 g1];rfl
   let D:(ys.map V.str).getD j .non=(ys.map V.str)[j]:=by rw[y02,y00 c];rfl
   rw[M,D];apply zlo (by simpa using q1) (by simpa using q2) ?_ ?_
   .exact y0s.mp (zcg xs) _<|y0b g1
   .exact y0s.mp (zcg ys) _<|y0b c
  let e:=zns xs ys;rw[y01]at l1 l2;rw[show(081)=N by simp;omega,y1c]at e;rw[y07,←l1,e]at z;show z _ _ _ _ ⟨.bl<|!decide (xs=ys),H,I,R,q⟩
 .let z:=SeqAt.RcNeAt.lists_lengths (A:=X.A) (s:=s) r.isList l.isList (by rw[y07,y07];simpa using C) d;let e:decide (xs=ys)=Fa:=Xf λh=>by rw[h,y01]at l1;rw[y01]at l2;omega
  rw[e]at q;show z _ _ _ _ ⟨.bl N,H,I,R,q⟩
theorem zvx(g:SqL X.K H a xs)(U:SqL X.K H b []):RcOk X (k+1) H 07 53 (decide (xs=[])):=by
 cases xs with
 |nil =>
  let r:=zht (k:=k) g U R (λ_=>N) λj Y _=>by simp at Y
  show r
 |cons x r=>show zks g U 05
def rSlTN(K:Frag):V->Option Int->Option Int->Hp->VK->Prop:=λx lo hi H Q=>∃a xs,x=.ref a/\SqT K H a xs/\
 ¬183/\∀p H',New H p (.tup<|cutL xs lo hi) H'->Q 42 H'
theorem sl_tupN:SlR X (rSlTN X.K):=λpins s σ H x v M vu lo hi f Q I rx hs D Y h=>by
 let(a,xs,e,J,O,q):=h;show sl_tup pins s σ H x v M vu lo hi f Q I rx hs D Y ⟨a,xs,e,J,O,λp j=>q p _<|.mk' j _⟩
def rStrB(f:Str->Bool):V->List V->Hp->VK->Prop:=λx vs H Q=>∃z,x=.str z/\vs=[]/\Q (.bl<|f z) H
end
section
variable {K:Frag}{h:Heap}{mg:Y1}
theorem glt_mk(X:K.In h)(Gq:h.Ns ir mg)(a:PySem.W.nsIn K ir x=G (G 42))
  (l:K.lookup p=G ⟨.type "tuple",T,.seq its n,f⟩) (z:its.size<=ii) (r:Vals xs its.toList):∃q,GlV mg x (.ref q)/\∀H,SqT K H q xs :=
 ⟨p,⟨_,PySem.W.mg_of X Gq a,R⟩,λH=>.inr ⟨_,its,n,l,R,R,z,r⟩⟩
end
section
variable {X:Cx}(K:Frag)
theorem zpz(h:X.K=K:=by rfl):OpR X (iw .In) (rIn K Fa):=h▸zso
theorem zi3(h:X.K=K:=by rfl):OpR X (iw .NotIn) (rIn K N):=h▸zk4
theorem zap(h:X.K=K:=by rfl):IxR X (rIxL K):=h▸ix_list
theorem zai(h:X.K=K:=by rfl):IxR X (rIxT K):=h▸ix_tup
theorem zrq(h:X.K=K:=by rfl):SlR X (rSlLN K):=h▸zvq
theorem zvp(h:X.K=K:=by rfl):SlR X (rSlTN K):=h▸sl_tupN
def rLen:List V->Hp->VK->Prop:=λxs H Q=>∃p ys,xs=[.ref p]/\(SqL K H p ys\/SqT K H p ys)/\Q (.int<|List.length ys) H
theorem zju(h:X.K=K:=by rfl):CallR X 076 (rLen K):=h▸zlz
def rAll:List V->Hp->VK->Prop:=λxs H Q=>∃(p:Ad) (bs:List Bool),xs=[.ref p]/\SqL K H p 067/\Q (.bl<|bs.all id) H
theorem zl1(hc:X.calm=N)(h:X.K=K:=by rfl):CallR X (.builtin "all") (rAll K):=h▸zno hc
def rAny:List V->Hp->VK->Prop:=λxs H Q=>∃(p:Ad) (bs:List Bool),xs=[.ref p]/\SqL K H p 067/\Q (.bl<|bs.any id) H
def rSum:List V->Hp->VK->Prop:=λxs H Q=>∃(p:Ad) (ns:List Int),xs=[.ref p]/\SqL K H p 057/\Q (.int ns.sum) H
theorem zc6(hc:X.calm=N)(h:X.K=K:=by rfl):CallR X (.builtin "sum") (rSum K):=h▸zlx hc
def rListOf:List V->Hp->VK->Prop:=λxs H Q=>∃p ys,xs=[.ref p]/\(SqL K H p ys\/SqT K H p ys)/\∀l H',New H l 75 H'->Q (.ref l) H'
theorem op_eqSK(U:X.A.units+8<cLine)(h:X.K=K:=by rfl):OpR X (iw .Eq) (rEqS K):=h▸op_eqS U
theorem op_neSK(U:X.A.units+8<cLine)(h:X.K=K:=by rfl):OpR X (iw .NotEq) (rNeS K):=h▸op_neS U
theorem za5(C:PE X l tl)(h:X.K=K:=by rfl):PI X r l (iList K tl):=h▸pi_list C
theorem zb4(C:PE X l tl)(h:X.K=K:=by rfl):PI X r l (iTup K tl):=h▸pi_tup C
variable {o e:Expr}{es:List Expr}{to:TE}{t:TA}{name:Str}{apos cpos:Pos}{T id:String}{r:V->List V->Hp->VK->Prop}
theorem pe_bm0K(pa:PlainAttrs T)(slot:Slot T name id)(f:typeOf 060=pure (.type "method_descriptor"))(M:MtR X id r)(Y:PE X o to)(h:X.K=K:=by rfl)
  (c:attributeBase o name X.env (eval o X.env)=eval o X.env:=by rfl) (d:107=N:=by rfl):PE X (.Call (.Attribute o name apos) [] [] cpos) (tBM0 K T r to):=h▸pe_bm0 pa slot f M Y c d
theorem zbz(pa:PlainAttrs T)(slot:Slot T name id)(f:typeOf 060=pure (.type "method_descriptor"))(M:MtR X id r)(C:PE X o to)(g:PA X (e::es) t)(h:X.K=K:=by rfl)
  (c:attributeBase o name X.env (eval o X.env)=eval o X.env:=by rfl)
  (i:((iN cpos<|im (e::es) X.env).all (λx=>!x.1)&&(173).all (λx=>x.1.isSome)
   && decide ((e::es).length+([]:List jN).length+(if([]:List jN).isEmpty then 0 else 1)<30))=N:=by rfl)
  (d:107=N:=by rfl) (Y:notStar e=N:=by rfl) (h2:es.all notStar=N:=by rfl) :
  PE X (.Call (.Attribute o name apos) (e::es) [] cpos) (tBM K T r to t):=h▸pe_bm pa slot f M C g c i d (zar Y) (za7 h2)
end
section
variable {P:ik}{w:World}{A:io}{E:Y0}{s:ig}
theorem zm2(st:s.heap.IsTupleIter j t k)(tp:s.heap.IsTuple t its)(L:its[k]?=G y)
  (q:∀h',h'.IsTupleIter j t (k+1)->Heap.SameBut j s.heap h'->Q y {s with heap:=h'}):wpAny (model P w) A (Builtin.SmallTypes.nextOf<|.ref j) Q E s:=by
 let(r,d,f,c):=id st;let(i,g,_,l,u):=tp;unfold Builtin.SmallTypes.nextOf;apply ia<|i0 (name:=Str.ofString "__next__") st.typeIs F.slot_tuple_iterator_next (i7 F.slot_tuple_iterator_next st.typeIs F.entry_tuple_iterator_next ?_<|F.args_tuple_iterator_next_1 _);change wpAny _ _ (field (.ref j) 0>>=_) _ _ s;apply ia<|iu d c (x:=.ref t) R ?_;change wpAny _ _ (if(Va.ref t==Va.none)=N then _ else _) _ _ s;rw[Xp<|show¬(Va.ref t==Va.none)=N from y0k];change wpAny _ _ (field (.ref j) 1>>=_) _ _ s;apply ia<|iu d c (x:=.int k 0) R ?_;change wpAny _ _ (seqItems? (.ref t)>>=_) _ _ s;apply ia<|iH g u ?_;simp only[y2r,L];apply ia<|jD d c 05 (ib ⟨y,R,ib<|q _ ?_ (Heap.SameBut.update ..)⟩);show⟨_,y1o _ d<|Obj.isFreed_of_fields (Obj.data_mapFields c _),(Obj.cls_mapFields ..).trans f,by rw[Obj.data_mapFields c];simp[iF]⟩
theorem zqf(p:A.handled=B)(st:s.heap.IsTupleIter j t k)(tp:s.heap.IsTuple t its)(L:its[k]?=B)
  (q:∀h' e,Heap.ExtBut j s.heap h'->186->E (.ref e) {s with heap:=h'}):wpAny (model P w) A (Builtin.SmallTypes.nextOf<|.ref j) Q E s:=by
 let(r,d,f,c):=id st;let(i,g,_,l,u):=tp;unfold Builtin.SmallTypes.nextOf;apply ia<|i0 (name:=Str.ofString "__next__") st.typeIs F.slot_tuple_iterator_next (i7 F.slot_tuple_iterator_next st.typeIs F.entry_tuple_iterator_next ?_<|F.args_tuple_iterator_next_1 _);change wpAny _ _ (field (.ref j) 0>>=_) _ _ s;apply ia<|iu d c (x:=.ref t) R ?_;change wpAny _ _ (if(Va.ref t==Va.none)=N then _ else _) _ _ s;rw[Xp<|show¬(Va.ref t==Va.none)=N from y0k];change wpAny _ _ (field (.ref j) 1>>=_) _ _ s;apply ia<|iu d c (x:=.int k 0) R ?_;change wpAny _ _ (seqItems? (.ref t)>>=_) _ _ s;apply ia<|iH g u ?_;simp only[y2r,L];apply ia<|jw (ia<|jD d c 05 ?_);change wpAny _ _ (newExc (.type "StopIteration") []>>=_) _ _ _;apply ia ?_;simp only[newExc,newTuple];apply ia<|iG ?_ (by size_fits);apply ia (m:=firstArgMember _ _)<|wpAny_of_eq (a:=Va.none) (by simp only[firstArgMember];rfl) ?_;apply iG ?_ (by size_fits);simp only[raiseNew];apply ia<|wpAny_handled ?_;rw[show A.in1.handled=B from p];apply ia<|ib (wpAny_throw<|q _ _ (((Heap.SameBut.update ..).extBut.push _).push _) ⟨_,y0h _ R,R⟩)
end
def IsSq(h:Heap)(l:Bool)(t:Ad)(its:Array Va):Prop:=cond l (h.IsList t its)<|h.IsTuple t its
noncomputable abbrev itn(l:Bool):String:=cond l "list_iterator" "tuple_iterator"
def IsSi(h:Heap)(l:Bool)(j t:Ad)(k:Nat):Prop:=∃o,h.get? j=G o/\o.cls=.type (itn l)/\o.data=.fields #[.ref t,.int k 0]
def SqB(K:Frag)(l:Bool)(H:Hp)(a:Ad)(xs:List V):Prop:=cond l (SqL K H a xs)<|SqT K H a xs
abbrev IsZipF(h:Heap)(z ti ro:Ad)(M f1:Va):Prop:=h.get? z=G {cls:=.type "zip",dict:=B,data:=.fields #[M,f1,.bool Fa,.ref ti,.ref ro],slots:=#[]}
theorem zqi(h:Q (s.heap.get? a) s):wpAny M A (loadIfAlive a) Q E s:=λ_ _ _=>h
structure ZipG(l1 l2:Bool)(h:Heap)(z ti ro j1 j2 t1 t2:Ad)(i:Nat):Prop where
 z:∃f0 f1,IsZipF h z ti ro f0 f1/\(f0=Va.none\/∃a:Ad,f0=iF a)
 ti:jE h ti (.ref j1)<|.ref j2
 ro:∃a b,jE h ro a b
 j1:IsSi h l1 j1 t1 i
 j2:IsSi h l2 j2 t2 i
section
variable {P:ik}{w:World}{A:io}{E:Y0}{s:ig}{h h':Heap}{l l1 l2:Bool}{z ti ro j1 j2 t1 t2:Ad}{i:Nat}{its its1 its2:Array Va}{a b j t:Ad}
theorem IsSq.at(x:IsSq h l t its)(k:∀o,h.get? t=G o->h'.get? t=G o):IsSq h' l t its:=by cases l<;>show let⟨o,e,r⟩:=x;⟨o,k o e,r⟩
theorem IsSq.ext(x:IsSq h l t its)(k:Heap.ExtBut b h h')(n:t≠b):IsSq h' l t its:=x.at λo e=>k t o n e
theorem IsSq.lt(x:IsSq h l t its):t<h.objs.size:=by cases l<;>show let⟨_,e,_⟩:=x;y0g e
theorem IsSi.at(x:IsSi h l j t i)(k:∀o,h.get? j=G o->h'.get? j=G o):IsSi h' l j t i:=let⟨o,e,r⟩:=x;⟨o,k o e,r⟩
theorem IsSi.ext(x:IsSi h l j t i)(k:Heap.ExtBut b h h')(n:j≠b):IsSi h' l j t i:=x.at λo e=>k j o n e
theorem zi4(st:IsSi s.heap l j t i)(tp:IsSq s.heap l t its)(L:its[i]?=G y)
  (q:∀h',IsSi h' l j t (i+1)->Heap.SameBut j s.heap h'->Q y {s with heap:=h'}):wpAny (model P w) A (Builtin.SmallTypes.nextOf<|.ref j) Q E s:=by
 cases l
 .exact zm2 st tp L q
 .exact wpAny_nextOf_list_item st tp L q
theorem zyy(p:A.handled=B)(st:IsSi s.heap l j t i)(tp:IsSq s.heap l t its)(L:its[i]?=B)
  (q:∀h' e,Heap.ExtBut j s.heap h'->186->E (.ref e) {s with heap:=h'}):wpAny (model P w) A (Builtin.SmallTypes.nextOf<|.ref j) Q E s:=by
 cases l
 .exact zqf p st tp L q
 .exact wpAny_nextOf_list_end p st tp L q
theorem it_sq(x:IsSq s.heap l t its)(q:Q 016 {s with heap:=s.heap.push {cls:=.type<|itn l,data:=.fields #[.ref t,.int 0 0]} }):wpAny (model P w) A (lf<|.ref t) Q E s:=by
 cases l
 .exact wpAny_pyIter_tuple x q
 .exact jg x q
theorem ZipG.move(Z:ZipG l1 l2 h z ti ro j1 j2 t1 t2 i)(k:∀c∈[z,ti,ro,j1,j2],∀o,h.get? c=G o->h'.get? c=G o):ZipG l1 l2 h' z ti ro j1 j2 t1 t2 i :=
 let⟨M,f1,H,r⟩:=Z.z;let⟨u,v,d⟩:=Z.ro
 ⟨⟨M,f1,k z 05 _ H,r⟩,k ti 05 _ Z.ti,⟨u,v,k ro 05 _ d⟩,Z.j1.at λo e=>k j1 05 o e,Z.j2.at λo e=>k j2 05 o e⟩
theorem ZipG.there(Z:ZipG l1 l2 h z ti ro j1 j2 t1 t2 i):∀c∈[z,ti,ro,j1,j2],∃o,h.get? c=G o/\∀v,o.data ≠ .cell v:=λc hc=>by
 let(e,f1,H,r):=Z.z;let(u,v,d):=Z.ro;let(I,M,_,g):=Z.j1;let(Q,D,_,p):=Z.j2;simp only[y09,y0l,or_false]at hc;rcases hc with rfl|rfl|rfl|rfl|rfl
 .exact⟨_,H,λv q=>nomatch q⟩
 .exact⟨_,Z.ti,λv q=>nomatch q⟩
 .exact⟨_,d,λv q=>nomatch q⟩
 .exact⟨_,M,λv q=>by rw[g]at q;cases q⟩
 .exact⟨_,D,λv q=>by rw[p]at q;cases q⟩
theorem ZipG.lt(Z:ZipG l1 l2 h z ti ro j1 j2 t1 t2 i)(hc:c∈[z,ti,ro,j1,j2]):c<h.objs.size:=let⟨_,e,_⟩:=Z.there c hc;y0g e
theorem zhx(hz:IsZipF s.heap z ti ro M f1)(r:M=Va.none\/∃a:Ad,M=iF a)(q:∀b h' g1,IsZipF h' z ti ro M g1->Heap.SameBut z s.heap h'->Q b {s with heap:=h'}):
  wpAny 014 A (Builtin.SmallTypes.ownedTupleIsFree 019) Q E s:=by
 unfold Builtin.SmallTypes.ownedTupleIsFree;apply ia<|iu hz R (x:=M) R ?_;rcases r with rfl|⟨a,rfl⟩
 .exact ib<|q N s.heap f1 hz (Heap.SameBut.refl _ _)
 .change wpAny _ _ (loadIfAlive _>>=_) _ _ _;apply ia<|zqi ?_;cases s.heap.get? (Int.toNat (a:Int))with
  |none =>
   rw[Xq<|show(B:Option Obj).isNone=N from rfl];show ib<|q N s.heap f1 hz (Heap.SameBut.refl _ _)
  |some o =>
   rw[Xp<|show¬(G o:Option Obj).isNone=N from y0k];apply ia<|iu hz R (x:=f1) R ?_;by_cases c:(f1 !=Va.bool N)=N
   .rw[Xq c];show ia<|i6 hz 05 λh' J p=>ib<|q Fa h' (.bool N) J p
   .rw[Xp c];show ib<|q Fa s.heap f1 hz (Heap.SameBut.refl _ _)
theorem zq5{x y:Va}{Q:Y0}(D:jl z ti ro j1 j2 t1 t2)(Z:ZipG l1 l2 s.heap z ti ro j1 j2 t1 t2 i)(r:IsSq s.heap l1 t1 its1)(p2:IsSq s.heap l2 t2 its2)(J:its1[i]?=G x)(L:its2[i]?=G y)
  (q:∀h',ZipG l1 l2 h' z ti ro j1 j2 t1 t2 (i+1)->jE h' s.heap.objs.size x y->h'.objs.size=s.heap.objs.size+1->113->
   Q 016 {s with heap:=h'}):wpAny (model P w) A (Builtin.«zip.__next__» ⟨[.ref z],[]⟩) (λfin s'=>∃v,fin=.done (.ret v)/\Q v s') E s:=by
 let(f0,f1,H,hf):=Z.z;let(a,b,hro):=Z.ro;let off:∀{c},c∉[z,ti,ro,j1,j2]->c≠z/\c≠ro/\c≠j1/\c≠j2:=λh=>⟨λe=>h (by simp[e]),λe=>h (by simp[e]),λe=>h (by simp[e]),λe=>h<|by simp[e]⟩;change wpAny _ _ (field 019 2>>=_) _ _ _;apply ia<|iu H R (x:=.bool Fa) R ?_;change wpAny _ _ (field 019 3>>=_) _ _ _;apply ia<|iu H R (x:=.ref ti) R ?_;apply ia<|iH Z.ti R ?_;change wpAny _ _ (Builtin.SmallTypes.ownedTupleIsFree 019>>=_) _ _ _;apply ia<|zhx H hf λfree h0 g1 z0 I=>?_;cases free with
 |true =>
  rw[Xq rfl];apply ia<|jw ?_;apply ia<|iu z0 R (x:=.ref ro) R ?_;apply ia<|i6 z0 05 λg hza C=>?_;replace hza:IsZipF g z ti ro .ellipsis g1:=hza;let C:=I.trans C;apply ia ?_;simp only[List.zipIdx_cons,List.zipIdx_nil,y27,y2s];apply ia<|ia (j3 ?_);change wpAny _ _ 170 _ _ _;apply ia<|zi4 (Z.j1.ext C.extBut D.i1z) (r.ext C.extBut D.l1z) J λU b1 u=>ib ?_;let rob:jE U ro a b:=u.extBut _ _ D.TOi1<|C.extBut _ _ D.TOz hro;apply ia<|iH rob R ?_;apply ia<|wpAny_updateSeq_pair rob λhc roc Y=>?_;replace roc:jE hc ro x b:=roc;apply ia<|j4 (ib ?_);apply ia<|ia (j3 ?_);change wpAny _ _ (Builtin.SmallTypes.nextOf (.ref j2)>>=_) _ _ _;apply ia<|zi4 (((Z.j2.ext C.extBut D.i2z).ext u.extBut D.i12.symm).ext Y.extBut D.TOi2.symm) (((p2.ext C.extBut D.l2z).ext u.extBut D.l2i1).ext Y.extBut D.l2TO) L λhd p T=>ib ?_;let rod:jE hd ro x b:=T.extBut _ _ D.TOi2 roc;apply ia<|iH rod R ?_;apply ia<|wpAny_updateSeq_pair rod λd roe k9=>?_;replace roe:jE d ro x y:=roe;apply ia<|j4 (ib<|ib ?_);apply ia<|iH roe R ?_;apply ia<|jQ ?_;let sz:d.objs.size=s.heap.objs.size:=by rw[k9.1,T.1,Y.1,u.1,C.1]
  let ze:IsZipF d z ti ro .ellipsis g1:=k9.extBut _ _ D.TOz.symm<|T.extBut _ _ D.i2z.symm (Y.extBut _ _ D.TOz.symm<|u.extBut _ _ D.i1z.symm hza);let ke:∀c o,c≠z/\c≠ro/\c≠j1/\c≠j2->s.heap.get? c=G o->d.get? c=G o:=λc o ⟨M,c2,c3,c4⟩ e =>
   k9.extBut _ _ c2 (T.extBut _ _ c4<|Y.extBut _ _ c2 (u.extBut _ _ c3<|C.extBut _ _ M e))
  let zlt:z<d.objs.size:=y0g ze;change wpAny _ _ (Builtin.SmallTypes.ownedTupleHandOut 019 (.ref d.objs.size)>>=_) _ _ _;apply ia ?_;unfold Builtin.SmallTypes.ownedTupleHandOut;apply ia<|i6 (y03 _ ze) 05 λhg zg hsg=>?_;replace zg:IsZipF hg z ti ro (iF d.objs.size) g1:=zg;apply i6 zg 05 λO zk hsk=>?_;let up:∀c o,c≠z->d.get? c=G o->O.get? c=G o:=λc o M e=>hsk.extBut _ _ M<|hsg.extBut _ _ M (y03 _ e);let f:jE O d.objs.size x y:=hsk.extBut _ _ (y2d zlt)<|hsg.extBut _ _ (y2d zlt) (y0h _ R);let k8:O.objs.size=d.objs.size+1:=by rw[hsk.1,hsg.1,y1g]
  rw[sz]at f k8;apply ib ⟨_,R,?_⟩;change Q (.ref d.objs.size) _;rw[sz];show q O ⟨⟨_,_,zk,.inr ⟨_,R⟩⟩,up _ _ D.TIz<|ke _ _ ⟨D.TIz,D.TITO,D.TIi1,D.TIi2⟩ Z.ti,⟨_,_,up _ _ D.TOz roe⟩,(((b1.ext Y.extBut D.TOi1.symm).ext T.extBut D.i12).ext k9.extBut D.TOi1.symm).at λo e=>up _ o D.i1z e,(p.ext k9.extBut D.TOi2.symm).at λo e=>up _ o D.i2z e⟩ f k8
   λc o n e=>up c o (off n).1<|ke c o (off n) e
 |false =>
  rw[Xp y0k];apply ia ?_;rw[←Array.forIn_toList];simp only[y27,y2s];apply ia<|ia (iy ?_);change wpAny _ _ 170 _ _ _;apply ia<|zi4 (Z.j1.ext I.extBut D.i1z) (r.ext I.extBut D.l1z) J λU b1 u=>ib ?_;apply ib ?_;apply ia<|ia (iy ?_);change wpAny _ _ (Builtin.SmallTypes.nextOf (.ref j2)>>=_) _ _ _;apply ia<|zi4 ((Z.j2.ext I.extBut D.i2z).ext u.extBut D.i12.symm) ((p2.ext I.extBut D.l2z).ext u.extBut D.l2i1) L λhd p T=>ib ?_;apply ib<|ib ?_;apply ia<|jQ ?_ (show(2:Nat)<=ii by decide);let sz:hd.objs.size=s.heap.objs.size:=by rw[T.1,u.1,I.1]
  let f:jE (hd.push {cls:=.type "tuple",data:=.seq #[x,y]}) hd.objs.size x y:=y0h _ rfl;let k8:(hd.push {cls:=.type "tuple",data:=.seq #[x,y]}).objs.size=hd.objs.size+1:=y1g ..;rw[sz]at f k8;apply ib ⟨_,R,?_⟩;change Q (.ref hd.objs.size) _;rw[sz];let ke:∀c o,c≠z/\c≠j1/\c≠j2->s.heap.get? c=G o->(hd.push {cls:=.type "tuple",data:=.seq #[x,y]}).get? c=G o:=λc o n e =>
   y03 _ (T.extBut _ _ n.2.2<|u.extBut _ _ n.2.1 (I.extBut _ _ n.1 e))
  show q _ ⟨⟨_,_,y03 _<|T.extBut _ _ D.i2z.symm (u.extBut _ _ D.i1z.symm z0),hf⟩,ke _ _ ⟨D.TIz,D.TIi1,D.TIi2⟩ Z.ti,⟨_,_,ke _ _ ⟨D.TOz,D.TOi1,D.TOi2⟩ hro⟩,(b1.ext T.extBut D.i12).at λo e=>y03 _ e,p.at λo e=>y03 _ e⟩ f k8
   λc o n e=>ke c o ⟨(off n).1,(off n).2.2⟩ e
theorem zyh(p:A.handled=B)(D:jl z ti ro j1 j2 t1 t2)(Z:ZipG l1 l2 s.heap z ti ro j1 j2 t1 t2 i)(r:IsSq s.heap l1 t1 its1)(J:its1[i]?=B)
  (q:∀h' e,113->186->E (.ref e) {s with heap:=h'}):wpAny (model P w) A (Builtin.«zip.__next__» ⟨[.ref z],[]⟩) Q E s:=by
 let(M,f1,H,hf):=Z.z;change wpAny _ _ (field 019 2>>=_) _ _ _;apply ia<|iu H R (x:=.bool Fa) R ?_;change wpAny _ _ (field 019 3>>=_) _ _ _;apply ia<|iu H R (x:=.ref ti) R ?_;apply ia<|iH Z.ti R ?_;change wpAny _ _ (Builtin.SmallTypes.ownedTupleIsFree 019>>=_) _ _ _;apply ia<|zhx H hf λfree h0 g1 v I=>?_;cases free with
 |true =>
  rw[Xq rfl];apply ia<|jw ?_;apply ia<|iu v R (x:=.ref ro) R ?_;apply ia<|i6 v 05 λg f C=>?_;replace f:IsZipF g z ti ro .ellipsis g1:=f;let C:=I.trans C;apply ia ?_;simp only[List.zipIdx_cons,List.zipIdx_nil,y27,y2s];apply ia<|ia (j3 ?_);change wpAny _ _ 170 _ _ _;apply ia<|zyy p (Z.j1.ext C.extBut D.i1z) (r.ext C.extBut D.l1z) J λU e u ⟨oe,L,y⟩=>?_;let T:IsZipF U z ti ro .ellipsis g1:=u _ _ D.i1z.symm f;let O:e≠z:=λd=>by
   subst d;rw[T]at L;cases L;simp at y
  apply i6 T 05 λhc _ Y=>?_;show q _ _ (λc o n x=>Y.extBut _ _ (λe=>n<|by simp[e])<|u _ _ (λe=>n<|by simp[e]) (C.extBut _ _ (λe=>n<|by simp[e]) x)) ⟨oe,Y.extBut _ _ O L,y⟩
 |false =>
  rw[Xp y0k];apply ia ?_;rw[←Array.forIn_toList];simp only[y27,y2s];apply ia<|ia (iy ?_);change wpAny _ _ 170 _ _ _;apply ia<|zyy p (Z.j1.ext I.extBut D.i1z) (r.ext I.extBut D.l1z) J λU e u ex=>?_;show q _ _ (λc o n x=>u _ _ (λe=>n<|by simp[e])<|I.extBut _ _ (λe=>n<|by simp[e]) x) ex
theorem zq4(D:jl z ti ro j1 j2 t1 t2)(Z:ZipG l1 l2 s.heap z ti ro j1 j2 t1 t2 i)(r:IsSq s.heap l1 t1 its1)(O:IsSq s.heap l2 t2 its2)(J:its1[i]?=G x)(L:its2[i]?=G y)
  (q:∀h',ZipG l1 l2 h' z ti ro j1 j2 t1 t2 (i+1)->jE h' s.heap.objs.size x y->h'.objs.size=s.heap.objs.size+1->113->
   Q (G 016) {s with heap:=h'}):wpAny (model P w) A (j5<|.ref z) Q E s:=by
 let v:s.TypeIs 019 "zip":=let⟨_,_,H,_⟩:=Z.z;⟨_,H,R⟩;unfold j5;show ia<|jJ (i0 (name:=Str.ofString "__next__") v F.slot_zip_next<|i7 F.slot_zip_next v F.entry_zip_next (zq5 D Z r O J L λh' a b c d=>ib<|q h' a b c d) (F.args_zip_next_1 _))
theorem zyg(p:A.handled=B)(D:jl z ti ro j1 j2 t1 t2)(Z:ZipG l1 l2 s.heap z ti ro j1 j2 t1 t2 i)(r:IsSq s.heap l1 t1 its1)(J:its1[i]?=B)
  (q:∀h',113->Q B {s with heap:=h'}):wpAny (model P w) A (j5<|.ref z) Q E s:=by
 let v:s.TypeIs 019 "zip":=let⟨_,_,H,_⟩:=Z.z;⟨_,H,R⟩;unfold j5;apply ia<|jJ (i0 (name:=Str.ofString "__next__") v F.slot_zip_next<|i7 F.slot_zip_next v F.entry_zip_next (zyh p D Z r J λh' e k ⟨x,L,y⟩=>?_) (F.args_zip_next_1 _));show ia<|jL (T:="StopIteration") (b:=N) ⟨x,L,y⟩ isSubtype_stop (ib<|q _ k)
theorem go_zip(Z:ZipG l1 l2 s.heap z ti ro j1 j2 t1 t2 i)(D:jl z ti ro j1 j2 t1 t2)
  (q:∀h',ZipG l1 l2 h' z ti ro j1 j2 t1 t2 i->Heap.SameBut z s.heap h'->Q () {s with heap:=h'}):wpAny (model P w) A (iX (.Tuple c y pos) (.ref z)<|.ref T) Q E s:=by
 let(M,f1,H,r):=Z.z;unfold iX;apply ia<|wpAny_load H ?_;change wpAny _ _ (if _=N then _ else _) Q E s;split
 .refine ia<|jw ?_;change wpAny _ _ (setField 019 0 .none) Q E s;show i6 H 05 λh' J p=>q h' ⟨⟨_,_,J,.inl R⟩,p.extBut _ _ D.TIz Z.ti,let⟨u,v,e⟩:=Z.ro;⟨u,v,p.extBut _ _ D.TOz e⟩,Z.j1.ext p.extBut D.i1z,Z.j2.ext p.extBut D.i2z⟩ p
 .exact ib<|q _ Z (Heap.SameBut.refl _ _)
theorem zoz(Z:ZipG l1 l2 s.heap z ti ro j1 j2 t1 t2 i)(h:Q 019 s):wpAny 014 A (lf 019) Q E s:=by
 let v:s.TypeIs 019 "zip":=let⟨_,_,H,_⟩:=Z.z;⟨_,H,R⟩;apply wpAny_pyIter_slot v F.slot_zip_iter<|i7 F.slot_zip_iter v F.entry_zip_iter ?_ (F.args_zip_iter_1 _);change wpAny _ _ (ret 019) _ _ s;show ib ⟨_,R,"zip",_,v,F.slot_zip_next.lookup,h⟩
end
abbrev zt1(l:Bool)(h:Heap)(a:Ad):Heap:=h.push {cls:=.type<|itn l,data:=.fields #[.ref a,.int 0 0]}
abbrev zt3(l1 l2:Bool)(h:Heap)(a b:Ad):Heap:=(zt1 l2 (zt1 l1 h a) b).push {cls:=.type "tuple",data:=.seq #[.ref h.objs.size,.ref (zt1 l1 h a).objs.size]}
abbrev zt4(l1 l2:Bool)(h:Heap)(a b:Ad):Heap:=(zt3 l1 l2 h a b).push {cls:=.type "tuple",data:=.seq #[.none,.none]}
abbrev zt5(l1 l2:Bool)(h:Heap)(a b:Ad):Heap:=(zt4 l1 l2 h a b).push {cls:=.type "zip",data:=.fields #[.none,.bool Fa,.bool Fa,.ref (zt1 l2 (zt1 l1 h a) b).objs.size,.ref (zt3 l1 l2 h a b).objs.size]}
theorem zt_new(l1 l2:Bool)(a b:Ad)(xs ys:Array Va):Meets (Builtin.«zip.__new__» ⟨[.type "zip",.ref a,.ref b],[]⟩) (λ_ Rq s=>IsSq s.heap l1 a xs/\IsSq s.heap l2 b ys/\Rq (.ok<|.ret (.ref (zt4 l1 l2 s.heap a b).objs.size)) {s with heap:=zt5 l1 l2 s.heap a b}) :=
 .of_wp λprog w A Rq s h=>by
  let(hp,g,d,tk,os):=s;let(ha,hb,h):=h;let hsub:=sub_zip;let hA:IsSq (Shared.heap ⟨hp,g,d,tk,os⟩) l1 a xs:=ha;let hB:IsSq (Shared.heap ⟨hp.push {cls:=.type<|itn l1,data:=.fields #[.ref a,.int 0 0]},g,d,tk,os⟩) l2 b ys:=hb.at λo e=>y03 _ e
  wp_walk using it_sq hA,it_sq hB
  show⟨_,R,h⟩
theorem zl7(g:IsSq s.heap l1 a xs)(U:IsSq s.heap l2 b ys)
  (q:∀h',IsZip h' (s.heap.objs.size+4) (s.heap.objs.size+2) (s.heap.objs.size+3) .none->ZipG l1 l2 h' (s.heap.objs.size+4) (s.heap.objs.size+2) (s.heap.objs.size+3) s.heap.objs.size 051 a b 0->h'.objs.size=s.heap.objs.size+5->(∀c o,s.heap.get? c=G o->h'.get? c=G o)->Q (.ref<|s.heap.objs.size+4) {s with heap:=h'}) :
  wpAny 014 A (call (.type "zip") [.ref a,.ref b]) Q E s:=by
 apply callType_new F.called_zip 06 (F.typeCall_zip_2 _ _) (F.newCall_zip_2 _ _) (λobj=>F.args_object_init_3 obj _ _) F.entry_zip_new (zt_new l1 l2 a b xs ys) ⟨g,U,?_⟩;let s1:(zt1 l1 s.heap a).objs.size=s.heap.objs.size+1:=y1g ..;let s2:(zt1 l2 (zt1 l1 s.heap a) b).objs.size=s.heap.objs.size+2:=by rw[y1g,s1]
 let p:(zt3 l1 l2 s.heap a b).objs.size=s.heap.objs.size+3:=by rw[y1g,s2]
 let f:(zt4 l1 l2 s.heap a b).objs.size=s.heap.objs.size+4:=by rw[y1g,p]
 let s5:(zt5 l1 l2 s.heap a b).objs.size=s.heap.objs.size+5:=by rw[y1g,f]
 let k5:(zt5 l1 l2 s.heap a b).get? (zt4 l1 l2 s.heap a b).objs.size=G _:=y0h _ rfl;let up:∀c o,(zt3 l1 l2 s.heap a b).get? c=G o->(zt5 l1 l2 s.heap a b).get? c=G o:=λc o e=>y03 _<|y03 _ e;let d:(zt5 l1 l2 s.heap a b).get? (zt3 l1 l2 s.heap a b).objs.size=G _:=y03 _<|y0h _ R;let k3:=up _ _<|y0h _ R;let k2:=up (zt1 l1 s.heap a).objs.size _<|y03 _ (y0h _ R);let k1:=up s.heap.objs.size _<|y03 _ (y03 _<|y0h _ R);rw[s2,p,f]at k5;rw[s1,s2]at k3;rw[p]at d;rw[s1]at k2;change _/\_;rw[f];show⟨⟨_,k5,R⟩,q _ k5 ⟨⟨_,_,k5,.inl R⟩,k3,⟨_,_,d⟩,⟨_,k1,R,R⟩,⟨_,k2,R,R⟩⟩ s5 λc o x=>up _ _<|y03 _ (y03 _<|y03 _ x)⟩
section
variable {X:Cx}{pins:Y2}{σ:St}{H:Hp}{s:ig}{h':Heap}
theorem Inv.turnedL{t':Nat}{L:List Ad}(I:02 H s)(k:∀b o,b∉L->s.heap.get? b=G o->h'.get? b=G o)(y:∀b∈L,FpOk X pins H b):02 H {s with heap:=h',toks:=t'}:=by
 let g:∀b u,H b=G u->b∉L:=λb u e z=>by rw[(y b z).1]at e;cases e
 apply I.step (g':=s.gens) (d':=s.drawn) (ch:=L) (λb U=>?_) (λb o _ _ hc e _=>k b o hc e) (λb o _ _ hc e _=>⟨o.slots,k b o hc e⟩) (λ_ _ _ _ n=>n)
  (λb o hc e=>⟨o,k b o hc e⟩) (λ_ _ e=>e) (λ_ _ _ e=>e) (λ_ _ _ e=>e) (λm M=>?_) (λb u e=>?_) I.bare
 .let(_,f1,_,D,A,a):=y b U;show⟨D,f1,A,a⟩
 .let(o,i,l,Y,r):=M;show⟨o,i,l,k _ o (λz=>(y _ z).2.1 R) Y,r⟩
 .refine(I.hok b u e).stay (λc v hc q=>k c v ?_ q) (λ_ q=>q) (λ_ _ _ _ _ q=>q) λ_ _ q=>q;rcases hc with z|z
  .rw[z];show g b u e
  .exact g c _ z
theorem Inv.turnedNew{t':Nat}{L:List Ad}{p:Ad}{o:HO}(I:02 H s)(k:∀b u,b∉L->s.heap.get? b=G u->h'.get? b=G u)(y:∀b∈L,FpOk X pins H b)(l:s.heap.objs.size<=p)(new:ObjOk X.prog X.w (upd H p o) h' p o)
  (C:∀b∈L,∃u,h'.get? b=G u):02 (upd H p o) {s with heap:=h',toks:=t'}:=by
 let E:H p=B:=I.hok.fresh l;let g:∀b u,H b=G u->b∉L:=λb u e z=>by rw[(y b z).1]at e;cases e
 let ne:∀b u,H b=G u->upd H p o b=G u:=λb u e=>by rw[zaj<|zau e E];show e
 apply I.step (g':=s.gens) (d':=s.drawn) (ch:=L) (λb U=>?_) (λb u _ _ hc e _=>k b u hc e) (λb u _ _ hc e _=>⟨u.slots,k b u hc e⟩) (λb u _ e z=>?_)
  (λb u hc e=>⟨u,k b u hc e⟩) (λb xs e=>ne b _ e) (λb ob u e=>ne b _ e) (λb _ _ e=>ne b _ e) (λm M=>?_) (λb u e=>?_) I.bare
 .let(_,f1,_,D,A,a):=y b U;show⟨D,f1,A,a⟩
 .rw[zaj<|y0m (y0r (y0g e) l)];show z
 .let(ob,i,O,Y,r):=M;show⟨ob,i,O,k _ ob (λz=>(y _ z).2.1 R) Y,r⟩
 .by_cases U:b=p
  .subst U;rw[zat]at e;cases e;show new
  .rw[zaj U]at e;apply(I.hok b u e).stay (λc v hc q=>k c v ?_ q) (λc q=>ne c _ q) (λc _ _ _ _ q=>ne c _ q) λc xs q=>ne c _ q;rcases hc with z|z
   .rw[z];show g b u e
   .exact g c _ z
end
section
variable {X:Cx}{pins:Y2}{σ:St}{H H':Hp}{s:ig}{l:Bool}{a:Ad}{xs ys:List V}
theorem Inv.sq(I:02 H s)(h:SqB X.K l H a xs):∃its:List Va,Vals xs its/\IsSq s.heap l a its.toArray:=by
 cases l
 .exact let⟨its,r,p,_⟩:=I.tuple h;⟨its,r,p⟩
 .exact let⟨its,r,p,_⟩:=I.list h;⟨its,r,p.isList⟩
theorem Inv.sq_inj(I:02 H s)(h:SqB X.K l H a xs)(h':SqB X.K l H a ys):xs=ys:=by
 cases l
 .exact I.tuple_inj h h'
 .exact I.list_inj h h'
theorem zle(hc:c∈[n+4,n+2,n+3,n,n+1]):n<=c:=by
 simp only[y09,y0l,or_false]at hc;omega
theorem star2{a b:Expr}{env:Env}(Y:notStar a=N)(h2:notStar b=N):im [a,b] env=[(Fa,eval a env),(Fa,eval b env)]:=by rw[zar Y,zar h2,starEach.eq_def]
end
noncomputable def ItB(K:Frag)(l1 l2:Bool)(a b:Ad):It :=
 ⟨λi H=>∃xs ys x y,SqB K l1 H a xs/\SqB K l2 H b ys/\xs[i]?=G x/\ys[i]?=G y,
  λi H v H'=>∃p x y,v=.ref p/\New H p 050 H'/\(∀xs,SqB K l1 H a xs->xs[i]?=G x)/\∀ys,SqB K l2 H b ys->ys[i]?=G y,
  λi H=>∃xs ys,SqB K l1 H a xs/\SqB K l2 H b ys/\xs.length<=i⟩
theorem zvk{P:ik}{w:World}{K:Frag}{l1 l2:Bool}{elts:List Expr}{x1}{tpos:Pos}(z ti ro j1 j2 a b:Ad)(D:jl z ti ro j1 j2 a b):
  Turn P w K 053 (ItB K l1 l2 a b) [z,ti,ro,j1,j2] z (λi h=>ZipG l1 l2 h z ti ro j1 j2 a b i) where
 mem:=by simp
 obj:=λi h st=>st.there
 keep:=λi h h' st k=>st.move k
 item:=by
  intro X g O Q hc i pins s σ H E I j st hg;subst g O Q;let(xs,ys,x,y,J,L,ex,M):=hg;let(bv,r1,r):=I.sq J;let(its2,T,l):=I.sq L;let(u,U,ru):=r1.get ex;let(v,hv,d):=T.get M;apply zq4 D st r l (x:=u) (y:=v) (by simpa using U) (by simpa using hv) λY Z1 q1 sz1 k1=>⟨_,R,?_⟩;apply go_zip Z1 D λh2 p sb2=>?_;let f:∀c∈[z,ti,ro,j1,j2],c≠s.heap.objs.size:=λc hc=>y0m<|st.lt hc;let A:02 (upd H s.heap.objs.size 050) {s with heap:=h2,toks:=s.toks}:=I.turnedNew (λc o hc e=>sb2.extBut _ _ (λq=>hc<|by simp[q])<|k1 c o hc e) j 43
   ⟨zad 05,[u,v],.cons ru<|.cons d .nil,⟨_,sb2.extBut _ _ (Ne.symm<|f z 05) q1,R,_,R⟩⟩ λc hc=>let⟨o,e,_⟩:=p.there c hc;⟨o,e⟩
  apply⟨.ref s.heap.objs.size,_,A,R,⟨_,x,y,R,.mk' I.fresh _,λws O=>by rw[I.sq_inj O J];show ex,λws O=>by rw[I.sq_inj O L];show M⟩,p,λc hc=>?_⟩;rw[zaj<|f c hc];show(j c hc).1
 done:=by
  intro X g O Q hc i pins s σ H E I j st hg;subst g O Q;let(xs,ys,J,L,C):=hg;let(bv,r1,r):=I.sq J;show zyg 026 D st r (by simpa[←r1.length]using C) λh' k=>⟨R,I.turnedL (t':=s.toks) k j⟩
 self:=λ_ _ _ _ _ st h=>zoz st h
def iZB(K:Frag)(l1 l2:Bool)(A:TA):TI:=λσ H Rq=>A σ H λvs H1=>∃a b,vs=[.ref a,.ref b]/\(∃xs,SqB K l1 H1 a xs)/\(∃ys,SqB K l2 H1 b ys)/\Rq (ItB K l1 l2 a b) H1
theorem zr5{X:Cx}{l1 l2:Bool}{elts:List Expr}{x1}{tpos:Pos}{a b:Expr}{A:TA}{p pos:Pos}(y:Gl X "zip")(M:X.mg "zip"=B)(ha:PA X [a,b] A)(Y:notStar a=N)(h2:notStar b=N):PI X 053 119 (iZB X.K l1 l2 A):=by
 intro pins s σ H Rq I h;let j:im [b] X.env=[(Fa,eval b X.env)]:=by rw[zar h2,starEach.eq_def]
 apply Call_<|zc8 I y M boot_zip (PyProof.Rows.callWith_type1 (thn 091 λus s1 zz=>ex5 zz λvs H1 I1 r1 q1=>?_) (by rw[star2 Y h2,j])<|by rw[j];rfl);let(r,l,e,(xs,J),(ys,L),q):=q1;subst e;let(u,v,rfl,f,d):=vals2 r1;cases(show u=Va.ref r from f);cases(show v=Va.ref l from d);let(w,_,O):=I1.sq J;let(Q,_,C):=I1.sq L;apply zl7 O C λh' _ Z sz k=>zoz Z ?_;show⟨_,[s1.heap.objs.size+4,s1.heap.objs.size+2,s1.heap.objs.size+3,s1.heap.objs.size,s1.heap.objs.size+1],_,_,H1,R,I1.kept (t':=s1.toks) k,zvk _ _ _ _ _ r l<|zipApart_new O.lt C.lt,Z,λc hc=>I1.fpOk (zle hc)<|I1.hok.fresh (zle hc),q⟩
noncomputable def Itz(K:Frag)(a b:Ad):It :=
 ⟨λi H=>∃xs ys x y,SqT K H a xs/\SqT K H b ys/\xs[i]?=G x/\ys[i]?=G y,
  λi H v H'=>∃p x y,v=.ref p/\New H p 050 H'/\(∀xs,SqT K H a xs->xs[i]?=G x)/\∀ys,SqT K H b ys->ys[i]?=G y,
  λi H=>∃xs ys,SqT K H a xs/\SqT K H b ys/\xs.length<=i⟩
def iZip(K:Frag)(A:TA):TI:=λσ H Rq=>A σ H λvs H1=>∃a b,vs=[.ref a,.ref b]/\(∃xs,SqT K H1 a xs)/\(∃ys,SqT K H1 b ys)/\Rq (Itz K a b) H1
theorem pi_zip{X:Cx}{elts:List Expr}{x1}{tpos:Pos}{a b:Expr}{A:TA}{p pos:Pos}(y:Gl X "zip")(M:X.mg "zip"=B)(g:PA X [a,b] A)(Y:notStar a=N:=by rfl)(h2:notStar b=N:=by rfl):PI X 053 119 (iZip X.K A):=zr5 (l1:=Fa) (l2:=Fa) y M g Y h2
theorem pi_zipK{X:Cx}(K:Frag){elts:List Expr}{x1}{tpos:Pos}{a b:Expr}{A:TA}{p pos:Pos}(y:Gl X "zip")(M:X.mg "zip"=B)(g:PA X [a,b] A)(h:X.K=K:=by rfl)(Y:notStar a=N:=by rfl)(h2:notStar b=N:=by rfl):
  PI X 053 119 (iZip K A):=h▸pi_zip y M g Y h2
theorem zeb{X:Cx}(K:Frag){i:List Expr}{k:Nat}{t:TGs}{n:Nat}{pos:Pos}(hc:X.calm=N)(h:PGs X i t)(Q:X.K=K:=by rfl)
  (E:(jn i X.env).length=n:=by rfl) (l:(jn i X.env).findIdx? (·.1)=B:=by rfl):PG X (.Tuple i k pos) (gTup K n t):=Q▸pg_tup hc h E l
section
variable {tn:List Str}{cp:Y6}{g:TG}{tif:TT}{te:TE}{σ0:St}{Q:VK}{H1:Hp}{K:Frag}{a b:Ad}{xs ys:List V}
theorem cz_map(S:St->Prop)(f:Nat->V)(E:xs.length<=1000)(C:xs.length=ys.length)(s:SqT K H1 a xs)(U:SqT K H1 b ys)(h0:S 056)
  (hs:∀D i σ H H' p x y,xs[i]?=G x->ys[i]?=G y->Same H1 H->H1 D=B->H D=G (.lst<|(048).map f)->S σ->New H p 050 H'->g 42 σ H' λd H2=>tif d H2 λc H3 =>
   if c=N then te d H3 λv H4=>CStep D xs.length i (λi j σ H=>Same H1 H/\S σ/\j=(048).map f) d v H4 else CSkip D xs.length i (λi j σ H=>Same H1 H/\S σ/\j=(048).map f) d H3)
  (hd:∀D H,H1 D=B->Same H1 H->H D=G (.lst<|(052).map f)->Q 71 H):cBody tn cp g tif te σ0 Q (Itz K a b) H1:=by
 apply zyd xs.length (λD i j σ H=>Same H1 H/\S σ/\j=(048).map f) (zad E) (λD I=>⟨zbb I _,h0,R⟩) (λD i j σ H I hi o p=>⟨xs,ys,xs[i],ys[i],p.1.seqT s,p.1.seqT U,by simp[hi],by simp[C▸hi]⟩)
  (λD j σ H I o p=>⟨xs,ys,p.1.seqT s,p.1.seqT U,y06 _⟩) ?_ ?_
 .rintro D i j σ H v H' I hi o q ⟨r,l,rfl⟩ ⟨p,x,y,rfl,e,ex,M⟩;show hs D i σ H H' p x y (ex _<|r.seqT s) (M _<|r.seqT U) r I o l e
 .rintro D j σ H I o q ⟨r,l,rfl⟩;show hd D H I r o
theorem znf{S:St->Prop}{f:Nat->V}{D:Ad}{i:Nat}{v:V}{d:St}{H4:Hp}(E:xs.length<=1000)(hi:i<xs.length)(I:H1 D=B)(p:H4 D=G (.lst<|(048).map f))(c:Same H1 H4)(s2:S d)(e:v=f i):
  CStep D xs.length i (λi j σ H=>Same H1 H/\S σ/\j=(048).map f) d v H4:=by
 apply cstep (zad E) hi p (by rw[y01,y18];show y06 _) ⟨c.wr I _,s2,?_⟩;rw[y2x,y0y,e];rfl
end
def DctK(K:Frag)(w:World)(a:Ad)(f:Str->Option V):Prop:=(a==iE)=Fa/\∃(i:Array DictEntry) (n:Nat),K.lookup a=G ⟨.type "dict",B,.dict i n,#[]⟩/\PySem.W.KeysLit w.params i.toList/\∀x,RelO (f x)<|jI Va.isStrOf i x
section
variable {X:Cx}(K:Frag)(w:World)
def rInD(neg:Bool):R2:=λx y H Q=>∃z a f,x=.str z/\y=.ref a/\DctK K w a f/\Q (.bl<|if neg then !(f z).isSome else(f z).isSome) H
theorem zfo(Q:X.K=K:=by rfl)(O:X.w=w:=by rfl):OpR X (iw .NotIn) (rInD K w N):=by
 subst Q O;infer_instance;let(z,a,f,rfl,rfl,(lo,i,n,C,d,L),q):=h;let(t,rfl):=rx;cases(show u=Va.ref a from ry);apply wpAny_notIn_of (strKind_is X.prog X.w z t) lo (PySem.W.mapOf_K (prog:=X.prog) I.kIn C d) ?_;rw[←(L z).isSome_eq];show⟨.bl _,H,I.tok _,R,q⟩
def rIxD:R2:=λx y H Q=>∃a z f v,x=.ref a/\y=.str z/\DctK K w a f/\f z=G v/\Q v H
theorem zy6(p:X.K=K:=by rfl)(O:X.w=w:=by rfl):IxR X (rIxD K w):=by
 subst p O;intro g l pins s σ H x y v u Q I rx ry h hs;let(a,z,f,r,rfl,rfl,(lo,i,n,C,d,L),e,q):=h;cases(show v=Va.ref a from rx);let(t,rfl):=ry;let M:=PySem.W.mapOf_K (prog:=X.prog) I.kIn C d;let(w',D,c):=RelO.some_of (v:=r) (o:=jI Va.isStrOf i z) (by rw[←e];show L z);show tail_any M.typeIs slot_dict_getitem.lookup (wpAny_getItem_of (strKind_is X.prog X.w z t) M D ⟨r,H,I.tok _,c,q⟩) hs
end
theorem zo5{f:Str->Option V}:∀{i:List DictEntry} {ps:List (Str×V)},i9 (λ(e:DictEntry) (p:Str×V)=>(∃t,e.key=.str p.1 t)/\RelV p.2 e.val) i ps->∀x,RelO (ps.lookup x) (jI Va.isStrOf i.toArray x)
 |_,_,.nil,x=>by simp[jI,RelO]
 |e::i,p::ps,.cons ⟨⟨t,l⟩,d⟩ r,x=>by
  let A:=zo5 (f:=f) r x;unfold jI at A ⊢;rw[List.find?_toArray]at A ⊢;rw[y0w,y28];by_cases h:x=p.1
  .subst h;let M:Va.isStrOf p.1 e.key=N:=by rw[l];simp[Va.isStrOf]
   rw[M,beq_self_eq_true];show d
  .let h':¬p.1=x:=λq=>h q.symm;let M:Va.isStrOf x e.key=Fa:=by rw[l];simp[Va.isStrOf,h']
   let D:(x==p.1)=Fa:=by simp[h]
   rw[M,D];show A
section
variable {tn:List Str}{cp:Y6}{g:TG}{tif:TT}{te:TE}{σ0:St}{Q:VK}{H1:Hp}{K:Frag}{a:Ad}{xs:List V}
theorem znh(S:St->Prop)(f:Nat->V)(E:xs.length<=1000)(u:SqL K H1 a xs)(h0:S 056)
  (hs:∀D i σ H x,i<xs.length->xs[i]?=G x->Same H1 H->H1 D=B->H D=G (.lst<|(048).map f)->S σ->g x σ H λd H2=>tif d H2 λc H3 =>
   if c=N then te d H3 λv H4=>CStep D xs.length i (λi j σ H=>Same H1 H/\S σ/\j=(048).map f) d v H4 else CSkip D xs.length i (λi j σ H=>Same H1 H/\S σ/\j=(048).map f) d H3)
  (hd:∀D H,H1 D=B->Same H1 H->H D=G (.lst<|(052).map f)->Q 71 H):cBody tn cp g tif te σ0 Q (Itl K a) H1:=by
 apply zjn (K:=K) (a:=a) (xs:=xs) (λD i j σ H=>Same H1 H/\S σ/\j=(048).map f) (zad E) (λD I=>⟨zbb I _,h0,R⟩) (λD i ys σ H _ _ _ p=>p.1.seq u) ?_ ?_
 .rintro D i ys σ H x I hi J o C ⟨r,l,rfl⟩;show hs D i σ H x hi J r I o l
 .rintro D ys σ H I o C ⟨r,l,rfl⟩;show hd D H I r o
end
variable {X:Cx}
section
variable {X:Cx}{k:Nat}{H:Hp}{a b:Ad}{xs ys:List V}
theorem eqV_int(a b:Int):eqV (.int a) (.int b)=decide (a=b):=by
 by_cases h:a=b
 .subst h;simp[eqV]
 .simp[eqV,h]
theorem zve:∀(xs ys:List Int),(xs.length==ys.length&&(052).all λj=>eqV ((xs.map V.int).getD j .non)<|(ys.map V.int).getD j .non)=decide (xs=ys)
 |[],[]=>rfl
 |[],y::ys=>by simp
 |x::xs,[]=>by simp
 |x::xs,y::ys=>by
  let A:=zve xs ys;let e:(List.range (x::xs).length).all (λj=>eqV (((x::xs).map V.int).getD j .non)<|((y::ys).map V.int).getD j .non) =
    (decide (x=y)&&(052).all λj=>eqV ((xs.map V.int).getD j .non)<|(ys.map V.int).getD j .non):=by
   rw[y0i,y2b,y24,y23];show congrArg (· && _)<|eqV_int x y
  rw[e];let D:((x::xs).length==(y::ys).length)=081:=by simp
  rw[D];by_cases J:x=y
  .subst J;rw[Xg R,y1c,A];simp
  .rw[Xf J,y1b,y25];simp[J]
theorem zll(xs:List Int):(xs.map V.int).all flatV=N:=by
 rw[y0s];intro x J;let(z,_,rfl):=y0f.mp J;rfl
def rEqI(K:Frag):R2:=λx y H Q=>∃(a b:Ad) (xs ys:List Int),x=.ref a/\y=.ref b/\SqL K H a (xs.map V.int)/\SqL K H b (ys.map V.int)/\Q (.bl<|decide (xs=ys)) H
def rNeI(K:Frag):R2:=λx y H Q=>∃(a b:Ad) (xs ys:List Int),x=.ref a/\y=.ref b/\SqL K H a (xs.map V.int)/\SqL K H b (ys.map V.int)/\Q (.bl<|!decide (xs=ys)) H
theorem op_neI(U:X.A.units+8<cLine):OpR X (iw .NotEq) (rNeI X.K):=by
 infer_instance;let(a,b,xs,ys,rfl,rfl,Y,h2,q):=h;cases(show v=Va.ref a from rx);cases(show u=Va.ref b from ry);let(us,r1,r,_):=I.list Y;let(vs,T,l,_):=I.list h2;let l1:=r1.length;let l2:=T.length;let d:X.A.units<cLine:=by omega
 by_cases C:us.length=vs.length
 .let z:=SeqAt.RcNeAt.lists (A:=X.A) (s:=s) (e:=λj=>eqV ((xs.map V.int).getD j .non)<|(ys.map V.int).getD j .non) r.isList l.isList (by rw[y07,y07];show C) d λj Y h2=>by
   rw[y07]at Y h2;let(g1,q1):=r1.at Y;let(c,q2):=T.at h2;let M:(xs.map V.int).getD j .non=(xs.map V.int)[j]:=by rw[y02,y00 g1];rfl
   let D:(ys.map V.int).getD j .non=(ys.map V.int)[j]:=by rw[y02,y00 c];rfl
   rw[M,D];apply zlo (by simpa using q1) (by simpa using q2) ?_ ?_
   .exact y0s.mp (zll xs) _<|y0b g1
   .exact y0s.mp (zll ys) _<|y0b c
  let e:=zve xs ys;rw[y01]at l1 l2;rw[show(081)=N by simp;omega,y1c]at e;rw[y07,←l1,e]at z;show z _ _ _ _ ⟨.bl<|!decide (xs=ys),H,I,R,q⟩
 .let z:=SeqAt.RcNeAt.lists_lengths (A:=X.A) (s:=s) r.isList l.isList (by rw[y07,y07];simpa using C) d;let e:decide (xs=ys)=Fa:=Xf λh=>by rw[h,y01]at l1;rw[y01]at l2;omega
  rw[e]at q;show z _ _ _ _ ⟨.bl N,H,I,R,q⟩
variable (K:Frag)
theorem op_neIK(U:X.A.units+8<cLine)(h:X.K=K:=by rfl):OpR X (iw .NotEq) (rNeI K):=h▸op_neI U
end
section
variable {tn:List Str}{cp:Y6}{g:TG}{tif:TT}{te:TE}{σ0:St}{Q:VK}{H1:Hp}{lo:Int}{n:Nat}
def PRng(S:St->Prop)(f:Nat->V)(H1:Hp)(i:Nat)(ys:List V)(σ:St)(H:Hp):Prop:=Same H1 H/\S σ/\ys=(048).map f
theorem zzf(S:St->Prop)(f:Nat->V)(E:n<=1000)(h0:S 056)
  (hs:∀D i σ H,i<n->Same H1 H->H1 D=B->H D=G (.lst<|(048).map f)->S σ->g (.int<|lo+i) σ H λd H2=>tif d H2 λc H3 =>
   if c=N then te d H3 λv H4=>CStep D n i (PRng S f H1) d v H4 else CSkip D n i (PRng S f H1) d H3)
  (hd:∀D H,H1 D=B->Same H1 H->H D=G (.lst<|(List.range n).map f)->Q 71 H):cBody tn cp g tif te σ0 Q (Itr lo n) H1:=by
 apply zyd n (λD=>PRng S f H1) (zad E) (λD I=>⟨zbb I _,h0,R⟩) (λD i ys σ H _ hi _ _=>hi) (λD ys σ H _ _ _=>y06 _) ?_ ?_
 .rintro D i ys σ H x H' I hi o C ⟨r,l,rfl⟩ ⟨rfl,rfl⟩;show hs D i σ _ hi r I o l
 .rintro D ys σ H I o C ⟨r,l,rfl⟩;show hd D H I r o
theorem zuq(E:n<=1000)(hi:i<n)(I:H1 D=B)(p:H4 D=G (.lst<|(048).map f))(c:Same H1 H4)(s2:S d)(e:v=f i):CStep D n i (PRng S f H1) d v H4:=by
 subst e;apply cstep (zad E) hi p 05 ⟨c.wr I _,s2,?_⟩;rw[y2x,y0y];rfl
end
def TupS(H H':Hp):Prop:=∀b xs,H b=G 011->H' b=G 011
theorem Same.tups(g:Same H H'):TupS H H':=λb xs e=>g b _ e
theorem TupS.refl(H:Hp):TupS H H:=λ_ _ e=>e
theorem TupS.trans(a:TupS H H1)(b:TupS H1 H2):TupS H H2:=λc xs e=>b c xs<|a c xs e
theorem TupS.wr(h:H p=G 99)(o:HO):TupS H (upd H p o):=λb ys e=>by rw[zaj<|zm4 e h (by intro z;cases z)];show e
theorem li_at{h h':Heap}(x:h.IsListIter j a i)(k:∀o,h.get? j=G o->h'.get? j=G o):h'.IsListIter j a i:=by
 let(o,e,r):=x;show⟨o,k o e,r⟩
theorem li_ext{h h':Heap}(x:h.IsListIter j a i)(k:Heap.ExtBut b h h')(n:j≠b):h'.IsListIter j a i:=li_at x λo e=>k j o n e
noncomputable def ItzL(K:Frag)(a b:Ad):It :=
 ⟨λi H=>∃xs ys x y,SqL K H a xs/\SqT K H b ys/\xs[i]?=G x/\ys[i]?=G y,
  λi H v H'=>∃p x y,v=.ref p/\New H p 050 H'/\(∀xs,SqL K H a xs->xs[i]?=G x)/\∀ys,SqT K H b ys->ys[i]?=G y,
  λi H=>∃xs ys,SqL K H a xs/\SqT K H b ys/\xs.length<=i⟩
def iZipL(K:Frag)(A:TA):TI:=λσ H Rq=>A σ H λvs H1=>∃a b,vs=[.ref a,.ref b]/\(∃xs,SqL K H1 a xs)/\(∃ys,SqT K H1 b ys)/\Rq (ItzL K a b) H1
theorem pi_zipL{X:Cx}{elts:List Expr}{x1}{tpos:Pos}{a b:Expr}{A:TA}{p pos:Pos}(y:Gl X "zip")(M:X.mg "zip"=B)(g:PA X [a,b] A)(Y:notStar a=N:=by rfl)(h2:notStar b=N:=by rfl):PI X 053 119 (iZipL X.K A):=zr5 (l1:=N) (l2:=Fa) y M g Y h2
theorem zv8{X:Cx}(K:Frag){elts:List Expr}{x1}{tpos:Pos}{a b:Expr}{A:TA}{p pos:Pos}(y:Gl X "zip")(M:X.mg "zip"=B)(g:PA X [a,b] A)(h:X.K=K:=by rfl)(Y:notStar a=N:=by rfl)(h2:notStar b=N:=by rfl):
  PI X 053 119 (iZipL K A):=h▸pi_zipL y M g Y h2
noncomputable def Ite(K:Frag)(a:Ad):It :=
 ⟨λi H=>∃xs x,SqL K H a xs/\xs[i]?=G x,λi H v H'=>∃p x,v=.ref p/\New H p (.tup [.int (i:Int),x]) H'/\∀xs,SqL K H a xs->xs[i]?=G x,λi H=>∃xs,SqL K H a xs/\xs.length<=i⟩
theorem zrc{P:ik}{w:World}{K:Frag}{elts:List Expr}{x1}{tpos:Pos}(e it a:Ad)(ax:e≠it):
  Turn P w K 053 (Ite K a) [e,it] e (λi h=>(∃old,j7 h e it (i:Int) old)/\h.IsListIter it a i) where
 mem:=by simp
 obj:=λi h st c hc=>by
  let((old,p),o1,M,c1,g):=st;simp only[y09,y0l,or_false]at hc;rcases hc with rfl|rfl
  .exact⟨_,p,λv q=>nomatch q⟩
  .exact⟨_,M,λv q=>by rw[g]at q;cases q⟩
 keep:=λi h h' st k=>⟨let⟨old,p⟩:=st.1;⟨old,k e 05 _ p⟩,li_at st.2 λo z=>k it 05 o z⟩
 item:=by
  intro X hP O Q hc i pins s σ H E I j st y;subst hP O Q;let(xs,x,J,ex):=y;let(its,r,pl,_):=I.list J;let(u,U,ru):=r.get ex;let((old,p),si):=st;apply wpAny_pyNext_enum_item p si pl.isList (x:=u) (by simpa using U) ax λY eo1 si1 q1 T k1=>⟨_,R,?_⟩;apply jF eo1 λh2 D l=>?_;let f:∀c∈[e,it],c≠s.heap.objs.size:=λc hc=>by
   simp only[y09,y0l,or_false]at hc;rcases hc with rfl|rfl
   .exact y0m<|y0g p
   .let(o,z,_):=si;show y0m<|y0g z
  let k2:∀c o,c∉[e,it]->s.heap.get? c=G o->h2.get? c=G o:=λc o hc z =>
   l.extBut _ _ (λq=>hc<|by simp[q]) (k1 c o (λq=>hc<|by simp[q]) (λq=>hc<|by simp[q]) z)
  let L:=l.extBut _ _ (Ne.symm<|f e 05) q1;let si2:h2.IsListIter it a (i+1):=li_ext si1 l.extBut<|Ne.symm ax;let d:j7 h2 e it ((i+1:Nat):Int) u:=by rw[show((i+1:Nat):Int)=(i:Int)+1 by omega];show D
  let there:∀c∈[e,it],∃o,h2.get? c=G o:=λc hc=>by
   simp only[y09,y0l,or_false]at hc;rcases hc with rfl|rfl
   .exact⟨_,D⟩
   .let(o,z,_):=si2;show⟨o,z⟩
  let A:02 (upd H s.heap.objs.size<|.tup [.int (i:Int),x]) {s with heap:=h2,toks:=s.toks+1}:=I.turnedNew k2 j (y06 _) ⟨zad (by simp),[.int i s.toks,u],.cons ⟨_,R⟩<|.cons ru .nil,⟨_,L,R,_,R⟩⟩ there;apply⟨.ref s.heap.objs.size,_,A,R,⟨_,x,R,.mk' I.fresh _,λws O=>by rw[I.list_inj O J];show ex⟩,⟨⟨_,d⟩,si2⟩,λc hc=>?_⟩;rw[zaj<|f c hc];show(j c hc).1
 done:=by
  intro X hP O Q hc i pins s σ H E I j st y;subst hP O Q;let(xs,J,C):=y;let(its,r,pl,_):=I.list J;let l1:=r.length;let((old,p),si):=st;show wpAny_pyNext_enum_end 026 p si pl.isList (by simp;omega) λh' k=>⟨R,I.turnedL (t':=s.toks) (λc o hc z=>k c o (λq=>hc<|by simp[q]) z) j⟩
 self:=λ_ _ _ _ _ st h=>let⟨_,p⟩:=st.1;js p h
def iEnum(K:Frag)(A:TA):TI:=λσ H Rq=>A σ H λvs H1=>∃a,vs=[.ref a]/\(∃xs,SqL K H1 a xs)/\Rq (Ite K a) H1
theorem pi_enum{X:Cx}{elts:List Expr}{x1}{tpos:Pos}{a:Expr}{A:TA}{p pos:Pos}(y:Gl X "enumerate")(M:X.mg "enumerate"=B)(ha:PA X [a] A)(Y:notStar a=N:=by rfl):PI X 053 (.Call (.Name "enumerate" p) [a] [] pos) (iEnum X.K A):=by
 intro pins s σ H Rq I h;let hs:im [a] X.env=[(Fa,eval a X.env)]:=by rw[zar Y,starEach.eq_def]
 apply Call_<|zc8 I y M boot_enumerate (PyProof.Rows.callWith_type1 (thn 091 λus s1 zz=>ex5 zz λvs H1 I1 r1 q1=>?_) hs R);let(r,e,(xs,J),q):=q1;subst e;let(u,rfl,f):=vals1 r1;cases(show u=Va.ref r from f);let(its,_,O,_):=I1.list J;apply call_enumerate_list O.isList λh' D d sz k=>js D ?_;apply⟨_,[s1.heap.objs.size+1,s1.heap.objs.size],_,_,H1,R,I1.kept (t':=s1.toks) k,zrc _ _ r<|Nat.succ_ne_self _,⟨⟨_,D⟩,d⟩,λc hc=>?_,q⟩;let z:s1.heap.objs.size<=c:=by
  simp only[y09,y0l,or_false]at hc;rcases hc with rfl|rfl
  .exact Nat.le_add_right _ _
  .exact y06 _
 show I1.fpOk z<|I1.hok.fresh z
theorem zi1{X:Cx}(K:Frag){elts:List Expr}{x1}{tpos:Pos}{a:Expr}{A:TA}{p pos:Pos}(y:Gl X "enumerate")(M:X.mg "enumerate"=B)(g:PA X [a] A)(h:X.K=K:=by rfl)(Y:notStar a=N:=by rfl):
  PI X 053 (.Call (.Name "enumerate" p) [a] [] pos) (iEnum K A):=h▸pi_enum y M g Y
theorem zlg:jo (.type "list") "keys"=pure B:=am_miss_of_fast 52
theorem no_keys
  (hx:s.heap.get? a=G {cls:=.type "list",dict:=B,data:=.seq xs k,slots:=sl}) (hA:A.handled=B)
  (h:∀h' tk,(∀b o,s.heap.get? b=G o->h'.get? b=G o)->Q B {s with heap:=h',toks:=tk}):wpAny (model prog w) A (getAttr? (.ref a) "keys") Q E s:=by
 let(hp,g,d,tk,os):=s;let hT:∀tk',(⟨hp,g,d,tk',os⟩:ig).TypeIs 07 "list":=λ_=>⟨_,hx,R⟩;let f1:=sub_AttributeError;let f3:=F.slot_list_getattribute.lookup;let f4:=F.slot_list_getattribute.bind 07;let f5:=am_list_getattr_none;unfold getAttr? getAttrBy? getAttrBy
 repeat (any_goals (first|assumption|show hT _|((with_reducible show wpAny _ _ (call (Va.builtin "list.__getattribute__") _ _) _ _ _);apply je F.slot_list_getattribute (hT _) am_entry_list_getattribute (F.args_list_getattribute_2 _ _) (meets_getattribute_miss_list a xs k sl "keys" _ zlg 52 06) ⟨hx,hA,λh' tk' e hx'=>?_⟩)|wp_step))
 let(t',u',he):=hx'.there;change wpAny _ _ (getattributeRaised _ _ _ _ _ _ _) _ _ _;unfold getattributeRaised
 repeat (any_goals (first|assumption|wp_step))
 show h _ _ hx'.keeps
theorem zb0:entryFor table "dict.update.loop"=G Builtin.«dict.update.loop»:=entryFor_of_tree (by kernel_rfl)
theorem zbc:plainId "dict.update.loop"=N:=by decide+kernel
section
variable {P:ik}{w:World}{κ:Type}[DecidableEq κ]{knd:KeyKind P w κ}{A:io}{Rq:Result->ig->Prop}{it:Ad}{fp wr:List Ad}{Gq:Array jq->Array jq->Prop}{n:Nat}{Pv:Nat->Va->Prop}{St:Nat->ig->Prop}
def PairsAt(knd:KeyKind P w κ)(h:Heap)(g:List Ad)(Pv:Nat->Va->Prop)(kvs:List<|κ×Va):Prop:=∀i v k u,Pv i v->kvs[i]?=G (k,u)->∃p J,v=.ref p/\p∉g/\knd.is k J=N/\h.IsTuple p #[J,u]
theorem PairsAt.kept(x:PairsAt knd h g Pv kvs)(k:∀b o,b∉g->h.get? b=G o->h'.get? b=G o):PairsAt knd h' g Pv kvs:=λi v k' u pv e=>by
 let(p,J,M,D,L,o,Y,r):=x i v k' u pv e;show⟨p,J,M,D,L,o,k p o D Y,r⟩
theorem zqv(W:WalksS P w A.in1 it fp wr Gq n Pv St)(a:Ad)(g:a∉fp)(kvs:List<|κ×Va)(E:kvs.length=n)(hz:n<=ii):
  ∀(m i:Nat) (j:Int) (f:Tok) (s:ig),n-i=m->i<=n->St i s->PairsAt knd s.heap (a::wr) Pv kvs->s.heap.DictOf knd a (merged []<|kvs.take i)->(∀s',Moved (a::wr) Gq s s'->s'.heap.DictOf knd a (merged [] kvs)->Rq (.ok<|.ret .none) s')->
   iZ 014 A (.builtin "dict.update.loop" ⟨[.ref a,.ref it,.int j f,.none],[]⟩) Rq s:=by
 let c:a∉wr:=λh=>g<|W.sub _ h;let up:∀b∈wr,b∈a::wr:=λb h=>y08 _ h;let u:∀{h h':Heap} {l:List (κ×Va)},h.DictOf knd a l->(∀o,h.get? a=G o->h'.get? a=G o)->h'.DictOf knd a l:=λx k=>let⟨o,es,ep,Y,r⟩:=x;⟨o,es,ep,k o Y,r⟩;intro m
 induction m with
 |zero =>
  intro i j f s M hi st pa x q;obtain rfl:i=n:=by omega
  rw[y0n<|y40 E]at x;apply iJ zb0 ?_;rw[Around.under_plainId zbc _];apply ia<|W.done s _ _ st λs' d=>?_;change wpAny _ _ (Builtin.Dict.addKeywords a []>>=_) _ _ _;show ia<|ib (ib<|q s' (d.mono up) (u x λo e=>d.heap a _ c e))
 |succ m D =>
  intro i j f s M hi st pa x q;let lt:i<n:=by omega
  let O:kvs[i]?=G (kvs[i].1,kvs[i].2):=by simp[E,lt]
  apply iJ zb0 ?_;rw[Around.under_plainId zbc _];apply ia<|W.item i s _ _ lt st λv s' pv st' d=>?_;let H:=u (h':=s'.heap) x λo e=>d.heap a _ c e;let C:PairsAt knd s'.heap (a::wr) Pv kvs:=pa.kept λb o U e=>d.heap b o (λz=>U<|up b z) e;let(p,J,rfl,np,is,o,Y,hc,z,hd):=C i v _ _ pv O;apply ia<|iy (ia ?_);apply wpAny_tryCatch (m:=Builtin.Dict.pairItems<|Va.ref p) ?_;unfold Builtin.Dict.pairItems;apply ia<|jA (T:="tuple") ⟨o,Y,hc⟩ ?_;rw[Xq<|show(Va.type "tuple"==Va.type "list"||Va.type "tuple"==Va.type "tuple")=N from rfl];apply ia<|iH Y hd (ib ?_);change wpAny _ _ (holding [J,kvs[i].2]<|dictSet a J kvs[i].2) _ _ _;let len:=merged_length_le ([]:List<|κ×Va)<|kvs.take i;rw[y12,y1k]at len;apply iy<|wpAny_dictSet_pairs (hsz:=by omega) is H λh' Q L=>?_;rw[←merged_take_succ [] kvs i _ O]at Q;let k2:∀b o,b∉a::wr->s'.heap.get? b=G o->h'.get? b=G o:=λb o U e=>by rw[L.2 b λh=>U<|h▸y0c];show e
  apply ib ⟨jj zbc _,D (i+1) (j+1) _ _ 01 lt (W.frame _ s' _ _ st' (y3g _) λb U o e=>?_) (C.kept k2) Q λs2 y I=>?_⟩
  .rw[L.2 b λh=>g<|h▸U];show e
  .exact q s2 (Moved.trans W.gtrans ((d.mono up).then_heap (y3g _) λb o U e=>k2 b o U e) y) I
end
section
variable {P:ik}{w:World}{κ:Type}[DecidableEq κ]{knd:KeyKind P w κ}{A:io}{E:Y0}{s:ig}
theorem zlq(hh:A.handled=B)(C:s.heap.get? l=G {cls:=.type "list",dict:=B,data:=.seq its n,slots:=sl})(O:kvs.length=its.size)(hz:its.size<=ii)
  (hi:∀(i:Nat) v k u,its[i]?=G v->kvs[i]?=G (k,u)->∃p J,v=.ref p/\knd.is k J=N/\s.heap.IsTuple p #[J,u])
  (h:∀(h':Heap) (f:Nat),h'.DictOf knd s.heap.objs.size (merged [] kvs)->(∀b o,s.heap.get? b=G o->h'.get? b=G o)->Q 016 {s with heap:=h',toks:=f}) :
  wpAny 014 A (call (.type "dict") [.ref l]) Q E s:=by
 apply callType_codes (Q₁:=λobj s₁=>obj=.ref s.heap.objs.size/\s₁={s with heap:=s.heap.push {cls:=.type "dict",data:=.dict #[]} }) F.kt_called_dict (F.kt_typeCall_dict_1 _) F.entry_dict_init (kt_code_dict_new _ ⟨R,R⟩) ?_;rintro obj s₁ ⟨rfl,rfl⟩;let a:(s.heap.push {cls:=.type "dict",data:=.dict #[]}).DictOf knd s.heap.objs.size []:=Heap.DictOf.new s.heap;let ah:(s.heap.push {cls:=.type "dict",data:=.dict #[]}).get? l=G {cls:=.type "list",dict:=B,data:=.seq its n,slots:=sl}:=y03 _ C;apply⟨a.typeIs,F.args_dict_init_2 _ _,?_⟩;unfold Builtin.«dict.__init__»;apply ia ?_;unfold Builtin.Dict.selfAndRest;apply ia<|wpAny_notOrdered_dict a.typeIs ?_;change wpAny _ _ (pure (s.heap.objs.size,[Va.ref l])) _ _ _;apply ib ?_;change wpAny _ _ (Builtin.Dict.updateFrom "dict.__init__" s.heap.objs.size (.ref l) [] .none) _ _ _;unfold Builtin.Dict.updateFrom;apply ia<|jA (T:="list") ⟨_,ah,R⟩ ?_;rw[Xq 06];apply ia<|no_keys ah (by simp[hh]) λY tk1 k1=>?_;rw[Xq<|show(B:Option Va).isNone=N from rfl];apply ia<|jw (ia ?_);let c:Y.IsList l its:=⟨_,k1 _ _ ah,R,n,R⟩;apply jg c ?_;let U:l<s.heap.objs.size:=y0g C;let q:s.heap.objs.size<Y.objs.size:=by
  let(o,_,_,ho,_):=a;show y0g<|k1 _ _ ho
 let h3:A.in1.in1.handled=B:=by simp[hh]
 let y:l<Y.objs.size:=y22 U q;let nf:s.heap.objs.size∉[Y.objs.size,l]:=λz=>by
  rcases y09.mp z with z|z
  .exact Xa z<|y0m q
  .exact Xa (y0e.mp z)<|y2d U
 let up:∀b o,s.heap.get? b=G o->(Y.push {cls:=.type "list_iterator",data:=.fields #[.ref l,.int 0 0]}).get? b=G o:=λb o e=>y03 _<|k1 _ _ (y03 _ e);apply ib ⟨jj zbc _,zqv (knd:=knd) (A:=A.in1) ((Walks.list h3 _ l (y0m y) its).toS) s.heap.objs.size nf kvs O hz (its.size-0) 0 0 _ _ R (y17 _) ⟨⟨_,y0h _ R,R,R⟩,c.push _⟩ ?pa ?x0 ?q0⟩
 case pa =>
  intro i v k u pv e;let(p,J,M,D,o,ho,r):=hi i v k u pv e;let lp:=y0g ho;apply⟨p,J,M,λz=>?_,D,o,up p o ho,r⟩;rcases y09.mp z with z|z
  .exact Xa z<|y0m lp
  .exact Xa (y0e.mp z)<|y0m (y22 lp q)
 case x0 =>
  let(o,es,ep,ho,r):=a;show⟨o,es,ep,y03 _<|k1 _ _ ho,r⟩
 case q0 =>
  intro s' d H;let(h',g',d',L,j):=s';let g:g'=s.gens:=d.gens;let I:d'=s.drawn:=d.drawn;let eo:j=s.os:=d.os;subst g;subst I;subst eo;apply⟨R,h h' L H λb o e=>d.heap b o (λz=>?_)<|up b o e⟩;let x:=y0g e;rcases y09.mp z with z|z
  .exact Xa z<|y0m x
  .exact Xa (y0e.mp z)<|y0m (y22 x q)
end
theorem DGet.b{H:Hp}{a:Ad}{kvs:List (Key×V)}{b:Bool}(e:H a=G 020):DGet H a (.bl b) (valV kvs<|.inl (blI b)):=.inl ⟨kvs,_,.inl e,.inr ⟨b,R,R⟩,R⟩
theorem DPut.b{H:Hp}{a:Ad}{kvs:List (Key×V)}{b:Bool}{v:V}(e:H a=G 020)(C:kvs.length<ii):DPut H a (.bl b) v (upd H a<|.dK (putK kvs (.inl<|blI b) v)):=.inl ⟨kvs,_,e,.inr ⟨b,R,R⟩,C,R⟩
theorem DGet.n{H:Hp}{a:Ad}{kvs:List (Key×V)}{n:Int}(e:H a=G 020):DGet H a (.int n) (valV kvs<|.inl n):=DGet.k (k:=.inl n) e
theorem DPut.n{H:Hp}{a:Ad}{kvs:List (Key×V)}{n:Int}{v:V}(e:H a=G 020)(C:kvs.length<ii):DPut H a (.int n) v (upd H a<|.dK (putK kvs (.inl n) v)):=DPut.k (k:=.inl n) e C
def rInDc(neg:Bool):R2:=λy x H Q=>∃a o,x=.ref a/\DGet H a y o/\Q (.bl<|if neg then !o.isSome else o.isSome) H
section
variable {X:Cx}{o i value:Expr}{pos pos':Pos}{td ty tv:TE}
theorem zcs(U:X.A.units+8<cLine):OpR X (iw .NotIn) (rInDc N):=by
 intro pins s σ H y x v u Q I ry rx h;let(a,o,rfl,g,q):=h;obtain rfl:u=Va.ref a:=rx;show Qc8 01 I g ry λp w=>⟨.bl<|!o.isSome,H,w,R,q⟩
theorem zdq(U:X.A.units+8<cLine)(Y:PE X o td)(hi:PE X i ty)(hs:NoSl i):PE X (.Subscript o i pos) (tDGet td ty):=pe_dget 01 Y hi hs
theorem zeq(U:X.A.units+8<cLine)(Y:PE X o td)(hi:PE X i ty)(hv:PE X value tv)(hs:ju value (G<|.Subscript o i pos') pos.line X.env=pure Fa):
  PS X (.Assign [.Subscript o i pos'] value pos) (sDPut td ty tv):=ps_dput 01 Y hi hv hs
def tDNewN:TE:=λ_ H Q=>∀p H',New H p (.dK []) H'->Q 42 H'
def tDNewTN:TE:=λ_ H Q=>∀p H',New H p (.dT []) H'->Q 42 H'
theorem zwa:PE X (.Dict [] [] pos) tDNewN:=λpins s σ H Q I h=>zwb pins s σ H Q I λp j=>h p _<|.mk' j _
theorem zsa:PE X (.Dict [] [] pos) tDNewTN:=λpins s σ H Q I h=>zv9 pins s σ H Q I λp j=>h p _<|.mk' j _
def rLenD:List V->Hp->VK->Prop:=λxs H Q=>∃a kvs,xs=[V.ref a]/\H a=G 020/\Q (.int kvs.length) H
theorem zq1:CallR X 076 rLenD:=zu3
end
section
variable {prog:ik}{w:World}{κ:Type}[DecidableEq κ]{knd:HeapKind prog w κ}{A:io}{E:Y0}{s:ig}
theorem zm7(d:Ad)(hd:(d==iE)=Fa):
  MeetsIn prog w (Builtin.«dict.__len__» ⟨[.ref d],[]⟩) (λ_ Rq s=>∃xs,s.heap.DictOfH knd d xs/\Rq (.ok<|.ret (.int xs.length s.toks)) {s with toks:=s.toks+1}) :=
 .of_wp λA Rq s ⟨xs,M,h⟩=>by
  let(o,i,l,Y,hc,a,z,_):=M;change wpAny _ _ (dictSize d>>=_) _ _ s;unfold dictSize;apply ia<|ia (wpAny_dictEntries Y a<|ib ?_);change wpAny _ _ (Builtin.Dict.pendingCount d>>=_) _ _ s;apply ia<|wpAny_pendingCount_other hd (wpAny_ret_mkInt ?_);let e:i.size=xs.length:=by rw[←y1m,z,y01]
  rw[Nat.add_zero,e];show h
theorem zqk(hd:(d==iE)=Fa)(M:s.heap.DictOfH knd d xs)(a:(xs.length:Int)<2^63)(v:s.TypeIs (.ref d) "dict")
  (h:Q (.int xs.length<|s.toks+1) {s with toks:=s.toks+1+1}):wpAny (model prog w) A (call (.builtin "len") [.ref d]) Q E s:=by
 apply Calls.call_function_entry kind_len plain_len entry_len (args_len1 _) ?_;unfold Builtin.«len»;apply ia (m:=oneArg "len" _)<|ib ?_;apply ia (m:=callSpecial? (.ref d) (Str.ofString "__len__"))<|i0 (name:=Str.ofString "__len__") v PySem.F.slot_dict_len (call_meetsIn PySem.F.slot_dict_len v PySem.F.entry_dict_len (PySem.F.args_dict_len_1 _) (zm7 d hd) ⟨xs,M,?_⟩);change wpAny _ _ _ _ _ {s with toks:=s.toks+1};apply ia<|iy (ib<|ia (j4 ?_));change wpAny _ _ (if((xs.length:Nat):Int)<0 then _ else _) _ _ _;rw[Xp 01];change wpAny _ _ (if((xs.length:Nat):Int)>=2^63 then _ else _) _ _ _;rw[Xp 01];show ia<|wpAny_mkInt (ib ⟨_,R,h⟩)
end
def rLenT:List V->Hp->VK->Prop:=λxs H Q=>∃a kvs,xs=[V.ref a]/\H a=G (.dT kvs)/\Q (.int kvs.length) H
theorem zu2:CallR X 076 rLenT:=by
 intro pins s σ H xs us Q I r h;let(a,kvs,rfl,g,q):=h;let(u,rfl,f):=vals1 r;cases f;let(z,hd,ys,rel,dd):=dt_of I.hok g;let c:=Paired.length rel;let v:s.TypeIs 07 "dict":=by let(o,_,_,Y,hc,_):=id dd;show⟨o,Y,hc.1⟩
 apply zqk hd dd (by rw[jc]at z;omega) v ?_;rw[←c];show⟨.int kvs.length,H,I.tok _,⟨_,R⟩,q⟩
def PairV(H:Hp)(r:V)(C:Key×V):Prop:=∃t,r=.ref t/\H t=G (.tup [kV C.1,C.2])
theorem zk3(ok:HOk P w H h):∀{rs:List V} {kvs:List (Key×V)} {us:List Va},i9 (PairV H) rs kvs->Vals rs us->
  ∃j:List<|Key×Va,KV kvs j/\∀(i:Nat) v k u,us[i]?=G v->j[i]?=G (k,u)->∃p J,v=.ref p/\(025).is k J=N/\h.IsTuple p #[J,u]
 |_,_,_,.nil,.nil=>⟨[],.nil,λi v k u e _=>by simp at e⟩
 |_,_,_,.cons (b:=C) ⟨t,o,Q⟩ c,.cons d vs=>by
  let(j,Y,h2):=zk3 ok c vs;subst o;cases(show _=Va.ref t from d);let(_,its,a,tp):=ok t _ Q;cases a with
  |cons r1 g =>
   cases g with
   |cons T g =>
    cases g;rename_i J f;apply⟨(C.1,f)::j,.cons ⟨R,T⟩ Y,λi v k u M D=>?_⟩;cases i with
    |zero =>
     simp only[y2n,Option.some.injEq,Prod.mk.injEq]at M D;let(rfl,rfl):=D;show⟨t,J,M.symm,zto r1,tp⟩
    |succ i =>
     simp only[y1h]at M D;show h2 i v k u M D
def rDictOf(K:Frag):List V->Hp->VK->Prop:=λxs H Q=>∃(p:Ad) (rs:List V) (kvs:List<|Key×V),xs=[.ref p]/\SqL K H p rs/\i9 (PairV H) rs kvs/\kvs.length<=1000/\∀d H',New H d (.dK<|mergeK [] kvs) H'->Q (.ref d) H'
theorem zl0(hc:X.calm=N):CallR X (.type "dict") (rDictOf X.K):=by
 intro pins s σ H xs us Q I r h;let(p,rs,kvs,rfl,J,c,hz,q):=h;let(u,rfl,rx):=vals1 r;cases(show u=Va.ref p from rx);let(vs,d,(o,n,Y,U,a,e),_):=I.list J;let(j,l,O):=zk3 I.hok c d;let l1:=d.length;let l2:=Paired.length c;let y:=l.length;let(oc,T,w,g):=o;simp only at U a e;subst U;subst a;subst e;apply zlq (knd:=mixKind X.prog X.w) (kvs:=j) 026 Y (by rw[y07];omega) (by rw[y07];show zad 01) (λi v k u M D=>O i v k u (by simpa using M) D) λh' f x k=>?_;let A:KV (mergeK [] kvs) (merged [] j):=KV.merge l .nil;let C:=zc2 kvs [];rw[y1k]at C;show⟨.ref s.heap.objs.size,_,I.laid (t':=f) k 43<|zuh (zad 01) (beq_eq_false_iff_ne.mpr<|Ne.symm (y0m I.big)) A x,R,q _ _<|.mk' I.fresh _⟩
theorem zjw(K:Frag)(hc:X.calm=N)(h:X.K=K:=by rfl):CallR X (.type "dict") (rDictOf K):=h▸zl0 hc
theorem zgr:∀(g acc:List<|Key×V) (k:Key),k∉g.map (·.1)->valV (mergeK acc g) k=valV acc k
 |[],_,_,_=>rfl
 |C::g,acc,k,h=>by
  rw[y0o,y09,not_or]at h;change valV (mergeK (putK acc C.1 C.2) g) k=_;rw[zgr g _ k h.2,zeg,Xp h.1]
theorem zop:∀(g acc:List<|Key×V) (k:Key) (v:V),(g.map (·.1)).Nodup->(k,v)∈g->valV (mergeK acc g) k=G v
 |[],_,_,_,_,h=>nomatch h
 |C::g,acc,k,v,E,h=>by
  rw[y0o,y1j]at E;change valV (mergeK (putK acc C.1 C.2) g) k=_;rcases y09.mp h with rfl|h
  .rw[zgr g _ _ E.1,zeg,Xq rfl]
  .exact zop g _ k v E.2 h
def rMaxL(K:Frag):List V->Hp->VK->Prop:=λxs H Q=>∃(p:Ad) (ns:List Int),xs=[.ref p]/\SqL K H p 057/\0<ns.length/\∀M,M∈ns->(∀a∈ns,a<=M)->Q (.int M) H
theorem zq0(hc:X.calm=N):CallR X (.builtin "max") (rMaxL X.K):=by
 intro pins s σ H xs us Q I r h;let(p,ns,rfl,J,y,q):=h;let(u,rfl,rx):=vals1 r;cases(show u=Va.ref p from rx);let(vs,d,D,_):=I.list J;let hi:=zfg d;let(xs,e):=hi.allInts.items;let w:s.heap.IsList p (intItems xs):=e▸D.isList;let E:ns=xs.toList.map (·.1):=by
  rw[←nums_intItems,←e];show(show numsOf vs.toArray.toList=ns from hi.numsOf).symm
 let hsz:0<xs.size:=by rw[E,y01,y1m]at y;show y
 apply max_intList 026 w hsz λv h' f hv O=>?_;let(t,rfl):=intItems_at hv;let(Y,h2):=argBest_gt (numAt xs)<|xs.size-1;apply⟨.int _,H,I.kept O,⟨_,R⟩,q _ ?_ λa g=>?_⟩
 .rw[E,numAt_eq];show getD_mem (by rw[y01,y1m];omega)
 .rw[E]at g;let(j,o,rfl):=mem_getD g;rw[y01,y1m]at o;rw[←numAt_eq];show h2 j 01
theorem znm(K:Frag)(hc:X.calm=N)(h:X.K=K:=by rfl):CallR X (.builtin "max") (rMaxL K):=h▸zq0 hc
def rIndex(K:Frag):V->List V->Hp->VK->Prop:=λx vs H Q=>∃(p:Ad) (ns:List Int) (k:Int),x=.ref p/\vs=[.int k]/\SqL K H p 057/\k∈ns/\ns.length<=1000/\Q (.int (ns.idxOf k:Nat)) H
theorem zxk:MtR X "list.index" (rIndex X.K):=by
 intro pins s σ H x xs v us Q I rx rs h;let(p,ns,k,rfl,rfl,J,O,hz,q):=h;cases rx;let(u,rfl,t,rfl):=vals1 rs;let(vs,d,D,_):=I.list J;let hi:=zfg d;let((cls,dd,data,r),Y,hc,n,hd):=D.isList;simp only at hc hd;subst hc hd;let g:=hi.length;let o:ns.idxOf k<ns.length:=y1e.mpr O;apply je PySem.F.slot_list_index ⟨_,Y,R⟩ PySem.F.entry_list_index (PySem.F.args_list_index_2 _ _)
  (SeqAt.list_indexAt p vs.toArray n dd r (.int k t) (isInt k) (ns.idxOf k) (by simpa[g]using o) 01 ?_ ?_) ⟨Y,λy L=>(eq_isInt k t hi y<|by simpa using L).at _ _,?_⟩
 .change isInt k vs[ns.idxOf k]=N;rw[isInt_at k hi _ 01 o];simpa using y2m o
 .intro j a f;change isInt k vs[j]=Fa;rw[isInt_at k hi j (by simpa using a) 01];show ne_of_lt_idxOf f _
 .exact(174)
theorem ztg(K:Frag)(h:X.K=K:=by rfl):MtR X "list.index" (rIndex K):=h▸zxk
def rCatTN(K:Frag):R2:=λx y H Q=>∃a b xs ys,x=.ref a/\y=.ref b/\SqT K H a xs/\SqT K H b ys/\xs≠[]/\ys≠[]/\xs.length+ys.length<=ii/\∀p H',New H p (.tup<|xs++ys) H'->Q 42 H'
theorem zwj:OpR X (iD .Add) (rCatTN X.K):=λpins s σ H x y v u Q I rx ry h=>by
 let(a,b,xs,ys,M,D,g,U,J,L,hz,q):=h;show op_catT pins s σ H x y v u Q I rx ry ⟨a,b,xs,ys,M,D,g,U,J,hz,λz=>Xa z L,λ_ p j=>q p _<|.mk' j _⟩
theorem zsp(K:Frag)(h:X.K=K:=by rfl):OpR X (iD .Add) (rCatTN K):=h▸zwj
section
variable {tn:List Str}{cp:Y6}{g:TG}{tif:TT}{te:TE}{σ0:St}{Q:VK}{H1:Hp}{n:Nat}
def PGen(S:St->Prop)(Gq:Nat->V->Hp->Prop)(H1:Hp)(i:Nat)(ys:List V)(σ:St)(H:Hp):Prop:=Same H1 H/\S σ/\ys.length=i/\∀j y,ys[j]?=G y->Gq j y H
theorem znk(S:St->Prop)(Gq:Nat->V->Hp->Prop)(E:n<=1000)(h0:S 056)(q:∀i H,i<n->Same H1 H->J.go i H)(a:∀H,Same H1 H->J.stop n H)
  (hs:∀D i ys σ H x H',i<n->Same H1 H->H1 D=B->H D=G 75->ys.length=i->(∀j y,ys[j]?=G y->Gq j y H)->S σ->J.yld i H x H'->g x σ H' λd H2=>tif d H2 λc H3 =>
   if c=N then te d H3 λv H4=>CStep D n i (PGen S Gq H1) d v H4 else CSkip D n i (PGen S Gq H1) d H3)
  (hd:∀D ys H,H1 D=B->Same H1 H->H D=G 75->ys.length=n->(∀j y,ys[j]?=G y->Gq j y H)->Q 71 H):cBody tn cp g tif te σ0 Q J H1:=by
 apply zyd n (λD=>PGen S Gq H1) (zad E) (λD I=>⟨zbb I _,h0,R,λj y e=>by simp at e⟩) (λD i ys σ H _ hi _ p=>q i H hi p.1) (λD ys σ H _ _ p=>a H p.1) ?_ ?_
 .rintro D i ys σ H x H' I hi o C ⟨r,l,z,p4⟩ L;show hs D i ys σ H x H' hi r I o z p4 l L
 .rintro D ys σ H I o C ⟨r,l,z,p4⟩;show hd D ys H I r o z p4
theorem zee(a:∀j y H H',TupS H H'->Gq j y H->Gq j y H')(E:n<=1000)(hi:i<n)(I:H1 D=B)(p:H4 D=G 75)(C:ys.length=i)
  (L:∀j y,ys[j]?=G y->Gq j y H) (ts:TupS H H4) (c:Same H1 H4) (s2:S d) (e:Gq i v H4):CStep D n i (PGen S Gq H1) d v H4:=by
 apply cstep (zad E) hi p 01 ⟨c.wr I _,s2,by simp[C],λj y w=>?_⟩;by_cases h:j<ys.length
 .rw[y11 h]at w;show a j y _ _ (ts.trans<|TupS.wr p _)<|L j y w
 .rw[y13 01]at w;let M:j-ys.length=0:=by
   cases o:j-ys.length with
   |zero=>rfl
   |succ k=>rw[o]at w;simp at w
  rw[M]at w;simp at w;subst w;rw[show j=i by omega];show a i _ _ _ (TupS.wr p _) e
end
theorem znu{K:Frag}{a:Ad}{xs:List V}{i:Nat}{H H':Hp}{v:V}(J:SqL K H a xs)(y:(Ite K a).yld i H v H'):∃p x,v=.ref p/\New H p (.tup [.int (i:Int),x]) H'/\xs[i]?=G x:=by
 let(p,x,e,n,h):=y;show⟨p,x,e,n,h xs J⟩
theorem zvh{K:Frag}{a b:Ad}{xs ys:List V}{i:Nat}{H H':Hp}{v:V}(J:SqL K H a xs)(L:SqT K H b ys)(z:(ItzL K a b).yld i H v H'):∃p x y,v=.ref p/\New H p 050 H'/\xs[i]?=G x/\ys[i]?=G y:=by
 let(p,x,y,e,n,Y,h2):=z;show⟨p,x,y,e,n,Y xs J,h2 ys L⟩
def tDisp1T(f c:TE):TE:=λσ H Q=>∀p H1,New H p (.dT []) H1->f σ H1 λy H2=>c σ H2 λz H3=>H3 p=G (.dT [])/\∃b ks,y=.ref b/\H3 b=G (.tup<|ks.map kV)/\Q 42 (upd H3 p<|.dT [(ks,z)])
theorem zky{f c:TE}(U:X.A.units+8<cLine)(O:PE X k f)(hv:PE X v c):PE X (.Dict [G k] [v] pos) (tDisp1T f c):=by
 intro pins s σ H Q I q;let I1:=I.laid (a:=s.heap.objs.size) (o:=.dT []) (h':=s.heap.push {cls:=.type "dict",data:=.dict #[]}) (t':=s.toks) (λ_ _ q=>y03 _ q) 43<|zo8 s.heap I.big;let e:(evalEachOpt [G k] X.env).zip ((evalEach [v] X.env).map λv=>do let x ←v;standAt pos;pure x)=[(eval k X.env,do let x ←eval v X.env;standAt pos;pure x)].map λp=>(G p.1,p.2):=rfl;rw[arm_eval_Dict,e,dictDisplay_pairs _ 05 05];apply ia<|jb (ia ?_);unfold subDict;apply ia<|wpAny_alloc (ia<|iy ?_);rw[Xq 05];apply ia<|evalPairs_cons ?_;apply thn (O pins _ σ _ _ I1<|q _ _ (.mk' I.fresh _)) λC s2 zz=>ex5 zz λy H2 A ry q2=>?_;apply ia<|thn (hv pins s2 σ H2 _ A q2) λg E zz=>ex5 zz λz H3 w r zq=>?_;let(l,b,ks,M,u,q3):=zq;subst M;obtain rfl:C=Va.ref b:=ry;apply ia<|jb (ib<|evalPairs_nil (iy ?_));rw[y27];let(zz,hd,xs,rel,dd):=dt_of w.hok l;cases rel;apply ia<|ia ?_;change wpAny _ _ (dictSet s.heap.objs.size (Va.ref b) g>>=_) _ _ _;apply ia<|wpAny_dictSet_heap (knd:=jK<|mixKind X.prog X.w) (hsz:=by rw[y1k];show y17 _) (show X.A.units<cLine by omega) (zlh w.hok u) dd λh' D hs=>ib ?_;dsimp only;rw[y2s];apply ib<|ib (ib<|ib ?_);let(o,i,d,T,h2,h3,L,j,h5):=D;apply⟨.ref s.heap.objs.size,_,zjg w (by rw[l];show True.intro) hs ⟨o,T⟩ ?_,R,q3⟩;apply⟨zad 05,hd,storedH [] ks b g,?_,o,i,d,T,h2,h3,L,h5⟩;change i9 _ [(ks,z)] [(ks,b,g)];apply .cons ⟨R,?_,r⟩ .nil;rw[zaj<|zm4 u l (λz=>nomatch z)];show u
def NeOk(X:Cx)(k:Nat)(H:Hp)(x y:V)(b:Bool):Prop:=∀(pins:Y2) (σ:St) (s:ig) (A:io) (u v:Va),A.units+k<cLine->02 H s->RelV x u->RelV y v->SeqAt.RcNeAt A s u v b
def rNeM(X:Cx):R2:=λx y H Q=>∃c,NeOk X 8 H x y c/\Q (.bl c) H
def rRange2:List V->Hp->VK->Prop:=λxs H Q=>∃i j:Int,xs=[.int i,.int j]/\∀p H',New H p (.rng i j) H'->Q 42 H'
def rListRng:List V->Hp->VK->Prop:=λxs H Q=>∃(p:Ad) (i j:Int),xs=[.ref p]/\H p=G (.rng i j)/\(0<=i/\i<=j/\j<=1000)/\∀l H',New H l (.lst<|(List.range (j-i).toNat).map λ(k:Nat)=>V.int<|i+k) H'->Q (.ref l) H'
def rRepN:R2:=λx y H Q=>∃l k xs,x=.ref l/\y=.int k/\H l=G 99/\-(2^63)<=k/\k<2^63/\xs.length*k.toNat<=ii/\∀p H',New H p (.lst (List.replicate k.toNat xs).flatten) H'->Q 42 H'
section
variable {P:ik}{w:World}{A:io}{E:Y0}{s:ig}{l1 l2:Bool}{z ti ro j1 j2 t1 t2:Ad}{i:Nat}{its1 its2:Array Va}
theorem eg_item(D:jl z ti ro j1 j2 t1 t2)(he:j7 s.heap e z (i:Int) old)(ne:e∉[z,ti,ro,j1,j2])
  (Z:ZipG l1 l2 s.heap z ti ro j1 j2 t1 t2 i) (r:IsSq s.heap l1 t1 its1) (p2:IsSq s.heap l2 t2 its2) (J:its1[i]?=G x) (L:its2[i]?=G y)
  (q:∀Y,ZipG l1 l2 Y z ti ro j1 j2 t1 t2 (i+1)->jE Y s.heap.objs.size x y->Y.objs.size=s.heap.objs.size+1->(∀c o,c∉[z,ti,ro,j1,j2]->s.heap.get? c=G o->Y.get? c=G o)->
   ∀h',IsEnumOut h' e z ((i:Int)+1) 016 051->h'.get? 051=G {cls:=.type "tuple",data:=.seq #[.int i s.toks,.ref s.heap.objs.size]}->
   (∀c o,c≠e->Y.get? c=G o->h'.get? c=G o)->Q (G<|.ref 051) {s with heap:=h',toks:=s.toks+1}):wpAny (model P w) A (j5<|.ref e) Q E s:=by
 let v:s.TypeIs (.ref e) "enumerate":=⟨_,he,R⟩;unfold j5;apply ia<|jJ (i0 (name:=Str.ofString "__next__") v F.slot_enumerate_next<|i7 F.slot_enumerate_next v F.entry_enumerate_next ?_ (F.args_enumerate_next_1 _));let(l,g,d,f,os):=s;change wpAny _ _ (field (.ref e) 2>>=_) _ _ _;apply ia<|iu he R (x:=.ref z) R ?_;unfold Builtin.SmallTypes.nextOf;let hZ:Shared.TypeIs ⟨l,g,d,f,os⟩ 019 "zip":=let⟨_,_,H,_⟩:=Z.z;⟨_,H,R⟩;apply ia<|ia (i0 (name:=Str.ofString "__next__") hZ F.slot_zip_next<|i7 F.slot_zip_next hZ F.entry_zip_next (zq5 D Z r p2 J L λY Z1 q1 T k1=>ib ?_) (F.args_zip_next_1 _));replace T:Y.objs.size=l.objs.size+1:=T;let O:j7 Y e z i old:=k1 _ _ ne he;change wpAny _ _ (field (.ref e) 3>>=_) _ _ ⟨Y,g,d,f,os⟩;apply ia<|iu O R (x:=iF i) R ?_;change wpAny _ _ (field (.ref e) 4>>=_) _ _ ⟨Y,g,d,f,os⟩;apply ia<|iu O R (x:=.none) R ?_;change wpAny _ _ (mkInt i>>=_) _ _ ⟨Y,g,d,f,os⟩;apply ia<|wpAny_mkInt ?_;change wpAny _ _ (setField (.ref e) 3 (iF<|(i:Int)+1)>>=_) _ _ ⟨Y,g,d,f+1,os⟩;apply ia<|i6 O 05 λh2 I j=>?_;replace j:Heap.SameBut e Y h2:=j;replace I:j7 h2 e z ((i:Int)+1) old:=I;change wpAny _ _ (setField (.ref e) 4 .none>>=_) _ _ ⟨h2,g,d,f+1,os⟩;apply ia<|i6 I 05 λh3 he3 a=>?_;replace a:Heap.SameBut e h2 h3:=a;replace he3:j7 h3 e z ((i:Int)+1) old:=he3;change wpAny _ _ (newTuple [.int i f,.ref l.objs.size]>>=_) _ _ ⟨h3,g,d,f+1,os⟩;apply ia<|jQ ?_;let u:j7 (h3.push {cls:=.type "tuple",data:=.seq #[.int i f,.ref l.objs.size]}) e z ((i:Int)+1) old:=y03 _ he3;generalize hh4:h3.push {cls:=.type "tuple",data:=.seq #[.int i f,.ref l.objs.size]}=p at u;let hsz:h3.objs.size=l.objs.size+1:=by rw[a.1,j.1,T]
 let hel:e<l.objs.size:=y0g he;let nee:l.objs.size+1≠e:=y2d<|y26 hel;let ht4:p.get? (l.objs.size+1)=G {cls:=.type "tuple",data:=.seq #[.int i f,.ref l.objs.size]}:=by rw[←hh4,←hsz];show y0h _ R
 let hk4:∀b o,b≠e->Y.get? b=G o->p.get? b=G o:=λb o C U=>by
  rw[←hh4];show y03 _<|a.extBut b o C (j.extBut b o C U)
 change wpAny _ _ (Builtin.SmallTypes.ownedTupleIsFree (.ref e)>>=_) _ _ ⟨p,g,d,f+1,os⟩;rw[hsz];clear hh4 he3 a I j O hsz h3 h2;apply ia ?_;unfold Builtin.SmallTypes.ownedTupleIsFree;apply ia<|iu u R (x:=.none) R (ib ?_);simp only[if_true];apply ia<|jw ?_;apply ia<|iu u R (x:=old) R ?_;apply ia<|i6 u 05 λh5 he5 hs5=>?_;replace hs5:Heap.SameBut e p h5:=hs5;replace he5:j7 h5 e z ((i:Int)+1) (.ref l.objs.size):=he5;change wpAny _ _ (Builtin.SmallTypes.ownedTupleHandOut (.ref e) (.ref<|l.objs.size+1)>>=_) _ _ ⟨h5,g,d,f+1,os⟩;apply ia ?_;unfold Builtin.SmallTypes.ownedTupleHandOut;apply ia<|i6 he5 05 λh6 he6 hs6=>?_;replace hs6:Heap.SameBut e h5 h6:=hs6;replace he6:IsEnumOut h6 e z ((i:Int)+1) (.ref l.objs.size) (l.objs.size+1):=he6;apply i6 he6 05 λh7 he7 hs7=>?_;replace hs7:Heap.SameBut e h6 h7:=hs7;replace he7:IsEnumOut h7 e z ((i:Int)+1) (.ref l.objs.size) (l.objs.size+1):=he7;let up:∀c o,c≠e->p.get? c=G o->h7.get? c=G o:=λc o M k=>hs7.extBut _ _ M<|hs6.extBut _ _ M (hs5.extBut _ _ M k);show ia<|j4 (ib ⟨_,R,ib<|q Y Z1 q1 T k1 h7 he7 (up _ _ nee ht4) λc o M k=>up c o M<|hk4 c o M k⟩)
theorem eg_end(p:A.handled=B)(D:jl z ti ro j1 j2 t1 t2)(d:j7 s.heap e z (i:Int) old)
  (Z:ZipG l1 l2 s.heap z ti ro j1 j2 t1 t2 i) (r:IsSq s.heap l1 t1 its1) (J:its1[i]?=B)
  (q:∀h',113->Q B {s with heap:=h'}):wpAny (model P w) A (j5<|.ref e) Q E s:=by
 let v:s.TypeIs (.ref e) "enumerate":=⟨_,d,R⟩;unfold j5;apply ia<|jJ (i0 (name:=Str.ofString "__next__") v F.slot_enumerate_next<|i7 F.slot_enumerate_next v F.entry_enumerate_next ?_ (F.args_enumerate_next_1 _));change wpAny _ _ (field (.ref e) 2>>=_) _ _ _;apply ia<|iu d R (x:=.ref z) R ?_;unfold Builtin.SmallTypes.nextOf;let a:s.TypeIs 019 "zip":=let⟨_,_,H,_⟩:=Z.z;⟨_,H,R⟩;apply ia<|ia (i0 (name:=Str.ofString "__next__") a F.slot_zip_next<|i7 F.slot_zip_next a F.entry_zip_next (zyh p D Z r J λh' x k ⟨o,Y,hc⟩=>?_) (F.args_zip_next_1 _));apply ia<|jL (T:="StopIteration") (b:=N) ⟨o,Y,hc⟩ isSubtype_stop ?_;show ib<|q _ k
end
set_option maxHeartbeats 1000000 in
theorem zuc(z ti ro:Ad):
  Meets (Builtin.«enumerate.__new__» ⟨[.type "enumerate",.ref z],[]⟩) (λ_ Rq s=>IsZip s.heap z ti ro .none/\
   Rq (.ok<|.ret 016) {s with heap:=s.heap.push {cls:=.type "enumerate",data:=.fields #[.none,.bool Fa,.ref z,iF 0,.none,.none]} }) :=
 .of_wp λprog w A Rq s h=>by
  let(hp,g,d,tk,os):=s;let(hl,h):=h;let hsub:=sub_enumerate;let hL:IsZip (Shared.heap ⟨hp,g,d,tk,os⟩) z ti ro .none:=hl
  wp_walk using AutoSeq1.wpAny_loadPart' hl
  apply wpAny_stack_any λst=>ib ?_;split
  .rename_i c _ _ _ _ _;cases(c==Va.type "enumerate")
   .wp_walk using AutoSeq1.wpAny_loadPart' hl,jx hL
    show⟨_,R,h⟩
   .wp_walk using AutoSeq1.wpAny_loadPart' hl,jx hL
    show⟨_,R,h⟩
  .wp_walk using AutoSeq1.wpAny_loadPart' hl,jx hL
   show⟨_,R,h⟩
theorem zqu(hz:IsZip s.heap z ti ro .none)
  (q:∀h',j7 h' s.heap.objs.size z 0 .none->(∀c o,s.heap.get? c=G o->h'.get? c=G o)->Q 016 {s with heap:=h'}) :
  wpAny 014 A (call (.type "enumerate") [.ref z]) Q E s:=by
 apply callType_new F.called_enumerate 06 (F.typeCall_enumerate_1 _) (F.newCall_enumerate_1 _) (λobj=>F.args_object_init_2 obj _) F.entry_enumerate_new (zuc z ti ro) ⟨hz,?_⟩;change _/\_;let d:j7 (s.heap.push {cls:=.type "enumerate",data:=.fields #[.none,.bool Fa,.ref z,iF 0,.none,.none]}) s.heap.objs.size z 0 .none:=y0h _ rfl;show⟨⟨_,d,R⟩,q _ d λc o x=>y03 _ x⟩
noncomputable def Itez(K:Frag)(a b:Ad):It :=
 ⟨λi H=>∃xs ys x y,SqT K H a xs/\SqT K H b ys/\xs[i]?=G x/\ys[i]?=G y,
  λi H v H'=>∃p r H1 x y,v=.ref r/\New H p 050 H1/\New H1 r (.tup [.int (i:Int),.ref p]) H'/\(∀xs,SqT K H a xs->xs[i]?=G x)/\∀ys,SqT K H b ys->ys[i]?=G y,
  λi H=>∃xs ys,SqT K H a xs/\SqT K H b ys/\xs.length<=i⟩
theorem turn_ez{P:ik}{w:World}{K:Frag}{elts:List Expr}{x1}{tpos:Pos}(e z ti ro j1 j2 a b:Ad)(D:jl z ti ro j1 j2 a b)(ne:e∉[z,ti,ro,j1,j2]):
  Turn P w K 053 (Itez K a b) [e,z,ti,ro,j1,j2] e (λi h=>(∃old,j7 h e z (i:Int) old)/\ZipG Fa Fa h z ti ro j1 j2 a b i) where
 mem:=by simp
 obj:=λi h st c hc=>by
  let((old,p),st):=st;rcases y09.mp hc with rfl|hc
  .exact⟨_,p,λv q=>nomatch q⟩
  .exact st.there c hc
 keep:=λi h h' st k=>⟨let⟨old,p⟩:=st.1;⟨old,k e 05 _ p⟩,st.2.move λc hc=>k c<|y08 _ hc⟩
 item:=by
  intro X g O Q hc i pins s σ H E I j st hg;subst g O Q;let(xs,ys,x,y,J,hy,ex,M):=hg;let(bv,r1,r):=I.sq (l:=Fa) J;let(its2,T,p2):=I.sq (l:=Fa) hy;let(u,U,ru):=r1.get ex;let(v,hv,d):=T.get M;let((old,p),st):=st;apply eg_item D p ne st r p2 (x:=u) (y:=v) (by simpa using U) (by simpa using hv) λY Z1 q1 sz1 k1 h2 eo2 q2 k2=>⟨_,R,?_⟩;apply jF eo2 λh3 e3 sb3=>?_;let f:∀c∈[e,z,ti,ro,j1,j2],c<s.heap.objs.size:=λc hc=>by
   rcases y09.mp hc with rfl|hc
   .exact y0g p
   .exact st.lt hc
  let k3:∀c o,c≠e->Y.get? c=G o->h3.get? c=G o:=λc o hc q=>sb3.extBut _ _ hc<|k2 c o hc q;let th:∀c∈[e,z,ti,ro,j1,j2],∃o,Y.get? c=G o:=λc hc=>by
   rcases y09.mp hc with rfl|hc
   .exact⟨_,k1 _ _ ne p⟩
   .exact let⟨o,q,_⟩:=Z1.there c hc;⟨o,q⟩
  let I1:02 (upd H s.heap.objs.size 050) {s with heap:=Y,toks:=s.toks}:=I.turnedNew (λc o hc q=>k1 c o (λw=>hc<|y08 _ w) q) j 43 ⟨zad 05,[u,v],.cons ru<|.cons d .nil,⟨_,q1,R,_,R⟩⟩ th;let A:02 (upd (upd H s.heap.objs.size 050) 051<|.tup [.int (i:Int),.ref s.heap.objs.size]) {s with heap:=h3,toks:=s.toks+1} :=
   I1.turnedNew (L:=[e,z,ti,ro,j1,j2]) (λc o hc q=>k3 c o (λw=>hc<|by simp[w]) q) (λc hc=>⟨by rw[zaj<|y0m (f c hc)];show(j c hc).1,(j c hc).2⟩) (show Y.objs.size<=_ by rw[sz1];show y06 _)
    ⟨zad 05,[.int i s.toks,.ref s.heap.objs.size],.cons ⟨_,R⟩<|.cons R .nil,⟨_,sb3.extBut _ _ (y2d<|y26 (f e 05)) q2,R,_,R⟩⟩ λc hc=>by
     by_cases ce:c=e
     .subst ce;show⟨_,e3⟩
     .let(o,q):=th c hc;show⟨o,k3 c o ce q⟩
  let e3':j7 h3 e z ((i+1:Nat):Int) 016:=by rw[show((i+1:Nat):Int)=(i:Int)+1 by omega];show e3
  let fr1:upd H s.heap.objs.size 050 051=B:=by
   rw[zaj<|Nat.succ_ne_self _];show I.hok.fresh<|y3g _
  apply⟨.ref 051,_,A,R,⟨_,_,_,x,y,R,.mk' 083 _,.mk' fr1 _,λws O=>by rw[I.tuple_inj O J];show ex,λws O=>by rw[I.tuple_inj O hy];show M⟩,⟨⟨_,e3'⟩,Z1.move λc hc o q=>k3 c o (λw=>ne<|w▸hc) q⟩,λc hc=>?_⟩;rw[zaj<|y0m (y26<|f c hc),zaj<|y0m (f c hc)];show(j c hc).1
 done:=by
  intro X g O Q hc i pins s σ H E I j st hg;subst g O Q;let(xs,ys,J,hy,C):=hg;let(bv,r1,r):=I.sq (l:=Fa) J;let((old,p),st):=st;show eg_end 026 D p st r (by simpa[←r1.length]using C) λh' k=>⟨R,I.turnedL (t':=s.toks) (λc o hc e=>k c o (λw=>hc<|y08 _ w) e) j⟩
 self:=λ_ _ _ _ _ st h=>let⟨_,p⟩:=st.1;js p h
def iEZ(K:Frag)(A:TA):TI:=λσ H Rq=>A σ H λvs H1=>∃a b,vs=[.ref a,.ref b]/\(∃xs,SqT K H1 a xs)/\(∃ys,SqT K H1 b ys)/\Rq (Itez K a b) H1
theorem pi_ez{X:Cx}{elts:List Expr}{x1}{tpos:Pos}{a b:Expr}{A:TA}{p pos E f:Pos}(y:Gl X "enumerate")(M:X.mg "enumerate"=B)(i:Gl X "zip")(T:X.mg "zip"=B)(g:PA X [a,b] A)(Y:notStar a=N:=by rfl)(h2:notStar b=N:=by rfl):
  PI X 053 (.Call (.Name "enumerate" p) [.Call (.Name "zip" E) [a,b] [] f] [] pos) (iEZ X.K A):=by
 intro pins s σ H Rq I h;let j:im [b] X.env=[(Fa,eval b X.env)]:=by rw[zar h2,starEach.eq_def]
 let D:im [Expr.Call (.Name "zip" E) [a,b] [] f] X.env=[(Fa,eval (.Call (.Name "zip" E) [a,b] [] f) X.env)]:=by rw[zar 00,starEach.eq_def]
 apply Call_<|zc8 I y M boot_enumerate (PyProof.Rows.callWith_type1 ?_ D R);rw[D];apply Calls.spliced_cons ?_;apply Call_<|zc8 I i T boot_zip (PyProof.Rows.callWith_type1 (thn (g f pins s σ H _ I h) λus s1 zz=>ex5 zz λvs H1 I1 r1 q1=>?_) (by rw[star2 Y h2,j])<|by rw[j];rfl);let(r,p2,e,(xs,J),(ys,L),q):=q1;subst e;let(u,v,rfl,U,d):=vals2 r1;cases(show u=Va.ref r from U);cases(show v=Va.ref p2 from d);let(w,_,O):=I1.sq (l:=Fa) J;let(Q,_,C):=I1.sq (l:=Fa) L;apply zl7 O C λh' zf Z sz k=>?_;apply Calls.spliced_nil ?_;apply zqu zf λh'' se k'=>js se ?_;rw[sz]at se;rw[show({s1 with heap:=h'}:ig).heap.objs.size=s1.heap.objs.size+5 from sz];apply⟨_,[s1.heap.objs.size+5,s1.heap.objs.size+4,s1.heap.objs.size+2,s1.heap.objs.size+3,s1.heap.objs.size,s1.heap.objs.size+1],_,_,H1,R,I1.kept (t':=s1.toks) λc o x=>k' c o<|k c o x,
  turn_ez _ _ _ _ _ _ r p2 (zipApart_new O.lt C.lt) 05,⟨⟨_,se⟩,Z.move λc _ o e=>k' c o e⟩,λc hc=>?_,q⟩
 let z:s1.heap.objs.size<=c:=by
  rcases y09.mp hc with rfl|hc
  .exact Nat.le_add_right _ _
  .exact zle hc
 show I1.fpOk z<|I1.hok.fresh z
theorem pi_ezK{X:Cx}(K:Frag){elts:List Expr}{x1}{tpos:Pos}{a b:Expr}{A:TA}{p pos E f:Pos}(y:Gl X "enumerate")(M:X.mg "enumerate"=B)(i:Gl X "zip")(T:X.mg "zip"=B)(g:PA X [a,b] A)(h:X.K=K:=by rfl)(Y:notStar a=N:=by rfl)(h2:notStar b=N:=by rfl):
  PI X 053 (.Call (.Name "enumerate" p) [.Call (.Name "zip" E) [a,b] [] f] [] pos) (iEZ K A):=h▸pi_ez y M i T g Y h2
theorem yld_ez{K:Frag}{a b:Ad}{xs ys:List V}{i:Nat}{H H':Hp}{v:V}(J:SqT K H a xs)(L:SqT K H b ys)(z:(Itez K a b).yld i H v H'):∃p r H1 x y,v=.ref r/\New H p 050 H1/\New H1 r (.tup [.int (i:Int),.ref p]) H'/\xs[i]?=G x/\ys[i]?=G y:=by
 let(p,r,H1,x,y,e,n,c,Y,h2):=z;show⟨p,r,H1,x,y,e,n,c,Y xs J,h2 ys L⟩
theorem fb_ez{K:Frag}{a b:Ad}{xs ys:List V}{g:TG}{Y:TS}{D:Ends}{j:St}{H1:Hp}(Pv:Nat->St->Hp->Prop)(z:xs.length=ys.length)(h0:Pv 0 j H1)(C:∀i σ H,i<=xs.length->Pv i σ H->SqT K H a xs/\SqT K H b ys)
  (hs:∀i x y σ H p r H2 H3,xs[i]?=G x->ys[i]?=G y->Pv i σ H->New H p 050 H2->New H2 r (.tup [.int (i:Int),.ref p]) H3->g (.ref r) σ H3 λd H2=>Y {D with nx:=Pv<|i+1,ct:=Pv<|i+1,bk:=D.nx} d H2)
  (hd:∀σ H,Pv xs.length σ H->D.nx σ H):fBody g Y D j (Itez K a b) H1:=by
 apply⟨λi m σ H=>m=xs.length-i/\i<=xs.length/\Pv i σ H,⟨xs.length,by simp,y17 _,h0⟩,?_⟩;rintro i m σ H ⟨rfl,hi,p⟩;let(q1,q2):=C i σ H hi p;by_cases f:i<xs.length
 .refine .inr ⟨⟨xs,ys,xs[i],ys[i]'(01),q1,q2,by simp[f],y00 01⟩,Pv<|i+1,λO H' E=>⟨xs.length-(i+1),by omega,R,f,E⟩,λx H' y=>?_⟩;let(T,r,H2,u,v,e,o,c,ex,M):=yld_ez q1 q2 y;subst e;show hs i u v σ H T r H2 H' ex M p o c
 .let e:i=xs.length:=by omega
  subst e;show .inl ⟨⟨xs,ys,q1,q2,y06 _⟩,hd σ H p⟩
def rCatTE:R2:=λx y H Q=>∃a b xs ys,x=.ref a/\y=.ref b/\H a=G 011/\H b=G (.tup ys)/\xs.length+ys.length<=ii/\∀p H',Same H H'->H' p=G (.tup<|xs++ys)->Q 42 H'
noncomputable def without(h:Heap):List Ad->Heap
 |[]=>h
 |b::L=>without (h.update b λ_=>{cls:=.none,data:=.freed}) L
theorem zqo(h:Heap)(a:Ad):(h.update a λ_=>{cls:=.none,data:=.freed}).get? a=B:=by
 let(objs,l):=h;change(match(objs.modify a λ_=>({cls:=.none,data:=.freed}:Obj))[a]? with
  |some ⟨_,_,.freed,_⟩=>B
  |o=>o)=B
 by_cases h:a<objs.size
 .rw[Array.getElem?_eq_getElem (by simpa using h),Array.getElem_modify];simp
 .rw[Array.getElem?_eq_none (by simpa using h)]
theorem zd3(b:Ad):∀(L:List Ad) (h:Heap),(without h L).get? b=if b∈L then B else h.get? b
 |[],h=>by simp[without]
 |c::L,h=>by
  rw[without,zd3 b L];by_cases U:b∈L
  .rw[Xq U,Xq<|y08 _ U]
  .rw[Xp U];by_cases hc:b=c
   .subst hc;rw[Xq y0c,zqo]
   .rw[Xp (by simp[hc,U]),y1d _ _<|Ne.symm hc]
theorem zbu(U:b∈L):(without h L).get? b=B:=by rw[zd3,Xq U]
theorem zb1(U:b∉L):(without h L).get? b=h.get? b:=by rw[zd3,Xp U]
theorem zcu(h:Heap)(L:List Ad):(without h L).StaysIn h:=λb o e=>by
 by_cases U:b∈L
 .rw[zbu U]at e;cases e
 .rw[zb1 U]at e;show e
theorem zc4{h base a:Heap}:∀{l:List Env},h.FunFrames base l->(∀b∈frs l,a.get? b=B)->h.FunFrames a l
 |[],_,_=>trivial
 |env::rest,⟨O,⟨L,o,j,E,Y,hd⟩,J⟩,k=>by
  let e:frs (env::rest)=L::frs rest:=by change List.filterMap _ (env::rest)=_;rw[y2j,j];rfl
  rw[e]at k;show⟨O,⟨L,o,j,k L y0c,Y,hd⟩,zc4 J λb U=>k b<|y08 _ U⟩
def Flown(h0:Heap)(H:Hp)(h:Heap)(a:Ad)(cls:Va):Prop :=
 ∃(x:Obj) (vs:Array Va) (T:Ad) (i:Obj) (ts:Array Va),h.get? a=G x/\x.cls=cls/\x.data=.fields vs/\vs[1]?=G (.ref T)/\T≠a/\h.get? T=G i/\i.data=.fields ts/\ts[3]?=G .none/\
  h0.get? a=B/\h0.get? T=B/\H a=B/\H T=B
def CXE(P:ik)(w:World):CXT:=λouter H s E e s'=>∃(a:Ad) (cls:Va) (H':Hp),e=.ref a/\s'.os=s.os/\j8 s'.gens/\Un (frs outer) [] H H' s.heap s'.heap/\HOk P w H' s'.heap/\Flown s.heap H' s'.heap a cls/\E cls 97 H'
theorem zc0(x:ObjOk P w H h a o):∃ob,h.get? a=G ob:=by
 induction o with
 |lst xs=>let(_,_,_,_,e):=x;show⟨_,e⟩
 |tup xs=>let(_,_,_,ob,e,_):=x;show⟨_,e⟩
 |dK kvs=>let(_,_,_,_,ob,_,_,e,_):=x;show⟨_,e⟩
 |dT kvs=>let(_,_,_,_,ob,_,_,e,_):=x;show⟨_,e⟩
 |set S n=>let(ob,_,_,_,e,_):=x;show⟨_,e⟩
 |ins C dx fs=>let(_,_,_,e,_):=x;show⟨_,e⟩
 |own _=>show x
 |xd fs=>let(_,(ob,i,l,e,_),_):=x;show⟨_,e⟩
 |rng lo hi=>let(_,_,_,e):=x;show⟨_,e⟩
 |frz ob u=>show⟨_,x.1⟩
 |tbl qs ps=>let(_,e,_):=x;show⟨_,e⟩
 |met f y=>show⟨_,x⟩
 |ext E=>show x.2.1
section
variable {X:Cx}{pins:Y2}{σ:St}{H:Hp}{s:ig}{Ex:Y0}
theorem zou(I:02 H s)(J:X.ex=[])(y:∀b∈L,X.s₀.heap.get? b=B/\H b=B)
  (l1:(without s.heap<|frs X.stack++L).StaysIn i) (l2:i.FunFrames (without s.heap<|frs X.stack++L) X.stack) (l3:i.Traced (without s.heap<|frs X.stack++L) a cls)
  (l4:∀b o,s.heap.get? b=G o->(∀vs,o.data ≠ .fields vs)->∃f,i.get? b=G {o with slots:=f}) (g:a∈L) (q:E cls (G a) H) :
  CXE X.prog X.w X.outer X.H₀ X.s₀ E 07 {s with heap:=i}:=by
 let(x,p,T,oT,ts,O,C,v,t4,t5,t6,d,t8,t9):=l3;let hTf:T∉frs X.stack:=λz=>by
  let(_,o,M,D):=l2.mem z;rw[d]at M;cases M;show D _ t8
 let nx:∀b,b∉X.ex:=λb z=>by rw[J]at z;cases z
 let st:∀b o,b∉frs X.stack->b∉L->s.heap.get? b=G o->i.get? b=G o:=λb o Y h2 e=>l1 b o (by rw[zb1 λz=>(y16.mp z).elim Y h2];show e);let out:∀b o,X.s₀.heap.get? b=G o->b∉frs X.outer->b∉frs X.stack:=λb o e h z=>by
  rcases y09.mp (I.stkSub b z)with w|w
  .exact y0m 108 w
  .exact h w
 let nL:∀b o,X.s₀.heap.get? b=G o->b∉L:=λb o e z=>by rw[(y b z).1]at e;cases e
 let T0:X.s₀.heap.get? T=B:=by
  cases e:X.s₀.heap.get? T with
  |none=>rfl
  |some o =>
   let(A,l):=I.base.there T o e<|nx T;rw[zb1 λz=>(y16.mp z).elim hTf<|nL T o e]at t5;rw[t5]at l;cases l
 let HT:H T=B:=by
  cases e:H T with
  |none=>rfl
  |some o =>
   let(A,l):=zc0<|I.hok T o e;by_cases hTL:T∈L
   .rw[(y T hTL).2]at e;cases e
   .rw[zb1 λz=>(y16.mp z).elim hTf hTL]at t5;rw[t5]at l;cases l
 apply⟨a,cls,H,R,I.os,I.bare,⟨λb o e n U _=>?_,λb o e n U _=>?_,λb o e n _=>I.base.free b o e n<|nx b,λb o e _=>?_,I.base.tups,I.base.frzs,I.base.tbls⟩,λb o e=>?_,⟨x,p,T,oT,ts,O,C,v,t4,t6,d,t8,t9,(y a g).1,T0,(y a g).2,HT⟩,q⟩
 .exact st b o (out b o e U) (nL b o e)<|I.base.keep b o e n U (nx b)
 .let(f,M):=I.base.slot b o e n U<|nx b;let(_,A,D,nf):=I.ok.funs.mem U;rw[e]at D;cases D;let(j,e3):=l4 b _ M nf;show⟨j,e3⟩
 .let(A,M):=I.base.there b o e<|nx b;by_cases U:b∈frs X.stack
  .let(_,Q,D,_):=l2.mem U;show⟨Q,D⟩
  .exact⟨A,st b A U (nL b o e) M⟩
 .refine(I.hok b o e).stay (λc u hc r=>st c u (λz=>?_) (λz=>?_) r) (λ_ z=>z) (λ_ _ _ _ _ z=>z) λ_ _ z=>z
  .let:=I.stkFree c z;rcases hc with rfl|hc
   .rw[this]at e;cases e
   .rw[this]at hc;cases hc
  .let:=(y c z).2;rcases hc with rfl|hc
   .rw[this]at e;cases e
   .rw[this]at hc;cases hc
theorem zm9(I:02 H s)(J:X.ex=[])(hs:X.stack=X.env::X.outer)(j:X.env.frame=G X.env.locals)(M:Heap.MadeExcOf s.heap h' a cls vs)(q:E cls 97 H):
  wpAny 26 X.A (jT X.env 07) (λ_ g=>CXE X.prog X.w X.outer X.H₀ X.s₀ E 07 g) Ex {s with heap:=h'}:=by
 let(t,d,_,_):=M.there;let w:02 H {s with heap:=h',toks:=s.toks}:=I.kept M.keeps;let c:H a=B:=by
  cases e:H a with
  |none=>rfl
  |some o =>
   let(A,l):=zc0<|I.hok a o e;rw[M.new]at l;cases l
 let Q:X.s₀.heap.get? a=B:=by
  cases e:X.s₀.heap.get? a with
  |none=>rfl
  |some o =>
   let(A,l):=I.base.there a o e (λz=>by rw[J]at z;cases z);rw[M.new]at l;cases l
 apply wpAny_leaving_first (base:=without h'<|frs X.stack++[a]) (outer:=X.outer) (L:=X.env.locals) (by rw[←hs];show I.ok.frames) (by rw[←hs];show zc4 w.stack λb U=>zbu<|y0a _ U) j d (zcu _ _)
  (zbu<|y0p _ (y0e.mpr R)) R R λi ⟨l1,l2,p,r⟩=>?_
 rw[←hs]at l2;show zou (L:=[a]) w J (λb U=>by rw[y0e.mp U];show⟨Q,c⟩) l1 l2 p r (y0e.mpr R) q
theorem zfe(I:02 H s)(J:X.ex=[])(hs:X.stack=X.env::X.outer)(j:X.env.frame=G X.env.locals)(c:CXE X.prog X.w X.stack H s E' e s')(q:∀a cls H',E' cls 97 H'->E cls 97 H'):
  wpAny 26 X.A (jT X.env e) (λ_ g=>CXE X.prog X.w X.outer X.H₀ X.s₀ E e g) Ex s':=by
 let(a,cls,H',rfl,os,bare,un,hok,(x,vs,T,oT,ts,O,C,v,y,D,d,M,f,u,n2,Y,h2),ee):=c;let w:02 H' s':=I.call' os un hok bare λb z=>nomatch z;let Q:∀b,s.heap.get? b=B->X.s₀.heap.get? b=B:=λb z=>by
  cases e:X.s₀.heap.get? b with
  |none=>rfl
  |some o =>
   let(A,l):=I.base.there b o e (λz=>by rw[J]at z;cases z);rw[z]at l;cases l
 apply wpAny_leaving_next (base:=without s'.heap<|frs X.stack++[a,T]) (outer:=X.outer) (L:=X.env.locals) (cls:=cls) (by rw[←hs];show I.ok.frames) (by rw[←hs];show zc4 w.stack λb U=>zbu<|y0a _ U) j
  ⟨x,vs,T,oT,ts,O,C,v,y,zbu<|y0p _ 05,D,d,M,f⟩ (zcu _ _) (zbu<|y0p _ 05) λi ⟨l1,l2,p,r⟩=>?_
 rw[←hs]at l2;show zou (L:=[a,T]) w J (λb U=>by
  simp only[y09,y0l,or_false]at U;rcases U with rfl|rfl
  .exact⟨Q _ u,Y⟩
  .exact⟨Q _ n2,h2⟩) l1 l2 p r 05 (q _ _ _ ee)
theorem zti(I:02 H s)(M:Heap.MadeExcOf s.heap h' a cls vs):H a=B:=by
 cases e:H a with
 |none=>rfl
 |some o =>
  let(A,l):=zc0<|I.hok a o e;rw[M.new]at l;cases l
end
structure Rs(X:Cx)(E:XK):Prop where
 ex:X.ex=[]
 st:X.stack=X.env::X.outer
 fr:X.env.frame=G X.env.locals
 xe:∀e s',wpAny 26 X.A (jT X.env e) (λ_ s''=>CXE X.prog X.w X.outer X.H₀ X.s₀ E e s'') (λe' s''=>CXE X.prog X.w X.outer X.H₀ X.s₀ E e' s'') s'->X.xe e s'
theorem Rs.passes(Rq:Rs X E)(q:∀a cls H',E' cls 97 H'->E cls 97 H'):Passes (CXE X.prog X.w) X E':=λpins σ H s e s' I c=>Rq.xe e s'<|zfe I Rq.ex Rq.st Rq.fr c q
def tRaise(E:XK)(cls:Va)(t:TA):TS:=λD σ H=>t σ H λvs H1=>vs.length<=ii/\∀a,H1 a=B->E cls 97 H1
theorem zv2{X:Cx}{E:XK}{x:Str}{C:Ad}{Bq c i:String}{bm:List Va}{j e pos:Pos}{f:Expr}{rest:List Expr}{t:TA}(Rq:Rs X E)(hc:X.calm=N)(y:Gl X x)(O:OwnCls x C bm c X.mg X.base)(FB:ExcBaseFacts Bq c i bm)(g:PA X (f::rest) t)
  (d:im (f::rest) X.env=(Fa,eval f X.env)::im rest X.env:=by rfl) (l:(iN e<|im rest X.env).any (·.1)=Fa:=by rfl) (hd:82=Fa:=by decide) :
  PS X (.Raise (G<|.Call (.Name x j) (f::rest) [] e) B pos) (tRaise E 74 t):=by
 intro pins s σ H D I h;let(tl,Nq,nm,q,bs,hdct,sn,sub,ab,col,dd,k0,k1,k2,k3,k5,mN,o,hN,r,T):=O.obj;apply wpAny_Raise_call_subT (C:=C) (nm:=nm) (q:=q) («N»:=Nq) (bs:=bs) (bm:=tl) (hdct:=hdct) (sn:=sn) (sub:=sub) (ab:=ab) (col:=col) (dd:=dd) (k0:=k0) (k1:=k1) (k2:=k2) (k3:=k3) (k5:=k5)
  FB (mN:=mN) (T.hasType FB.hasBase) 026 (by rw[d];change(Fa||(iN e<|im rest X.env).any (·.1))=Fa;rw[l];rfl) r ?_
 apply thn (zr8 (v:=.ref C) (pos:=j) y O.bound R hd pins s σ H (λv H'=>v=.ref C/\H'=H) I ⟨R,R⟩) λu s1 zz=>ex5 zz λv H1 I1 r1 zq=>?_;let(w,J):=zq;subst w J;apply⟨r1,?_⟩;let p:=g e pins s1 σ H1 _ I1 h;rw[d]at p ⊢;apply Calls.evalArgs_plain<|thn p λus s2 ⟨vs,H2,A,L,z,q⟩=>⟨R,by rw[←L.length];show z,A.bk _ _ o,hN.keeps A.bk,T.keeps A.bk,λh' a M=>Rq.xe _ _<|zm9 A Rq.ex Rq.st Rq.fr M (q a<|zti A M)⟩
theorem Fun.okE{P:ik}{w:World}{K:Frag}{mg:Y1}{base:Heap}{x qual:Str}{st:Stmt}{f:Ad}{fd:i5}{Nq ps:List Str}{k:Nat}{sp:Sp}(F:Fun K x qual st f fd)(S:FnScope Nq ps 95)(len:∀vs H Q E,sp vs H Q E->vs.length=ps.length)
  (i:∀(cdv:Va) (A:io) (outer:List Env) (s:ig) (H:Hp) (vs:List V) (Q:VK) (E:XK),Room k 141->sp vs H Q E->Rs 123 E->
   ∃t,PSs 123 040 t/\t {nx:=λ_ H'=>Q .non H',rt:=Q} 023 H):FnOk P w K mg base (CXE P w) (k+1) f fd ps sp:=by
 let(oc,T,kV,doc,j,a,cdv,ct,g,rfl,lk,hcd):=F.ex;show fn_of lk hcd S len λA outer s H vs Q E L l=>i cdv A outer s H vs Q E L l ⟨R,R,R,λ_ _ h=>h⟩
open PySem PySem.Spec PyProof.Rows PySem.Calls
section
variable {X:Cx}{pins:Y2}{σ:St}{H:Hp}{s:ig}
theorem Inv.names(I:02 H s)(hN:X.Nq.Nodup)(Q:X.Nq[j]?=G n)(E:s.heap.Ns X.env.locals m)
  (C:∀(i:Nat) (x:Str) (v:V),X.Nq[i]?=G x->σ[i]?=G 018->Vis X.env.scope x->∃u,RelV v u/\Look X.env s.heap m x u) (g:h'.Ns X.env.locals T) (Y:∀x,x≠n->T x=m x) (hs:Heap.SameBut X.env.locals s.heap h') :
  Inv X pins (σ.set j B) H {s with heap:=h'}:=by
 let a:∀b o,X.s₀.heap.get? b=G o->b≠X.env.locals:=λb o e=>y0m 108;apply⟨I.ok,I.os,I.bare,⟨λb o e k U J=>(hs.2 b<|a b o e).trans<|I.base.keep b o e k U J,λb o e k U J=>?_,I.base.free,λb o e J=>?_,I.base.tups,I.base.frzs,I.base.tbls⟩,⟨T,g,λi y v M D L=>?_⟩,λy c e=>?_,I.free,I.freeC,λp l=>?_,λb ob e=>?_,by simpa using I.len⟩
 .let(f,M):=I.base.slot b o e k U J;show⟨f,(hs.2 b<|a b o e).trans M⟩
 .let(A,M):=I.base.there b o e J;show⟨A,(hs.2 b<|a b o e).trans M⟩
 .by_cases r:i=j
  .subst r;rw[y2p<|by rw[I.len];show(y0d.mp Q).1]at D;cases D
  .rw[y3d<|Ne.symm r]at D;let(w,r',q):=C i y v M D L;apply⟨w,r',?_⟩;rcases q with⟨k,e⟩|⟨k,c,e,z⟩
   .exact .inl ⟨k,by rw[Y y λz=>r<|zi5 hN M (z▸Q)];show e⟩
   .exact .inr ⟨k,c,e,z.sameBut hs<|I.cne y c e⟩
 .let(w',z):=I.cell y c e;show⟨w',z.sameBut hs<|I.cne y c e⟩
 .let(e,k,ne,O,d):=I.pin p l;show⟨(hs.2 p.1 ne).trans e,k,ne,O,d⟩
 .refine(I.hok b ob e).stay (λc w' hc q=>(hs.2 c ?_).trans q) (λ_ q=>q) (λ_ _ _ _ _ q=>q) λ_ _ q=>q;rintro rfl;rcases hc with rfl|hc
  .rw[I.free]at e;cases e
  .rw[I.free]at hc;cases hc
theorem zq8(I:02 H s)(hN:X.Nq.Nodup)(o:X.Nq[j]?=G n)(O:X.env.scope.names.lookup n=G .local)(hv:σ[j]?=G 018)
  (h:∀s',Inv X pins (σ.set j B) H s'->Q () s'):wpAny M A (unbindName X.env n) Q E s:=by
 let(m,L,C):=id I.loc;let(u,r,lk):=C j n v o hv<|.inl O;let a:m n=G u:=by
  rcases lk with⟨_,e⟩|⟨k,_⟩
  .exact e
  .rcases k with k|k<;>(have:X.env.kindOf n=G .local:=O;rw[this]at k;cases k)
 show wpAny_unbindName_local O L a (by rw[I.ok.kind];rfl) λh' w g hs=>h _<|I.names hN o L C g (λx J=>Xp J) hs
noncomputable def Cx.held(X:Cx)(a:Ad):Cx:={X with A:=X.A.mark<|G (.ref a),calm:=Fa,xe:=λ_ _=>False}
theorem Cx.Ok.held(ok:X.Ok):(X.held a).Ok:=⟨ok.mod,ok.kind,ok.glob,ok.blt,ok.above,ok.inj,ok.has,ok.cab,(λh=>nomatch h),ok.frames,ok.stk,ok.exf,ok.bs,ok.bsz,ok.noex,ok.exfs,ok.funs,ok.frf⟩
theorem Inv.held(I:02 H s):Inv (X.held a) pins σ H s:=⟨I.ok.held,I.os,I.bare,I.base,I.loc,I.cell,I.free,I.freeC,I.pin,I.hok,I.len⟩
theorem Inv.unheld(ok:X.Ok)(I:Inv (X.held a) pins σ H s):02 H s:=⟨ok,I.os,I.bare,I.base,I.loc,I.cell,I.free,I.freeC,I.pin,I.hok,I.len⟩
theorem Inv.adopt(I:02 H s)(g:H a=B)(h0:X.s₀.heap.get? a=B)(d:s.heap.get? a=G Q)(hd:Q.data=.fields vs)(l:∀p∈X.pn++pins,p.1≠a)(new:ObjOk X.prog X.w (upd H a o) s.heap a o):
  02 (upd H a o) s:=by
 let w:X.env.locals≠a:=λz=>by
  let(m,(ob,i,O,e,dd,_),_):=I.loc;rw[z,d]at e;cases e;rw[hd]at dd;cases dd
 let y:∀x c,X.env.cells.lookup x=G c->c≠a:=λx c e z=>by
  let(v,ob,M,dd):=I.cell x c e;rw[z,d]at M;cases M;rw[hd]at dd;cases dd
 let up:∀b u,H b=G u->upd H a o b=G u:=λb u e=>by rw[zaj λz=>by rw[z,g]at e;cases e];show e
 apply⟨I.ok,I.os,I.bare,⟨I.base.keep,I.base.slot,λb ob e k J=>?_,I.base.there,λb xs e=>up _ _<|I.base.tups b xs e,λb ob u e=>up _ _<|I.base.frzs b ob u e,λb qs ps e=>up _ _<|I.base.tbls b qs ps e⟩,I.loc,I.cell,by rw[zaj w];show I.free,λx c e=>by rw[zaj<|y x c e];show I.freeC x c e,λp j=>?_,λb u e=>?_,I.len⟩
 .rw[zaj λz=>by rw[z,h0]at e;cases e];show I.base.free b ob e k J
 .let(e,k,r):=I.pin p j;show⟨e,by rw[zaj<|l p j];show k,r⟩
 .by_cases U:b=a
  .subst U;rw[zat]at e;cases e;show new
  .rw[zaj U]at e;show(I.hok b u e).stay (λ_ _ _ q=>q) (λc q=>up c _ q) (λc _ _ _ _ q=>up c _ q) λc xs q=>up c _ q
theorem Inv.touch{h':Heap}{L:List Ad}{t':Nat}(I:02 H s)(k:∀b o,b∉frs X.stack->b∉L->s.heap.get? b=G o->h'.get? b=G o)(f:∀b o,b∈frs X.stack->s.heap.get? b=G o->∃f,h'.get? b=G {o with slots:=f})
  (y:∀b∈L,∃E,H b=G (.ext E)/\E h'/\∃o,h'.get? b=G o):02 H {s with heap:=h',toks:=t'}:=by
 let fr:∀b∈frs X.stack,H b=B:=I.stkFree;apply I.call' (ch:=[]) R ⟨λb o e n U _=>k b o U (λz=>?_) e,λb o e n U _=>f b o U e,λ_ _ _ n _=>n,λb o e _=>?_,λ_ _ e=>e,λ_ _ _ e=>e,λ_ _ _ e=>e⟩ (λb u e=>?_) I.bare λb z=>nomatch z
 .let(E,l,_):=y b z;rw[n]at l;cases l
 .by_cases U:b∈frs X.stack
  .let(q,l):=f b o U e;show⟨_,l⟩
  .by_cases C:b∈L
   .let(_,_,_,A,l):=y b C;show⟨A,l⟩
   .exact⟨o,k b o U C e⟩
 .by_cases C:b∈L
  .let(E,l,p,A,a):=y b C;rw[e]at l;cases l;show⟨p,⟨A,a⟩,(I.hok b _ e).2.2⟩
  .refine(I.hok b u e).stay (λc w hc r=>k c w (λz=>?_) (λz=>?_) r) (λ_ z=>z) (λ_ _ _ _ _ z=>z) λ_ _ z=>z
   .let:=fr c z;rcases hc with rfl|hc
    .rw[this]at e;cases e
    .rw[this]at hc;cases hc
   .rcases hc with rfl|hc
    .exact C z
    .let(E,l,_):=y c z;rw[hc]at l;cases l
def ExcIs(a:Ad)(cls:Va)(h:Heap):Prop:=∃(o:Obj) (vs:Array Va),h.get? a=G o/\o.cls=cls/\o.data=.fields vs
def TbIs(T:Ad)(h:Heap):Prop:=∃(o:Obj) (vs:Array Va),h.get? T=G o/\o.data=.fields vs
noncomputable def excO(a:Ad)(cls:Va):HO:=.ext<|ExcIs a cls
noncomputable def tbO(T:Ad):HO:=.ext<|TbIs T
theorem exc_ok(x:ExcIs a cls h):ObjOk P w H h a (excO a cls) :=
 ⟨x,let⟨o,_,e,_⟩:=x;⟨o,e⟩,λY h2 ⟨o,vs,e,r⟩ k=>⟨o,vs,k o e,r⟩⟩
theorem tb_ok(x:TbIs T h):ObjOk P w H h T (tbO T) :=
 ⟨x,let⟨o,_,e,_⟩:=x;⟨o,e⟩,λY h2 ⟨o,vs,e,r⟩ k=>⟨o,vs,k o e,r⟩⟩
end
section
variable {prog:ik}{w:World}{A:io}{E:Y0}{s:ig}{env:Env}
theorem zw9(af:A.frames=G (env::outer))(C:s.heap.FunFrames base (env::outer))(j:env.frame=G L)(d:s.heap.get? e=G x)(hd:x.data=.fields vs)(Y:vs[1]?=G (.ref T))
  (hTe:T≠e) (v:s.heap.get? T=G oT) (l:oT.data=.fields ts) (h3:ts[3]?=G .none)
  (h:∀h',(∀b o,b∉frs (env::outer)->b≠e->b≠T->s.heap.get? b=G o->h'.get? b=G o)->(∀b o,b∈frs (env::outer)->s.heap.get? b=G o->∃f,h'.get? b=G {o with slots:=f})->TbIs T h'->
   (∃(r:Obj) (p:Array Va) (T2:Ad) (I:Obj) (fw:Array Va),h'.get? e=G r/\r.cls=x.cls/\r.data=.fields p/\p[1]?=G (.ref T2)/\T2≠e/\h'.get? T2=G I/\I.data=.fields fw/\fw[3]?=G .none/\s.heap.get? T2=B)->Q () {s with heap:=h'}) :
  wpAny 73 A (noteFrame (.ref e) env) (λ_ s'=>wpAny 73 A (setFlight (.ref e) B) Q E s') E s:=by
 unfold noteFrame;simp only[j];apply ia<|iu d hd Y ?_;rw[Xq<|show(Va.ref T !=Va.none)=N from by simp];apply ia<|iu v l h3 ?_;rw[Xp<|show¬((Va.none==iF L)=N)from by simp[iF]];apply ia<|jD v l (y2z.mp h3).1 ?_;let g:∀b,b≠T->(s.heap.update T (Obj.mapFields (·.setIfInBounds 3 Va.none))).get? b=s.heap.get? b:=λb U=>y1d _ _<|Ne.symm U;let a:=Obj.data_mapFields l (·.setIfInBounds 3 Va.none);let hT':=y1o (Obj.mapFields (·.setIfInBounds 3 Va.none)) v<|Obj.isFreed_of_fields a;generalize s.heap.update T (Obj.mapFields (·.setIfInBounds 3 Va.none))=h2 at g hT';let nr:∀b o,s.heap.get? b=G o->(∀vs,o.data ≠ .fields vs)->b≠T:=λb o U hnf q=>by
  rw[q,v]at U;injection U with U;subst U;show hnf ts l
 let i:h2.FunFrames base (env::outer):=C.of_keeps λb o U hnf=>⟨o,(g b<|nr b o U hnf).trans U,R⟩;let fT:T∉frs (env::outer):=λz=>by
  let(_,o,M,D):=C.mem z;rw[v]at M;cases M;show D _ l
 let fe:e∉frs (env::outer):=λz=>by
  let(_,o,M,D):=C.mem z;rw[d]at M;cases M;show D _ hd
 apply wpAny_newEntry (base:=without h2<|frs (env::outer)++[e]) af (zc4 i λb U=>zbu<|y0a _ U) j ((g e<|Ne.symm hTe).trans d) (zcu _ _) (zbu<|y0p _ (y0e.mpr R)) hd (y2z.mp Y).1
  λh' ⟨y,J,x3,x4⟩=>?_
 let st:∀b o,b∉frs (env::outer)->b≠e->h2.get? b=G o->h'.get? b=G o:=λb o u c q=>y b o (by rw[zb1 λz=>(y16.mp z).elim u λz=>c<|y0e.mp z];show q);let(r,p,T2,I,fw,O,t2,t3,t4,H,t6,t7,t8,t9):=x3;let f2:T2∉frs (env::outer):=λz=>by
  let(_,o,M,D):=J.mem z;rw[t7]at M;cases M;show D _ t8
 let c:h2.get? T2=B:=by rw[zb1 λz=>(y16.mp z).elim f2 λz=>t6<|y0e.mp z]at H;show H
 let n2T:T2≠T:=λz=>by rw[z,hT']at c;cases c
 apply h h' (λb o b1 b2 b3 q=>st b o b1 b2<|(g b b3).trans q) (λb o U q=>?_) ⟨_,_,st T _ fT hTe hT',a⟩ ⟨r,p,T2,I,fw,O,t2,t3,t4,t6,t7,t8,t9,by rw[←g T2 n2T];show c⟩;let(_,o',M,D):=C.mem U;rw[q]at M;cases M;show x4 b o ((g b<|nr b o q D).trans q) D
end
section
variable {X:Cx}{pins:Y2}{σ:St}{H:Hp}{s:ig}{k:Nat}{fa:Ad}{fd:i5}{ps:List Str}{sp:Sp}
theorem ztx{M:Model}{A:io}{E:Y0}{a T:Ad}{x i:Obj}{vs ts:Array Va}{Q:Unit->ig->Prop}(I:02 H s)(d:s.heap.get? a=G x)(hd:x.data=.fields vs)(Y:vs[1]?=G (.ref T))(v:s.heap.get? T=G i)(l:i.data=.fields ts)(h3:3<ts.size)
  (r:H T=G (tbO T)) (h:∀h',02 H {s with heap:=h'}->Q () {s with heap:=h'}):wpAny M A (setFlight (.ref a) B) Q E s:=by
 unfold setFlight;apply ia<|iu d hd Y ?_;rw[Xq<|show(Va.ref T !=Va.none)=N from by simp];apply jD v l h3 ?_;let g:∀b,b≠T->(s.heap.update T (Obj.mapFields (·.setIfInBounds 3 ((B:Option Ad).elim Va.none λf=>iF f)))).get? b=s.heap.get? b:=λb U=>y1d _ _<|Ne.symm U;let e:=Obj.data_mapFields l (·.setIfInBounds 3 ((B:Option Ad).elim Va.none λf=>iF f));let c:=y1o (Obj.mapFields (·.setIfInBounds 3 ((B:Option Ad).elim Va.none λf=>iF f))) v<|Obj.isFreed_of_fields e;apply h _<|I.touch (L:=[T]) (t':=s.toks) (λb o _ n q=>(g b λz=>n<|y0e.mpr z).trans q) (λb o U q=>⟨o.slots,(g b λz=>?_).trans q⟩) λb U=>?_
 .let:=I.stkFree b U;rw[z,r]at this;cases this
 .rw[y0e.mp U];show⟨_,r,⟨_,_,c,e⟩,_,c⟩
end
open PySem PySem.Spec PyProof.Rows PySem.W
structure KExc(K:Frag)(C:Ad):Prop where
 ga:findIn K 74 "__getattribute__"=G (G<|.builtin "BaseException.__getattribute__")
 gn:findIn K 74 "__getattr__"=G B
 cl:findIn K 74 "__class__"=G (G 120)
 mb:mroIn K C (.type "BaseException")=G N
 mo:mroIn K C (.type "object")=G N
 ic:hasDictIn K C=N
section
variable {prog:ik}{w:World}{A:io}{E:Y0}{K:Frag}{h:Heap}{g:Array jq}{d:Drawn}{t:Nat}{os:OsState}{a C:Ad}{o:Obj}
theorem znz(X:K.In h)(e:mroIn K C base=G r)(T:Q r ⟨h,g,d,t,os⟩):wpAny M A (isSubtype 74 base) Q E ⟨h,g,d,t,os⟩:=looks_mroIn X e A Q E _ (λ_ _ e=>e) T
theorem znd(X:K.In h)(e:findIn K v n=G r)(T:Q r ⟨h,g,d,t,os⟩):wpAny M A (jo v n) Q E ⟨h,g,d,t,os⟩:=looks_findIn X e A Q E _ (λ_ _ e=>e) T
theorem zjm(X:K.In h)(k:KExc K C)(hx:h.get? a=G o)(hc:o.cls=.ref C)(hq:Rq (.ok<|.ret 74) ⟨h,g,d,t,os⟩):
  iZ 73 A (.call (.builtin "getset_descriptor.__get__") ⟨[.builtin "object.__class__",.ref a,.ref C],[]⟩) Rq ⟨h,g,d,t,os⟩:=by
 let hT5:(⟨h,g,d,t,os⟩:ig).TypeIs 120 "getset_descriptor":=F.typeOf_object_class;let mo:mroIn K C (.type<|".".intercalate ("object.__class__".cutAt '.').dropLast)=G N:=by rw[F.owner_object_class];show k.mo
 apply ja F.slot_gs_get.plain F.entry_gs_get<|F.slot_gs_get.check _ _ _ _ _ _ _ _ hT5 (F.args_gs_get _ _ _) ?_
 repeat (any_goals (first|assumption|(with_reducible apply iI hx ?_;rw[hc])|(with_reducible apply znz X mo ?_)|wp_step))
 apply⟨Code.quiet_builtin _ 52,iJ F.entry_object_class ?_⟩
 repeat (any_goals (first|assumption|(with_reducible apply iI hx ?_;rw[hc])|wp_step))
theorem zlv(X:K.In h)(k:KExc K C)(hx:h.get? a=G o)(hc:o.cls=.ref C)(hq:Q () ⟨h,g,d,t,os⟩):wpAny M A (jy "BaseException.__getattribute__" ⟨[.ref a,nameV],[]⟩) Q E ⟨h,g,d,t,os⟩:=by
 let hk:builtinKind "BaseException.__getattribute__"=G .slot:=by decide+kernel
 let hsplit:splitId "BaseException.__getattribute__"=G ("BaseException","__getattribute__"):=by decide+kernel
 let mb:=k.mb;let ha:=F.args_bexc_ga 07 nameV;simp only[jy,hk,hsplit];apply ia ?_;unfold isInstance
 repeat (first|(with_reducible apply iI hx ?_;rw[hc])|(with_reducible apply znz X mb ?_)|wp_step)
 show hq
theorem zg0(X:K.In h)(k:KExc K C)(hx:h.get? a=G o)(hc:o.cls=.ref C)(hq:Q (.done<|.ret 74) ⟨h,g,d,t,os⟩):
  wpAny 73 A (Builtin.«object.__getattribute__» ⟨[.ref a,.str "__class__" tk],[]⟩) Q E ⟨h,g,d,t,os⟩:=by
 let hT5:(⟨h,g,d,t,os⟩:ig).TypeIs 120 "getset_descriptor":=F.typeOf_object_class;let cl:=k.cl;let f5:=F.typeOf_object_class;let f6:=F.slot_gs_get.lookup;let f7:=F.slot_gs_set.lookup
 repeat (any_goals (first|assumption|(with_reducible apply iI hx ?_;rw[hc])|(with_reducible apply znd X cl ?_)|wp_step))
 apply zjm X k hx hc ?_
 repeat (any_goals (first|assumption|wp_step))
theorem zlu(FB:ExcAttrFacts "ValueError")(X:K.In h)(k:KExc K C)(hx:h.get? a=G o)(hc:o.cls=.ref C)(hq:Q 74 ⟨h,g,d,t,os⟩):wpAny 73 A (getAttrBy 07 (.str "__class__" tk) Fa) Q E ⟨h,g,d,t,os⟩:=by
 let f3:=FB.ga.bind 07;let hx2:(Va.builtin "BaseException.__getattribute__"==Va.builtin "object.__getattribute__")=Fa:=by decide+kernel
 let ga:=k.ga;let gn:=k.gn
 repeat (any_goals (first|assumption|(with_reducible apply iI hx ?_;rw[hc])|(with_reducible apply znd X ga ?_)|(with_reducible apply znd X gn ?_)|wp_step))
 apply ja FB.ga.plain F.entry_bexc_ga<|zlv X k hx hc (zg0 X k hx hc ?_)
 repeat (any_goals (first|assumption|wp_step))
theorem zha(FB:ExcAttrFacts "ValueError")(X:K.In h)(k:KExc K C)(hx:h.get? a=G o)(hc:o.cls=.ref C)(hq:Q (G 74) ⟨h,g,d,t+1,os⟩):wpAny 73 A (getAttr? 07 "__class__") Q E ⟨h,g,d,t,os⟩:=by
 unfold getAttr? getAttrBy?
 repeat (any_goals (first|assumption|with_reducible apply zlu FB X k hx hc ?_|wp_step))
end
theorem zov{K:Frag}{a C:Ad}(k:KExc K C):KitX K 07 74 (λh=>∃o,h.get? a=G o/\o.cls=.ref C) where
 ty:=λM h _ ⟨o,e,c⟩=>by
  intro A Q E s kk q;let(hp,g,d,t,os):=s;let e':=kk _ _ e
  repeat (first|(with_reducible apply iI e' ?_;rw[c])|wp_step)
  show q
 it:=λ_ _ X _=>by
  let(cd,hcD,_):=any_some k.ic;unfold clsIn at hcD;split at hcD
  .rename_i c' d' cd' sl' ho;intro A' Q' E' s' kk q;unfold isType loadHead;show ia<|wpAny_loadPart (kk _ _<|X _ _ ho) (ib q)
  .cases hcD
 ne:=λh tp dd its n sl X htp=>by
  let(cd,hcD,_):=any_some k.ic;apply y19.mpr λq=>?_;let e:C=tp:=Va.ref.inj<|beq_iff_eq.mp q;subst e;unfold clsIn at hcD;split at hcD
  .rename_i c' d' cd' sl' ho;let z:=(X _ _ ho).symm.trans htp;cases z
  .cases hcD
 ca:=λ{_ _ _ _ _ s} X p q=>by
  let(hp,g,d,t,os):=s;let(o,e,c):=p;show zha F.excAttr_ValueError X k e c q
def rIsX(K:Frag):List V->Hp->VK->Prop:=λxs H Q=>∃a C S b,xs=[.ref a,.ref S]/\H a=G (excO a 74)/\KExc K C/\kitOne K 74 (.ref S)=G b/\Q (.bl b) H
def rIsXT(K:Frag):List V->Hp->VK->Prop:=λxs H Q=>∃a C T b,xs=[.ref a,.ty T]/\H a=G (excO a 74)/\KExc K C/\kitOne K 74 (.type T)=G b/\Q (.bl b) H
theorem zzc{X:Cx}{pins:Y2}{σ:St}{H:Hp}{s:ig}{a:Ad}{cls:Va}(I:02 H s)(e:H a=G (excO a cls)):∃o,s.heap.get? a=G o/\o.cls=cls :=
 let⟨⟨o,_,Y,h2,_⟩,_,_⟩:=(show ObjOk X.prog X.w H s.heap a (excO a cls)from I.hok a _ e)
 ⟨o,Y,h2⟩
theorem zye:CallR X 080 (rIsX X.K):=by
 intro pins s σ H xs us Q I r h;let(a,C,S,b,rfl,O,k,e,q):=h;let(u,w',rfl,rx,ry):=vals2 r;cases(show w'=Va.ref S from ry);cases(show u=Va.ref a from rx);show kia_one (zov k) I.kIn (zzc I O) e (λz=>nomatch z) λf=>⟨.bl b,H,I.tok _,R,q⟩
theorem zu4:CallR X 080 (rIsXT X.K):=by
 intro pins s σ H xs us Q I r h;let(a,C,T,b,rfl,O,k,e,q):=h;let(u,w',rfl,rx,ry):=vals2 r;cases(show w'=Va.type T from ry);cases(show u=Va.ref a from rx);show kia_one (zov k) I.kIn (zzc I O) e (λz=>nomatch z) λf=>⟨.bl b,H,I.tok _,R,q⟩
open PySem PySem.Spec PyProof.Rows PySem.W PySem.Calls
section
variable {M:Model}{A:io}{E:Y0}{K:Frag}{h:Heap}{g:Array jq}{d:Drawn}{t:Nat}{os:OsState}
theorem type_at(X:K.In h)(e:typeIn K v=G c)(T:Q c ⟨h,g,d,t,os⟩):wpAny M A (typeOf v) Q E ⟨h,g,d,t,os⟩:=looks_typeIn X e A Q E _ (λ_ _ e=>e) T
structure KSup(K:Frag)(S:Ad):Prop where
 ty:typeIn K (.ref S)=G (.type "type")
 mb:mroIn K S (.type "BaseException")=G N
 ic:hasDictIn K S=N
theorem zlm(X:K.In h)(k:KSup K S)(he:h.get? e=G oe)(hcls:oe.cls=.ref C)(ms:mroIn K C (.ref S)=G N)(hq:Q N ⟨h,g,d,t,os⟩):wpAny M A (excMatches (.ref e)<|.ref S) Q E ⟨h,g,d,t,os⟩:=by
 let ty:=k.ty;let mb:=k.mb;let f:=tc_notTuple;let(cd,hcd,_):=any_some k.ic;unfold clsIn at hcd;split at hcd
 .rename_i c' d' cd' sl' ho;let hS:=X _ _ ho;unfold excMatches
  repeat (first|(with_reducible apply iI he ?_;rw[hcls])|(with_reducible apply type_at X ty ?_)|with_reducible apply iI hS ?_|(with_reducible apply znz X mb ?_)|(with_reducible apply znz X ms ?_)|wp_step)
  show hq
 .cases hcd
end
section
variable {prog:ik}{w:World}{A:io}{E:Y0}{s:ig}{env:Env}
theorem ztt{K:Frag}{a C S:Ad}{t:Expr}{n:Str}{u:Stmt}{r:List Stmt}{pos:Pos}{rest:List ExceptHandler}{Q:Flow->ig->Prop}(k:KSup K S)(ms:mroIn K C (.ref S)=G N)
  (h:wpAny 73 (A.mark<|G 07) (eval t env) (λc s₁=>c=.ref S/\K.In s₁.heap/\(∃x,s₁.heap.get? a=G x/\x.cls=.ref C)/\
   wpAny 73 (A.mark<|G 07) (setFlight 07 B) (λ_ s₂=>wpAny 73 (A.mark<|G 07) (jB env n 07) (λ_ s₃=>wpAny 73 (A.mark<|G 07) (execs (u::r) env)
    (λf i=>wpAny 73 A (do bindName env n .none;unbindBehindTheSuite env n pos) (λ_ l=>Q f l) E i) (λ_ _=>False) s₃) (λ_ _=>False) s₂) (λ_ _=>False) s₁) (λ_ _=>False) s) :
  wpAny 73 A (handleBy 07 env (.ExceptHandler (G t) (G n) (u::r) pos::rest)) Q E s:=by
 apply wpAny_handleBy_cons (codeAny_handlers_test<|ip h (λc s₁ h₁=>?_) λ_ _ y=>False.elim y) (by intro q;cases q);let(rfl,v,(x,z,o),O):=h₁;let(p,g,d,D,os):=s₁;apply zlm v k z o ms<|codeAny_handlers_suite_as ?_;show ip O (λ_ s₂ j=>ip j (λ_ s₃ e=>ip e (λ_ _ y=>y) λ_ _ y=>False.elim y) λ_ _ y=>False.elim y) λ_ _ y=>False.elim y
end
section
variable {X:Cx}{pins:Y2}{σ:St}{H:Hp}{s:ig}{k:Nat}{fa:Ad}{fd:i5}{ps:List Str}{sp:Sp}
def tTry(K:Frag)(S:Ad)(sp:Sp)(i j:Nat)(t:TA)(ts:TS):TS:=λD σ H=>t σ H λvs H1=>sp vs H1 (λv H2=>D.nx (σ.set i 018) H2) λcls c H2=>∀a,c=G a->∃C,cls=.ref C/\mroIn K C (.ref S)=G N/\
 ∀H3,Same H2 H3->H3 a=G (excO a cls)->ts {nx:=λO H'=>(∃v,O[j]?=G 018)/\D.nx (O.set j B) H',rt:=λ_ _=>False} (σ.set j<|G 07) H3
end
theorem own_K{K:Frag}(X:K.In h)(A:mg x=G 74)(q:excIn K C e c=N):OwnCls x C e c mg h:=by
 apply⟨A,?_⟩;unfold excIn at q;split at q
 .rename_i dd cd f Y;split at q
  .rename_i r bm k0 k1 k2 k3 n k5 M D;simp only[y05,beq_iff_eq,Bool.not_eq_true']at q;let(((((I,T),j),d),g),i):=q;let o:=X _ _ Y;let(nm,bs,mro,ns,a,hd,sn,sub,ab,col,p):=cd;simp only at M j g i;subst M I T j;obtain⟨l⟩:=f;simp only at D;subst D;show⟨bm,ns,nm,a,bs,hd,sn,sub,ab,col,dd,k0,k1,k2,k3,k5,_,o,.of_isNs<|isNs_of_in X g,nsMap_none_of_in X g i,tail_of_in X d⟩
  .cases q
 .cases q
theorem zbg{X:Cx}{E:XK}{x:Str}{C:Ad}{Bq c i:String}{bm:List Va}{j e pos:Pos}{f:Expr}{rest:List Expr}{t:TA}(Rq:Rs X E)(hc:X.calm=N)(y:Gl X x)(M:X.mg x=G 74)(T:excIn X.K C bm c=N)(FB:ExcBaseFacts Bq c i bm)(g:PA X (f::rest) t)
  (d:im (f::rest) X.env=(Fa,eval f X.env)::im rest X.env:=by rfl) (l:(iN e<|im rest X.env).any (·.1)=Fa:=by rfl) (hd:82=Fa:=by decide) :
  PS X (.Raise (G<|.Call (.Name x j) (f::rest) [] e) B pos) (tRaise E 74 t):=λpins s σ H D I h =>
 zv2 Rq hc y (own_K I.ok.mod.kin M T) FB g d l hd pins s σ H D I h
structure CalE(P:ik)(w:World)(K:Frag)(mg:Y1)(base:Heap)(n:Nat)(x:Str)(ps:List Str)(sp:Sp):Prop where
 ex:∃f fd,FnOk P w K mg base (CXE P w) n f fd ps sp/\Binds K fd ps []/\PySem.W.keepIn K 57=N/\mg x=G 57
theorem Dfn.calE{P:ik}{w:World}{K:Frag}{mg:Y1}{base:Heap}{x:Str}{st:Stmt}{Nq ps:List Str}{k:Nat}{sp:Sp}(d:Dfn K mg x st ps)(S:FnScope Nq ps 95)(len:∀vs H Q E,sp vs H Q E->vs.length=ps.length)
  (i:∀(f:Ad) (cdv:Va) (A:io) (outer:List Env) (s:ig) (H:Hp) (vs:List V) (Q:VK) (E:XK),Room k 143->sp vs H Q E->Rs 126 E->
   ∃t,PSs 126 040 t/\t {nx:=λ_ H'=>Q .non H',rt:=Q} 023 H):CalE P w K mg base (k+1) x ps sp:=by
 let(f,fd,F,b,m):=d.ex;show⟨f,fd,F.okE S len<|i f,b,F.kp,m⟩
theorem zbx(K:Frag)(h:X.K=K:=by rfl):CallR X 080 (rIsX K):=h▸zye
theorem zq2(K:Frag)(h:X.K=K:=by rfl):CallR X 080 (rIsXT K):=h▸zu4
section
variable {X:Cx}{pins:Y2}{σ:St}{H:Hp}{s:ig}{k:Nat}{fa:Ad}{fd:i5}{ps:List Str}{sp:Sp}
def tTryN(K:Frag)(S:Ad)(sp:Sp)(t:TA)(ts:TS):TS:=λD σ H=>t σ H λvs H1=>sp vs H1 (λv H2=>D.nx σ H2) λcls c H2=>∀a,c=G a->∃C,cls=.ref C/\mroIn K C (.ref S)=G N/\
 ∀H3,Same H2 H3->ts {nx:=D.nx,rt:=λ_ _=>False} σ H3
end
theorem za1{X:Cx}{E:XK}{n k:Nat}{x:Str}{ps:List Str}{sp:Sp}{p pos:Pos}{e:Expr}{es:List Expr}{t:TA}(Rq:Rs X E)(C:CalE X.prog X.w X.K X.mg X.base n x ps sp)(hr:Room k X.A)(hle:n<=k)(y:Gl X x)(g:PA X (e::es) t)(i:82=Fa:=by decide)
  (Y:notStar e=N:=by rfl) (h2:es.all notStar=N:=by rfl):PE X 012 (tCall sp [] E t):=by
 let(f,fd,F,b,kp,m):=C.ex;show zmt F 065 y m kp b .nil (Rq.passes λ_ _ _ h=>h) g i (zar Y)<|za7 h2
theorem passE0:Passes (CXE X.prog X.w) X E0:=λpins σ H s e s' I c=>by
 let(a,cls,H2,rfl,os,bare,un,hok,_,q):=c;show False.elim q
theorem zse{X:Cx}{n k:Nat}{x:Str}{ps:List Str}{sp:Sp}{p pos:Pos}{e:Expr}{es:List Expr}{t:TA}(C:CalE X.prog X.w X.K X.mg X.base n x ps sp)(hr:Room k X.A)(hle:n<=k)(y:Gl X x)(g:PA X (e::es) t)(i:82=Fa:=by decide)
  (Y:notStar e=N:=by rfl) (h2:es.all notStar=N:=by rfl):PE X 012 (tCall sp [] E0 t):=by
 let(f,fd,F,b,kp,m):=C.ex;show zmt F 065 y m kp b .nil passE0 g i (zar Y)<|za7 h2
section
variable {X:Cx}{pins:Y2}{σ:St}{H:Hp}{s:ig}{k:Nat}{fa:Ad}{fd:i5}{ps:List Str}{sp:Sp}
def tTryX(K:Frag)(S:Ad)(sp:Sp)(i:Nat)(t:TA)(ts:TS):TS:=λD σ H=>t σ H λvs H1=>sp vs H1 (λv H2=>D.nx (σ.set i 018) H2) λcls c H2=>∀a,c=G a->∃C,cls=.ref C/\mroIn K C (.ref S)=G N/\
 ∀H3,Same H2 H3->ts {nx:=D.nx,rt:=λ_ _=>False} σ H3
end
end L2
namespace SS
open PySem PySem.Spec PyProof.Rows L2
noncomputable def SMALL:Str:="abcdefghijklmnopqrstuvwxyz"
noncomputable def GREAT:Str:="ABCDEFGHIJKLMNOPQRSTUVWXYZ"
noncomputable def FIGS:Str:="0123456789"
noncomputable def signIn(c:Nat)(z:Str):Bool:=!(Builtin.Str.occurrences z ⟨#[c]⟩ 0 z.length 1).isEmpty
def nameB(z a:Str):Bool:=match z.cps.toList with
 |[]=>Fa
 |c::r=>decide (r.length<=3)&&signIn c a&&r.all λd=>signIn d FIGS
def isNm(x:V)(a:Str):Bool:=match x with
 |.str z=>nameB z a
 |_=>Fa
def sp_lf:Sp:=λvs H Q _=>∃x a k,vs=[x,.str a]/\Kd H x k/\(∀z,x=.str z->z.length<=1000)/\∀H',Same H H'->Q (.bl<|isNm x a) H'
def zii(a:Str):Sp:=λvs H Q _=>∃x k,vs=[x]/\Kd H x k/\(∀z,x=.str z->z.length<=1000)/\∀H',Same H H'->Q (.bl<|isNm x a) H'
structure Nam(z letters:Str):Prop where
 ex:∃d ds,z.cps.toList=d::ds/\d∈letters.cps.toList/\ds.length<=3/\∀x∈ds,x∈FIGS.cps.toList
theorem zrr(c:Nat)(z:Str):signIn c z=decide (c∈z.cps.toList):=PySem.StrLaws.found_one z c
def Thing(H:Hp)(y:V):Prop:=(∃k,Kd H y k)/\∀z,y=.str z->z.length<=1000
theorem Thing.same(h:Thing H y)(g:Same H H'):Thing H' y:=⟨let⟨k,q⟩:=h.1;⟨k,q.same g⟩,h.2⟩
theorem Thing.str(h:z.length<=1000):Thing H 94:=⟨⟨_,.str z⟩,λd e=>by cases e;show h⟩
theorem Thing.tup(e:H a=G 011):Thing H 07:=⟨⟨_,.tup e⟩,λd e=>by cases e⟩
def isName(x:V):Bool:=isNm x SMALL||isNm x GREAT
def zvn:Sp:=λvs H Q _=>∃x,vs=[x]/\Thing H x/\∀H',Same H H'->Q (.bl<|isName x) H'
theorem zff(h:isName x=N):∃z,x=.str z:=by
 cases x with
 |str z=>show⟨z,R⟩
 |_=>show Xa h (by simp[isName,isNm])
def frameB(xs:List V):Bool:=decide (xs.length<=4)&&xs.all isName&&decide xs.Nodup
def frB(H:Hp)(x:V):Bool:=match x with
 |.ref a=>match H a with
  |some (.lst xs)=>frameB xs
  |_=>Fa
 |_=>Fa
def Things(H:Hp)(xs:List V):Prop:=xs.length<=1000/\∀y∈xs,Thing H y
def zvo:Sp:=λvs H Q _=>∃x,vs=[x]/\Thing H x/\(∀a xs,x=.ref a->H a=G 99->Things H xs)/\∀H',Same H H'->Q (.bl<|frB H x) H'
theorem zh2:∀{xs:List V},xs.all isName=N->∃ks:List Key,xs=ks.map kV/\(xs.Nodup↔ks.Nodup)
 |[],_=>⟨[],R,by simp⟩
 |x::r,h=>by
  rw[y24,y05]at h;let(z,rfl):=zff h.1;let(ks,e,n):=zh2 h.2;apply⟨Sum.inr z::ks,by rw[y0o,←e];rfl,?_⟩;rw[y1j,y1j,n];apply and_congr_left λ_=>not_congr ?_;rw[e,y0f];constructor
  .rintro⟨k,O,e⟩;let:k=Sum.inr z:=kV_inj<|e.trans R;show this▸O
  .exactλO=>⟨_,O,R⟩
theorem zx4(f:d->p)(xs:List d)(lo hi:Option Int):cutL (xs.map f) lo hi=(cutL xs lo hi).map f:=by
 unfold cutL;rw[y01,List.map_take,List.map_drop]
inductive Sy where
 |bare (w n m:Str)
 |neg (s:Sy)
 |two (w:Str) (s t:Sy)
 |qu (w n:Str) (s:Sy)
noncomputable def rowWords:List Str:=["ahead","next"]
def treeWords:List Str:=["left","right","above"]
def bareWords:List Str:=["in","same","within","ahead","next","left","right","above"]
noncomputable def Sy.depth:Sy->Nat
 |.bare _ _ _=>1
 |.neg s=>s.depth+1
 |.two _ s t=>max s.depth t.depth+1
 |.qu _ _ s=>s.depth+1
noncomputable def Sy.parts:Sy->Nat
 |.bare _ _ _=>1
 |.neg s=>s.parts+1
 |.two _ s t=>s.parts+t.parts+1
 |.qu _ _ s=>s.parts+1
inductive Rep(H:Hp):V->Sy->Prop where
 |bare {a:Ad} {w n m:Str} (hw:w∈bareWords) (e:H a=G (.tup [.str w,.str n,.str m])):Rep H (.ref a)<|.bare w n m
 |neg {a:Ad} {x:V} {s:Sy} (e:H a=G (.tup [.str "not",x])) (h:Rep H x s):Rep H (.ref a)<|.neg s
 |two {a:Ad} {w:Str} {x y:V} {s t:Sy} (hw:w∈(["and","or"]:List Str)) (e:H a=G (.tup [.str w,x,y])) (h1:Rep H x s) (h2:Rep H y t):Rep H (.ref a)<|.two w s t
 |qu {a:Ad} {w n:Str} {x:V} {s:Sy} (hw:w∈(["some","all"]:List Str)) (e:H a=G (.tup [.str w,.str n,x])) (h:Rep H x s):Rep H (.ref a)<|.qu w n s
theorem Rep.same(r:Rep H v s)(g:Same H H'):Rep H' v s:=by
 induction r with
 |bare O e=>show .bare O<|g _ _ e
 |neg e _ A=>show .neg (g _ _ e) A
 |two O e _ _ y p=>show .two O (g _ _ e) y p
 |qu O e _ A=>show .qu O (g _ _ e) A
theorem Rep.tup(r:Rep H v s):∃a xs,v=.ref a/\H a=G 011:=by
 cases r with
 |bare O e=>show⟨_,_,R,e⟩
 |neg e _=>show⟨_,_,R,e⟩
 |two O e _ _=>show⟨_,_,R,e⟩
 |qu O e _=>show⟨_,_,R,e⟩
theorem zu9:∀w∈bareWords,inV (.str w) [.str "some",.str "all"]=Fa:=by decide+kernel
theorem ztp:∀w∈(["and","or"]:List Str),inV (.str w) [.str "some",.str "all"]=Fa:=by decide+kernel
theorem zrd:∀w∈(["some","all"]:List Str),inV (.str w) [.str "some",.str "all"]=N:=by decide+kernel
theorem zxa:inV (.str "not") [.str "some",.str "all"]=Fa:=by decide+kernel
theorem zdw(z:Str)(l:List Str):inV 94 (l.map V.str)=decide (z∈l):=by
 induction l with
 |nil=>rfl
 |cons y r A =>
  let e:inV 94 ((y::r).map V.str)=(eqV (.str y) 94||inV (.str z) (r.map V.str)):=rfl;rw[e,A,zua];by_cases h:z=y
  .subst h;simp
  .let h':¬y=z:=λq=>h q.symm;simp[h,h']
noncomputable def isT(H:Hp)(x:V):Bool:=match x with
 |.ref a=>match H a with
  |some (.tup _)=>N
  |_=>Fa
 |_=>Fa
theorem Kd.isT(h:Kd H x k):subT k "tuple"=isT H x:=by
 cases h with
 |lst e=>simp only[SS.isT,e];decide
 |tup e=>simp only[SS.isT,e];decide
 |dK e=>simp only[SS.isT,e];decide
 |_=>rfl
def zcv:Sp:=λvs H Q _=>∃a xs,vs=[.ref a]/\H a=G 011/\xs.length<=1000/\(∀y∈xs,∃k,Kd H y k)/\∀D H',H D=B->Same H H'->H' D=G (.lst<|xs.filter (isT H))->Q 71 H'
noncomputable def Sy.inner:Sy->List Sy
 |.bare _ _ _=>[]
 |.neg s=>[s]
 |.two _ s t=>[s,t]
 |.qu _ _ s=>[s]
theorem Rep.kd(r:Rep H v s):Kd H v "tuple":=by
 let(a,xs,rfl,e):=r.tup;show .tup e
theorem Rep.isT(r:Rep H v s):isT H v=N:=by
 let(a,xs,rfl,e):=r.tup;simp only[SS.isT,e]
theorem Rep.items(r:Rep H v s):∃a xs,v=.ref a/\H a=G 011/\xs.length<=3/\(∀y∈xs,∃k,Kd H y k)/\i9 (Rep H) (xs.filter<|SS.isT H) s.inner:=by
 cases r with
 |bare O e =>
  apply⟨_,_,R,e,y06 _,λy L=>?_,.nil⟩;simp only[y09,y0l,or_false]at L;rcases L with rfl|rfl|rfl<;>show⟨_,.str _⟩
 |neg e h =>
  apply⟨_,_,R,e,by simp,λy L=>?_,?_⟩
  .simp only[y09,y0l,or_false]at L;rcases L with rfl|rfl
   .exact⟨_,.str _⟩
   .exact⟨_,h.kd⟩
  .rw[y1w (by simp[SS.isT]),y1v h.isT];show .cons h .nil
 |two O e Y h2 =>
  apply⟨_,_,R,e,by simp,λy L=>?_,?_⟩
  .simp only[y09,y0l,or_false]at L;rcases L with rfl|rfl|rfl
   .exact⟨_,.str _⟩
   .exact⟨_,Y.kd⟩
   .exact⟨_,h2.kd⟩
  .rw[y1w (by simp[SS.isT]),y1v Y.isT,y1v h2.isT];show .cons Y<|.cons h2 .nil
 |qu O e h =>
  apply⟨_,_,R,e,by simp,λy L=>?_,?_⟩
  .simp only[y09,y0l,or_false]at L;rcases L with rfl|rfl|rfl
   .exact⟨_,.str _⟩
   .exact⟨_,.str _⟩
   .exact⟨_,h.kd⟩
  .rw[y1w (by simp[SS.isT]),y1w (by simp[SS.isT]),y1v h.isT];show .cons h .nil
noncomputable def Sy.isBare:Sy->Bool
 |.bare _ _ _=>N
 |_=>Fa
def zgf:Sp:=λvs H Q _=>∃v s,vs=[v]/\Rep H v s/\∀H',Same H H'->Q (.bl s.isBare) H'
theorem Paired.at:∀{xs:List d} {ys:List p} {i:Nat} {x:d},i9 Rq xs ys->xs[i]?=G x->∃y,ys[i]?=G y/\Rq x y
 |_,_,_,_,.nil,h=>by simp at h
 |_,_,0,_,.cons h _,e=>by simp at e;subst e;show⟨_,R,h⟩
 |_,_,i+1,_,.cons _ h,e=>by simp only[y1h]at e ⊢;show Paired.at h e
theorem Paired.len:∀{xs:List d} {ys:List p},i9 Rq xs ys->xs.length=ys.length
 |_,_,.nil=>rfl
 |_,_,.cons _ h=>by rw[y0i,y0i,Paired.len h]
theorem zgu{s t:Sy}(h:t∈s.inner):t.depth<s.depth/\t.parts<s.parts:=by
 cases s with
 |bare w n m=>show nomatch h
 |neg s=>rw[y0e.mp h];show⟨y2t _,y2t _⟩
 |two w s1 s2 =>
  let h:t=s1\/t=s2:=by simpa[Sy.inner]using h
  let M:(Sy.two w s1 s2).depth=max s1.depth s2.depth+1:=rfl;let D:(Sy.two w s1 s2).parts=s1.parts+s2.parts+1:=rfl;rcases h with rfl|rfl<;>(rw[M,D];omega)
 |qu w n s=>rw[y0e.mp h];show⟨y2t _,y2t _⟩
theorem zgk{d:Type}{xs:List d}(h:1<=xs.length):¬(HT.sIx xs.length 0 (G 1)=0/\HT.sIx xs.length xs.length B=xs.length):=λz=>by
 let e:HT.sIx xs.length 0 (G ((1:Nat):Int))=min 1 xs.length:=HT.sIx_nat ..;let l:HT.sIx xs.length 0 (G 1)=min 1 xs.length:=e;rw[l]at z;omega
def isPl(z:Str):Bool:=isNm 94 SMALL
def isSt(z:Str):Bool:=isNm 94 GREAT
theorem nm_ex(h:isNm 94 l=N):∃c r,z.cps.toList=c::r/\r.length<=3/\c∈l.cps.toList/\∀d∈r,d∈FIGS.cps.toList:=by
 simp only[isNm,nameB]at h;split at h
 .cases h
 .rename_i c r e;rw[y05,y05,zrr,decide_eq_true_eq,decide_eq_true_eq,y0s]at h;show⟨c,r,e,h.1.1,h.1.2,λd hd=>by have:=h.2 d hd;rw[zrr,decide_eq_true_eq]at this;show this⟩
theorem zqg(h:isName 94=N):isPl z=N\/isSt z=N:=by
 unfold isName at h;rw[y2y]at h;show h
theorem zx3(w n:Str)(s:Sy):(Sy.qu w n s).depth=s.depth+1/\(Sy.qu w n s).parts=s.parts+1:=⟨R,R⟩
def forms:List (Str×List Str):=[("in",["place","set"]),("same",["place","place"]),("within",["set","set"]),("ahead",["place","place"]),("next",["place","place"]),("left",["place","place"]),("right",["place","place"]),("above",["place","place"]),
 ("not",["saying"]),("and",["saying","saying"]),("or",["saying","saying"]),("some",["name","saying"]),("all",["name","saying"])]
def sortB(a:V->Bool)(x:V)(s:Str):Bool:=if s="place" then isNm x SMALL else if s="set" then isNm x GREAT else if s="name" then isName x else a x
def zipB(a:V->Bool):List V->List Str->Bool
 |[],[]=>N
 |x::xs,s::o=>sortB a x s&&zipB a xs o
 |_,_=>Fa
def formH(H:Hp):Nat->V->Bool
 |0,_=>Fa
 |n+1,.ref a=>match H a with
  |some (.tup (.str w::r))=>match forms.lookup w with
   |some o=>zipB (formH H n) r o
   |none=>Fa
  |_=>Fa
 |_+1,_=>Fa
def Exp(H:Hp):Nat->V->Prop
 |0,v=>Thing H v
 |n+1,v=>Thing H v/\∀a xs,v=.ref a->H a=G 011->xs.length<=1000/\∀x∈xs,Exp H n x
theorem Exp.thing:∀{n:Nat} {v:V},Exp H n v->Thing H v
 |0,_,h=>h
 |_+1,_,h=>h.1
theorem Thing.same_tup(h:Thing H 07)(g:Same H H')(e:H' a=G 011):H a=G 011:=by
 let((k,O),_):=h;cases O with
 |lst z=>rw[g _ _ z]at e;cases e
 |tup z=>rw[g _ _ z]at e;cases e;show z
 |dK z=>rw[g _ _ z]at e;cases e
theorem Exp.same(g:Same H H'):∀{n:Nat} {v:V},Exp H n v->Exp H' n v
 |0,_,h=>Thing.same h g
 |n+1,v,h=>⟨h.1.same g,λa xs C e=>by
  subst C;let(Y,h2):=h.2 a xs R<|h.1.same_tup g e;show⟨Y,λx J=>(h2 x J).same g⟩⟩
theorem zhe:∀{xs:List V} {o:List Str},(∀x∈xs,f x=g x)->zipB f xs o=zipB g xs o
 |[],[],_=>rfl
 |[],_::_,_=>rfl
 |_::_,[],_=>rfl
 |x::xs,s::o,h=>by
  change(sortB f x s&&zipB f xs o)=(sortB g x s&&zipB g xs o);rw[zhe λy L=>h y<|y08 _ L];unfold sortB;rw[h x y0c]
theorem zdy(g:Same H H'):∀{n:Nat} {v:V},Exp H n v->formH H' n v=formH H n v
 |0,_,_=>rfl
 |n+1,v,h=>by
  cases v with
  |ref a =>
   let((k,O),_):=h.1;cases O with
   |lst z=>simp only[formH,z,g _ _ z]
   |dK z=>simp only[formH,z,g _ _ z]
   |tup z =>
    rename_i xs;let J:=(h.2 a xs R z).2;simp only[formH,z,g _ _ z];cases xs with
    |nil=>rfl
    |cons x r =>
     cases x with
     |str wd =>
      simp only[];cases forms.lookup wd with
      |none=>rfl
      |some o=>show zhe λy L=>zdy g<|J y (y08 _ L)
     |_=>rfl
  |_=>rfl
theorem znt:∀{xs:List V} {o:List Str},xs.length≠o.length->zipB f xs o=Fa
 |[],[],h=>Xa R h
 |[],_::_,_=>rfl
 |_::_,[],_=>rfl
 |x::xs,s::o,h=>by
  change(sortB f x s&&zipB f xs o)=Fa;rw[znt λz=>h (congrArg (· + 1) z),y25]
theorem zhd:∀{xs:List V} {o:List Str},xs.length=o.length->zipB f xs o=(052).all λi=>sortB f (xs.getD i .non) (o.getD i "")
 |[],[],_=>rfl
 |[],_::_,h=>nomatch h
 |_::_,[],h=>nomatch h
 |x::xs,s::o,h=>by
  change(sortB f x s&&zipB f xs o)=_;rw[zhd<|Nat.succ.inj h,y0i,y2b,y24,y23];rfl
def zil(n:Nat):Sp:=λvs H Q _=>∃v,vs=[v,.int n]/\Exp H n v/\∀H',Same H H'->Q (.bl<|formH H n v) H'
def zmc(n:Nat):Sp:=λvs H Q _=>∃v s,vs=[v,.str s,.int n]/\Exp H n v/\∀H',Same H H'->Q (.bl<|sortB (formH H n) v s) H'
def sp_sort':Nat->Sp
 |0=>λ_ _ _ _=>False
 |n+1=>zmc n
def wfB:Sy->Bool
 |.bare w n m=>if w="in" then isPl n&&isSt m else if w="within" then isSt n&&isSt m else isPl n&&isPl m
 |.neg s=>wfB s
 |.two _ s t=>wfB s&&wfB t
 |.qu _ n s=>isName (.str n)&&wfB s
noncomputable def letB(c:List Str)(d:Nat):List Str->Sy->Bool
 |a,.bare w n m=>decide (a.length<=d)&&decide (w∉c)&&(decide (n∈a)&&decide (m∈a))
 |a,.neg s=>decide (a.length<=d)&&decide (("not":Str)∉c)&&letB c d a s
 |a,.two w s t=>decide (a.length<=d)&&decide (w∉c)&&(letB c d a s&&letB c d a t)
 |a,.qu w n s=>decide (a.length<=d)&&decide (w∉c)&&(decide (n∉a)&&letB c d (a++[n]) s)
theorem Rep.det(r:Rep H v s)(q:Rep H v t):s=t:=by
 induction r generalizing t with
 |bare O e =>
  cases q with
  |bare D l=>rw[e]at l;cases l;rfl
  |neg l _=>rw[e]at l;cases l
  |two D l Y _=>rw[e]at l;cases l;cases Y
  |qu D l Y=>rw[e]at l;cases l;cases Y
 |neg e _ A =>
  cases q with
  |bare D l=>rw[e]at l;cases l
  |neg l h'=>rw[e]at l;cases l;rw[A h']
  |two D l _ _=>rw[e]at l;cases l
  |qu D l _=>rw[e]at l;cases l
 |two O e Y h2 y p =>
  cases q with
  |bare D l=>rw[e]at l;cases l;cases Y
  |neg l _=>rw[e]at l;cases l
  |two D l a b=>rw[e]at l;cases l;rw[y a,p b]
  |qu D l b=>rw[e]at l;cases l;cases Y
 |qu O e h A =>
  cases q with
  |bare D l=>rw[e]at l;cases l;cases h
  |neg l _=>rw[e]at l;cases l
  |two D l a b=>rw[e]at l;cases l;cases a
  |qu D l b=>rw[e]at l;cases l;rw[A b]
end SS
set_option maxHeartbeats 1000000
namespace SS
open PySem PySem.Spec PyProof.Rows L2
section
variable {f:V->Bool}{x y:V}{r:List V}{s1 s2:Str}
theorem zgj:sortB f x "place"=isNm x SMALL:=Xq R
theorem zgi:sortB f x "set"=isNm x GREAT:=by unfold sortB;rw[Xp 52,Xq rfl]
theorem zrj:sortB f x "name"=isName x:=by unfold sortB;rw[Xp 52,Xp 52,Xq rfl]
theorem zd7:sortB f x "saying"=f x:=by unfold sortB;rw[Xp 52,Xp 52,Xp 52]
theorem zip_one:zipB f r [s1]=N↔∃x,r=[x]/\sortB f x s1=N:=by
 cases r with
 |nil=>simp[zipB]
 |cons x r =>
  cases r with
  |nil=>simp[zipB]
  |cons y r=>simp[zipB]
theorem zip_two:zipB f r [s1,s2]=N↔∃x y,r=[x,y]/\sortB f x s1=N/\sortB f y s2=N:=by
 cases r with
 |nil=>simp[zipB]
 |cons x r =>
  cases r with
  |nil=>simp[zipB]
  |cons y r =>
   cases r with
   |nil =>
    rw[show zipB f [x,y] [s1,s2]=(sortB f x s1&&(sortB f y s2&&N))from rfl,Bool.and_true,y05];show⟨λh=>⟨x,y,R,h⟩,λ⟨H,g,e,h⟩=>by cases e;show h⟩
   |cons z r=>simp[zipB]
theorem zhz(h:isNm x l=N):∃z,x=.str z:=by
 cases x with
 |str z=>show⟨z,R⟩
 |_=>cases h
end
theorem zxv(h:forms.lookup wd=G o):(wd="in"/\o=(["place","set"]:List Str))\/(wd="within"/\o=(["set","set"]:List Str))\/(wd∈bareWords/\¬wd=("in":Str)/\¬wd=("within":Str)/\o=(["place","place"]:List Str))\/
  (wd="not"/\o=(["saying"]:List Str))\/(wd∈(["and","or"]:List Str)/\o=(["saying","saying"]:List Str))\/(wd∈(["some","all"]:List Str)/\o=(["name","saying"]:List Str)):=by
 let m:=mem_of_lookup' h;simp only[forms,y09,y0l,or_false,Prod.mk.injEq]at m;rcases m with⟨rfl,rfl⟩|⟨rfl,rfl⟩|⟨rfl,rfl⟩|⟨rfl,rfl⟩|⟨rfl,rfl⟩|⟨rfl,rfl⟩|⟨rfl,rfl⟩|⟨rfl,rfl⟩|⟨rfl,rfl⟩|⟨rfl,rfl⟩|⟨rfl,rfl⟩|⟨rfl,rfl⟩|⟨rfl,rfl⟩
 .exact .inl ⟨R,R⟩
 .exact .inr<|.inr (.inl ⟨by decide+kernel,by decide+kernel,by decide+kernel,R⟩)
 .exact .inr<|.inl ⟨R,R⟩
 .exact .inr<|.inr (.inl ⟨by decide+kernel,by decide+kernel,by decide+kernel,R⟩)
 .exact .inr<|.inr (.inl ⟨by decide+kernel,by decide+kernel,by decide+kernel,R⟩)
 .exact .inr<|.inr (.inl ⟨by decide+kernel,by decide+kernel,by decide+kernel,R⟩)
 .exact .inr<|.inr (.inl ⟨by decide+kernel,by decide+kernel,by decide+kernel,R⟩)
 .exact .inr<|.inr (.inl ⟨by decide+kernel,by decide+kernel,by decide+kernel,R⟩)
 .exact .inr<|.inr (.inr<|.inl ⟨R,R⟩)
 .exact .inr<|.inr (.inr<|.inr (.inl ⟨by decide+kernel,R⟩))
 .exact .inr<|.inr (.inr<|.inr (.inl ⟨by decide+kernel,R⟩))
 .exact .inr<|.inr (.inr<|.inr (.inr ⟨by decide+kernel,R⟩))
 .exact .inr<|.inr (.inr<|.inr (.inr ⟨by decide+kernel,R⟩))
theorem zqr:∀wd∈bareWords,forms.lookup wd=G (if wd=("in":Str)then(["place","set"]:List Str)else if wd=("within":Str)then(["set","set"]:List Str)else(["place","place"]:List Str)):=by decide+kernel
theorem zqq:∀wd∈(["and","or"]:List Str),forms.lookup wd=G (["saying","saying"]:List Str):=by decide+kernel
theorem zqp:∀wd∈(["some","all"]:List Str),forms.lookup wd=G (["name","saying"]:List Str):=by decide+kernel
theorem ztw:forms.lookup ("not":Str)=G (["saying"]:List Str):=by decide+kernel
theorem zc5:∀{n:Nat} {v:V},formH H n v=N->∃s,Rep H v s/\wfB s=N/\s.depth<=n
 |0,_,h=>by cases h
 |n+1,v,h=>by
  cases v with
  |ref a =>
   simp only[formH]at h;split at h
   .rename_i wd r e;split at h
    .rename_i o hs;rcases zxv hs with⟨rfl,rfl⟩|⟨rfl,rfl⟩|⟨O,u,c,rfl⟩|⟨rfl,rfl⟩|⟨O,rfl⟩|⟨O,rfl⟩
     .let(x,y,rfl,Y,h2):=zip_two.mp h;rw[zgj]at Y;rw[zgi]at h2;let(I,rfl):=zhz Y;let(T,rfl):=zhz h2;apply⟨.bare "in" I T,.bare 52 e,?_,y2h<|y17 _⟩;change(if _ then _ else _)=N;rw[Xq R,y05];show⟨Y,h2⟩
     .let(x,y,rfl,Y,h2):=zip_two.mp h;rw[zgi]at Y h2;let(I,rfl):=zhz Y;let(T,rfl):=zhz h2;apply⟨.bare "within" I T,.bare 52 e,?_,y2h<|y17 _⟩;change(if _ then _ else if _ then _ else _)=N;rw[Xp 52,Xq R,y05];show⟨Y,h2⟩
     .let(x,y,rfl,Y,h2):=zip_two.mp h;rw[zgj]at Y h2;let(I,rfl):=zhz Y;let(T,rfl):=zhz h2;apply⟨.bare wd I T,.bare O e,?_,y2h<|y17 _⟩;change(if _ then _ else if _ then _ else _)=N;rw[Xp u,Xp c,y05];show⟨Y,h2⟩
     .let(x,rfl,Y):=zip_one.mp h;rw[zd7]at Y;let(s,r,i,g):=zc5 Y;show⟨.neg s,.neg e r,i,y2h g⟩
     .let(x,y,rfl,Y,h2):=zip_two.mp h;rw[zd7]at Y h2;let(s,r,i,g):=zc5 Y;let(t,q,d,p):=zc5 h2;apply⟨.two wd s t,.two O e r q,?_,y2h<|Nat.max_le.mpr ⟨g,p⟩⟩;change(wfB s&&wfB t)=N;rw[i,d];rfl
     .let(x,y,rfl,Y,h2):=zip_two.mp h;rw[zrj]at Y;rw[zd7]at h2;let(I,rfl):=zff Y;let(t,q,d,p):=zc5 h2;apply⟨.qu wd I t,.qu O e q,?_,y2h p⟩;change(isName _&&wfB t)=N;rw[Y,d];rfl
    .cases h
   .cases h
  |_=>cases h
theorem ziu(r:Rep H v s):∀{n:Nat},wfB s=N->s.depth<=n->formH H n v=N:=by
 induction r with
 |bare O e =>
  rename_i a wd u I;intro n h d;cases n with
  |zero=>show Xa d (by change¬1<=0;decide)
  |succ n =>
   simp only[formH,e,zqr wd O];by_cases M:wd=("in":Str)
   .rw[Xq M];let h':(isPl u&&isSt I)=N:=by have z:(if _ then _ else _)=N:=h;rw[Xq M]at z;show z
    rw[y05]at h';show zip_two.mpr ⟨_,_,R,by rw[zgj];show h'.1,by rw[zgi];show h'.2⟩
   .rw[Xp M];by_cases x:wd=("within":Str)
    .rw[Xq x];let h':(isSt u&&isSt I)=N:=by have z:(if _ then _ else if _ then _ else _)=N:=h;rw[Xp M,Xq x]at z;show z
     rw[y05]at h';show zip_two.mpr ⟨_,_,R,by rw[zgi];show h'.1,by rw[zgi];show h'.2⟩
    .rw[Xp x];let h':(isPl u&&isPl I)=N:=by have z:(if _ then _ else if _ then _ else _)=N:=h;rw[Xp M,Xp x]at z;show z
     rw[y05]at h';show zip_two.mpr ⟨_,_,R,by rw[zgj];show h'.1,by rw[zgj];show h'.2⟩
 |neg e _ A =>
  intro n h d;cases n with
  |zero=>show Xa d<|y3c _
  |succ n =>
   simp only[formH,e,ztw];show zip_one.mpr ⟨_,R,by rw[zd7];show A h<|y37 d⟩
 |two O e _ _ y p =>
  rename_i s t _ _;intro n h d;cases n with
  |zero=>show Xa d<|y3c _
  |succ n =>
   let d':=Nat.max_le.mp<|y37 d;let h':(wfB s&&wfB t)=N:=h;rw[y05]at h';simp only[formH,e,zqq _ O];show zip_two.mpr ⟨_,_,R,by rw[zd7];show y h'.1 d'.1,by rw[zd7];show p h'.2 d'.2⟩
 |qu O e _ A =>
  rename_i nm _ s _;intro n h d;cases n with
  |zero=>show Xa d<|y3c _
  |succ n =>
   let h':(isName (.str nm)&&wfB s)=N:=h;rw[y05]at h';simp only[formH,e,zqp _ O];show zip_two.mpr ⟨_,_,R,by rw[zrj];show h'.1,by rw[zd7];show A h'.2<|y37 d⟩
def zf3(n:Nat):Sp:=λvs H Q _=>∃v s,vs=[v]/\Rep H v s/\s.depth<n/\∀H',Same H H'->Q (.int s.parts) H'
def AnySay(H:Hp)(v:V)(s:Sy):Prop:=Rep H v s/\wfB s=N/\s.depth<=12/\s.parts<=60
def zen:Sp:=λvs H Q _=>∃v,vs=[v]/\Exp H 12 v/\∀b H',Same H H'->(b=N↔∃s,AnySay H v s)->Q (.bl b) H'
def zhn(K:Frag)(bw:List Str)(n:Nat):Sp:=λvs H Q _=>∃v a c s tl mo,vs=[v,.ref a,.ref c,.int (mo:Nat)]/\Rep H v s/\s.depth<n/\H a=G (.lst<|List.map V.str tl)/\tl.length+s.depth<=300/\(∀H,SqT K H c<|bw.map V.str)/\∀H',Same H H'->Q (.bl<|letB bw mo tl s) H'
def SayOk(H:Hp)(bw:List Str)(mo:Nat)(v g:V):Prop:=∃a tl s,g=.ref a/\H a=G (.lst<|List.map V.str tl)/\frameB (List.map V.str tl)=N/\AnySay H v s/\letB bw mo tl s=N
def zf1(bw:List Str)(mo:Nat):Sp:=λvs H Q _=>∃v g,vs=[v,g]/\Exp H 12 v/\Thing H g/\(∀a xs,g=.ref a->H a=G 99->Things H xs)/\∀b H',Same H H'->(b=N↔SayOk H bw mo v g)->Q (.bl b) H'
structure Forms(K:Frag)(w:World)(fa:Ad):Prop where
 ex:∃f,DctK K w fa f/\∀x,(∃ss b,forms.lookup x=G ss/\f x=G 53/\∀H,SqT K H b<|List.map V.str ss)\/(forms.lookup x=B/\f x=B)
noncomputable def wordOf:Sy->Str
 |.bare w _ _=>w
 |.neg _=>"not"
 |.two w _ _=>w
 |.qu w _ _=>w
def letR(c:List Str)(d:Nat)(a:List Str):Sy->Bool
 |.bare _ n m=>decide (n∈a)&&decide (m∈a)
 |.neg s=>letB c d a s
 |.two _ s t=>letB c d a s&&letB c d a t
 |.qu _ n s=>decide (n∉a)&&letB c d (a++[n]) s
theorem letB_eq(bw:List Str)(mo:Nat)(tl:List Str)(s:Sy):letB bw mo tl s=(decide (tl.length<=mo)&&decide (wordOf s∉bw)&&letR bw mo tl s):=by cases s<;>rfl
theorem zqj(a:∀w n t,s ≠ .qu w n t)(U:s.isBare=Fa):letR bw mo tl s=s.inner.all (letB bw mo tl):=by
 cases s with
 |bare w n m=>cases U
 |neg s=>simp[Sy.inner,letR]
 |two w s t=>simp[Sy.inner,letR]
 |qu w n t=>show Xa R<|a w n t
theorem zdl:∀(l:List Sy),((List.range l.length).map λi=>((l[i]?).map f).getD N).all id=l.all f
 |[]=>rfl
 |x::r=>by
  rw[y0i,y2b,y0o,y0t,y24,y24,←zdl r];rfl
theorem zh1:∀{xs:List V},xs.all isName=N->∃tl:List Str,xs=tl.map V.str
 |[],_=>⟨[],R⟩
 |x::r,h=>by
  rw[y24,y05]at h;let(z,rfl):=zff h.1;let(tl,e):=zh1 h.2;show⟨z::tl,by rw[y0o,←e]⟩
theorem ztv(h:frB H x=N):∃a tl,x=.ref a/\H a=G (.lst<|List.map V.str tl)/\frameB (List.map V.str tl)=N/\tl.length<=4:=by
 cases x with
 |ref a =>
  simp only[frB]at h;split at h
  .rename_i xs e;let h':=h;unfold frameB at h';rw[y05,y05,decide_eq_true_eq]at h';let(tl,rfl):=zh1 h'.1.2;show⟨a,tl,R,e,h,by have:=h'.1.1;rw[y01]at this;show this⟩
  .cases h
 |_=>cases h
open L2
theorem zei:∀{a b:List PySem.Str},a.map V.str=b.map V.str->a=b
 |[],[],_=>rfl
 |[],_::_,h=>by cases h
 |_::_,[],h=>by cases h
 |x::a,y::b,h=>by
  rw[y0o,y0o,List.cons.injEq]at h;rw[V.str.inj h.1,zei h.2]
inductive Lit where
 |str (z:Str)
 |oth
 |tnil
 |tcons (x r:Lit)
 deriving DecidableEq
def Oth(H:Hp)(v:V):Prop:=∃k,Kd H v k/\k≠"str"/\k≠"tuple"
def LitAt(H:Hp):Lit->V->Prop
 |.str z,v=>v=.str z/\z.length<=1000
 |.oth,v=>Oth H v
 |.tnil,v=>∃a,v=.ref a/\H a=G (.tup [])
 |.tcons x r,v=>∃a y ys,v=.ref a/\H a=G (.tup (y::ys))/\ys.length<=100/\LitAt H x y/\Items H r ys
where Items (H:Hp):Lit->List V->Prop
 |.tcons x r,ys=>∃z w,ys=z::w/\LitAt H x z/\Items H r w
 |.tnil,ys=>ys=[]
 |_,_=>False
abbrev Items:=LitAt.Items
theorem Oth.same(g:Same H H')(h:Oth H v):Oth H' v:=let⟨k,z,r⟩:=h;⟨k,z.same g,r⟩
mutual
theorem LitAt.same(g:Same H H'):∀{l:Lit} {v:V},LitAt H l v->LitAt H' l v
 |.str z,_,h=>h
 |.oth,_,h=>Oth.same g h
 |.tnil,_,⟨a,e,h⟩=>⟨a,e,g _ _ h⟩
 |.tcons x r,_,⟨a,y,ys,e,h,C,Y,h2⟩=>⟨a,y,ys,e,g _ _ h,C,LitAt.same g Y,Items.same g h2⟩
theorem Items.same(g:Same H H'):∀{l:Lit} {ys:List V},Items H l ys->Items H' l ys
 |.tcons x r,_,⟨z,w,e,Y,h2⟩=>⟨z,w,e,LitAt.same g Y,Items.same g h2⟩
 |.tnil,_,h=>h
 |.str _,_,h=>h
 |.oth,_,h=>h
end
theorem LitAt.thing:∀{l:Lit} {v:V},LitAt H l v->Thing H v
 |.str z,_,⟨e,h⟩=>by subst e;show .str h
 |.oth,v,⟨k,h,Y,_⟩=>⟨⟨k,h⟩,λz e=>by subst e;cases h;show Xa R Y⟩
 |.tnil,_,⟨a,e,h⟩=>by subst e;show .tup h
 |.tcons x r,_,⟨a,y,ys,e,h,_,_,_⟩=>by subst e;show .tup h
mutual
theorem LitAt.exp:∀(n:Nat) {l:Lit} {v:V},LitAt H l v->Exp H n v
 |0,_,_,h=>h.thing
 |n+1,.str z,_,h=>⟨h.thing,λa xs e _=>by rw[h.1]at e;cases e⟩
 |n+1,.oth,v,h=>⟨h.thing,λa xs e c=>by
  subst e;let(k,O,_,h2):=h;show Xa (O.inj<|.tup c) h2⟩
 |n+1,.tnil,_,h=>⟨h.thing,λa xs e c=>by
  let(I,M,D):=h;rw[e]at M;cases M;rw[D]at c;cases c;show⟨y17 _,λx J=>nomatch J⟩⟩
 |n+1,.tcons x r,_,h=>⟨h.thing,λa xs e c=>by
  let(I,y,ys,M,D,C,Y,h2):=h;rw[e]at M;cases M;rw[D]at c;cases c;apply⟨by rw[y0i];omega,λd J=>?_⟩;rcases y09.mp J with rfl|J
  .exact LitAt.exp n Y
  .exact Items.exp n h2 d J⟩
theorem Items.exp:∀(n:Nat) {l:Lit} {ys:List V},Items H l ys->∀y∈ys,Exp H n y
 |n,.tcons x r,_,⟨z,w,e,Y,h2⟩,y,L=>by
  subst e;rcases y09.mp L with rfl|L
  .exact LitAt.exp n Y
  .exact Items.exp n h2 y L
 |n,.tnil,_,h,y,L=>by rw[show _=[]from h]at L;show nomatch L
 |n,.str _,_,h,y,L=>False.elim h
 |n,.oth,_,h,y,L=>False.elim h
end
theorem zfp(h:isNm 94 l=N):z.length<=4:=by
 let(c,r,e,C,_):=nm_ex h;rw[zma,e,y0i];omega
theorem zxf(h:isName 94=N):z.length<=4:=(zqg h).elim zfp zfp
theorem zl9:∀w∈bareWords,w.length<=1000:=by decide+kernel
theorem zvi(h:wfB (.bare w n m)=N):n.length<=4/\m.length<=4:=by
 let h':(if w=("in":Str)then isPl n&&isSt m else if w=("within":Str)then isSt n&&isSt m else isPl n&&isPl m)=N:=h;split at h'
 .rw[y05]at h';show⟨zfp h'.1,zfp h'.2⟩
 .split at h'
  .rw[y05]at h';show⟨zfp h'.1,zfp h'.2⟩
  .rw[y05]at h';show⟨zfp h'.1,zfp h'.2⟩
theorem Exp.str(h:z.length<=1000):∀n,Exp H n 94
 |0=>Thing.str h
 |n+1=>⟨Thing.str h,λa xs e=>by cases e⟩
theorem Exp.tup(e:H a=G 011)(C:xs.length<=1000)(h:∀x∈xs,Exp H n x):Exp H (n+1) 07 :=
 ⟨Thing.tup e,λI c d l=>by cases d;rw[e]at l;cases l;show⟨C,h⟩⟩
theorem Rep.exp(r:Rep H v s):wfB s=N->∀n,Exp H n v:=by
 induction r with
 |bare O e =>
  intro h n;let(l1,l2):=zvi h;cases n with
  |zero=>show Thing.tup e
  |succ n =>
   apply Exp.tup e 05 λx J=>?_;simp only[y09,y0l,or_false]at J;rcases J with rfl|rfl|rfl
   .exact Exp.str (zl9 _ O) n
   .exact Exp.str 01 n
   .exact Exp.str 01 n
 |neg e _ A =>
  intro h n;cases n with
  |zero=>show Thing.tup e
  |succ n =>
   apply Exp.tup e 05 λx J=>?_;simp only[y09,y0l,or_false]at J;rcases J with rfl|rfl
   .exact Exp.str 52 n
   .exact A h n
 |two O e _ _ y p =>
  rename_i w _ _ s t _ _;intro h n;let h':(wfB s&&wfB t)=N:=h;rw[y05]at h';cases n with
  |zero=>show Thing.tup e
  |succ n =>
   apply Exp.tup e 05 λx J=>?_;simp only[y09,y0l,or_false]at J;rcases J with rfl|rfl|rfl
   .refine Exp.str ?_ n;let:∀w∈(["and","or"]:List Str),w.length<=1000:=by decide+kernel
    show this w O
   .exact y h'.1 n
   .exact p h'.2 n
 |qu O e _ A =>
  rename_i w nm _ s _;intro h n;let h':(isName (.str nm)&&wfB s)=N:=h;rw[y05]at h';cases n with
  |zero=>show Thing.tup e
  |succ n =>
   apply Exp.tup e 05 λx J=>?_;simp only[y09,y0l,or_false]at J;rcases J with rfl|rfl|rfl
   .refine Exp.str ?_ n;let:∀w∈(["some","all"]:List Str),w.length<=1000:=by decide+kernel
    show this w O
   .exact Exp.str (by have:=zxf h'.1;omega) n
   .exact A h'.2 n
theorem zd4{tl:List Str}(C:tl.length<=1000)(h:∀z∈tl,z.length<=1000):Things H 010:=by
 apply⟨by rw[y01];show C,λy L=>?_⟩;let(z,I,rfl):=y0f.mp L;show .str<|h z I
section
variable {K:Frag}{w:World}{h:Heap}{mg:Y1}
theorem sqt_mk(l:K.lookup p=G ⟨.type "tuple",T,.seq its n,f⟩)(z:its.size<=ii)(r:Vals xs its.toList):∀H,SqT K H p xs :=
 λH=>.inr ⟨_,its,n,l,R,R,z,r⟩
def Entry(K:Frag)(e:DictEntry)(p:Str×List Str):Prop:=(∃t,e.key=.str p.1 t)/\∃b,e.val=.ref b/\∀H,SqT K H b<|List.map V.str p.2
theorem zdj:∀{i:List DictEntry} {ps:List (Str×List Str)},i9 (Entry K) i ps->∀x,(∃o b,ps.lookup x=G o/\jI Va.isStrOf i.toArray x=G 53/\∀H,SqT K H b<|List.map V.str o)\/(ps.lookup x=B/\jI Va.isStrOf i.toArray x=B)
 |_,_,.nil,x=>.inr ⟨R,by simp[jI]⟩
 |e::i,p::ps,.cons ⟨⟨t,l⟩,b,C,U⟩ r,x=>by
  let A:=zdj r x;unfold jI at A ⊢;rw[List.find?_toArray]at A ⊢;rw[y0w,y28];by_cases h:x=p.1
  .subst h;let M:Va.isStrOf p.1 e.key=N:=by rw[l];simp[Va.isStrOf]
   rw[M,beq_self_eq_true];show .inl ⟨_,b,R,congrArg G C,U⟩
  .let h':¬p.1=x:=λq=>h q.symm;let M:Va.isStrOf x e.key=Fa:=by rw[l];simp[Va.isStrOf,h']
   let D:(x==p.1)=Fa:=by simp[h]
   rw[M,D];show A
theorem forms_mk(X:K.In h)(Gq:h.Ns ir mg)(a:PySem.W.nsIn K ir "FORMS"=G (G 42))(lo:(p==iE)=Fa)(l:K.lookup p=G ⟨.type "dict",B,.dict i n,#[]⟩)
  (O:PySem.W.KeysLit w.params i.toList) (d:i9 (Entry K) i.toList forms):∃q,GlV mg "FORMS" (.ref q)/\Forms K w q:=by
 apply⟨p,⟨_,PySem.W.mg_of X Gq a,R⟩,⟨λx=>match jI Va.isStrOf i x with|some (.ref b)=>G 53|_=>B,⟨lo,i,n,l,O,λx=>?_⟩,λx=>?_⟩⟩
 .rcases zdj d x with⟨o,b,M,D,_⟩|⟨M,D⟩
  .simp only[D];show R
  .simp only[D];show trivial
 .rcases zdj d x with⟨o,b,M,D,U⟩|⟨M,D⟩
  .exact .inl ⟨o,b,M,by simp only[D],U⟩
  .exact .inr ⟨M,by simp only[D]⟩
end
end SS
namespace SM
structure Mc where
 w:Nat
 ways:List (List Nat)
 ends:List Bool
noncomputable abbrev mM:=Mc.mk
structure Mc.Ok(m:Mc):Prop where
 wid:m.w<=4
 pos:0<m.ends.length
 few:m.ends.length<=100
 len:m.ways.length=m.ends.length
 line:∀l∈m.ways,l.length=2^m.w
 room:∀l∈m.ways,∀r∈l,r<m.ends.length
abbrev Mc.n(m:Mc):Nat:=m.ends.length
def Mc.go(m:Mc)(r l:Nat):Nat:=(m.ways.getD r []).getD l 0
noncomputable def Mc.fin(m:Mc)(r:Nat):Bool:=m.ends.getD r Fa
theorem Mc.Ok.at{m:Mc}(ok:m.Ok)(L:r<m.ends.length)(C:l<2^m.w):∃line,m.ways[r]?=G line/\line[l]?=G (m.go r l)/\m.go r l<m.ends.length:=by
 let Y:r<m.ways.length:=by rw[ok.len];show L
 let M:m.ways[r]?=G m.ways[r]:=y00 Y;let h2:l<m.ways[r].length:=by rw[ok.line _<|y0b Y];show C
 let D:m.ways[r][l]?=G m.ways[r][l]:=y00 h2;let g:m.go r l=m.ways[r][l]:=by
  simp only[Mc.go,y02,M,y15,D]
 show⟨_,M,by rw[g];show D,by rw[g];show ok.room _ (y0b Y) _<|y0b h2⟩
theorem Mc.Ok.go_lt{m:Mc}(ok:m.Ok)(L:r<m.n)(C:l<2^m.w):m.go r l<m.n:=let⟨_,_,_,h⟩:=ok.at L C;h
theorem Mc.fin_at{m:Mc}(L:r<m.ends.length):m.ends[r]?=G (m.fin r):=by
 unfold Mc.fin;rw[y02,y00 L,y15]
def Mc.run(m:Mc)(r:Nat)(row:List Nat):Nat:=row.foldl m.go r
def Mc.path(m:Mc):Nat->List Nat->List Nat
 |r,[]=>[r]
 |r,l::ls=>r::m.path (m.go r l) ls
theorem Mc.run_snoc(m:Mc)(r:Nat)(row:List Nat)(l:Nat):m.run r (row++[l])=m.go (m.run r row) l:=by unfold Mc.run;rw[y2q];rfl
theorem Mc.run_cons(m:Mc)(r l:Nat)(row:List Nat):m.run r (l::row)=m.run (m.go r l) row:=rfl
theorem Mc.path_snoc(m:Mc):∀(row:List Nat) (r l:Nat),m.path r (row++[l])=m.path r row++[m.go (m.run r row) l]
 |[],r,l=>rfl
 |x::row,r,l=>by
  change r::m.path (m.go r x) (row++[l])=r::m.path (m.go r x) row++_;rw[path_snoc m row];rfl
theorem Mc.path_last(m:Mc):∀(row:List Nat) (r:Nat),∃I,m.path r row=I++[m.run r row]
 |[],r=>⟨[],R⟩
 |x::row,r=>by
  let(I,e):=path_last m row<|m.go r x;show⟨r::I,by change r::m.path (m.go r x) row=_;rw[e];rfl⟩
theorem Mc.path_len(m:Mc):∀(row:List Nat) (r:Nat),(m.path r row).length=row.length+1
 |[],r=>rfl
 |x::row,r=>by change(m.path (m.go r x) row).length+1=_;rw[path_len m row];rfl
theorem Mc.Ok.run_lt{m:Mc}(ok:m.Ok):∀(row:List Nat) (r:Nat),r<m.ends.length->(∀l∈row,l<2^m.w)->m.run r row<m.ends.length
 |[],r,h,_=>h
 |x::row,r,h,C=>by
  let(_,_,_,h2):=ok.at h<|C x y0c;show run_lt ok row (m.go r x) h2 λl z=>C l<|y08 _ z
theorem zr2(n:Nat):(2:Int)^n=((2^n:Nat):Int):=by
 induction n with
 |zero=>rfl
 |succ n A=>rw[Int.pow_succ,Nat.pow_succ,A];omega
theorem zbq(h:w<=4):1<=2^w/\2^w<=16:=by
 let:w=0\/w=1\/w=2\/w=3\/w=4:=by omega
 rcases this with rfl|rfl|rfl|rfl|rfl<;>decide
def Mc.Row(m:Mc)(row:List Nat):Prop:=∀l∈row,l<2^m.w
def Par(m:Mc)(r:Nat)(o:Mc)(r':Nat):Prop:=∀row,m.Row row->m.fin (m.run r row)=o.fin (o.run r' row)
theorem Mc.Row.cons{m:Mc}(C:l<2^m.w)(h:m.Row row):m.Row (l::row):=λx J=>by
 rcases y09.mp J with rfl|J
 .exact C
 .exact h x J
theorem Mc.Row.nil(m:Mc):m.Row []:=λ_ h=>nomatch h
theorem Par.go{m o:Mc}(h:Par m r o r')(C:l<2^m.w):Par m (m.go r l) o (o.go r' l):=λrow L=>h (l::row)<|L.cons C
theorem Par.symm(h:Par m r o r')(O:m.w=o.w):Par o r' m r:=λrow L=>(h row λl C=>by rw[O];show L l C).symm
theorem Par.trans(h:Par m r o r')(h':Par o r' a r'')(O:m.w=o.w):Par m r a r'':=λrow L=>(h row L).trans (h' row λl C=>by rw[←O];show L l C)
theorem Par.fin(h:Par m r o r'):m.fin r=o.fin r':=h []<|Mc.Row.nil m
theorem Par.of(Rq:Nat->Nat->Prop)(j:∀r r',Rq r r'->m.fin r=o.fin r')(y:∀r r' l,Rq r r'->l<2^m.w->Rq (m.go r l) (o.go r' l))(h:Rq r r'):Par m r o r':=λrow=>by
 induction row generalizing r r' with
 |nil=>showλ_=>j r r' h
 |cons l row A=>showλL=>A (y r r' l h<|L l y0c) λx J=>L x<|y08 _ J
def Lex(r' l' r l:Nat):Prop:=r'<r\/(r'=r/\l'<l)
structure Mc.Ord(m:Mc):Prop where
 grow:∀r l b,r<m.n->l<2^m.w->0<b->b<m.go r l->∃r' l',l'<2^m.w/\Lex r' l' r l/\m.go r' l'=b
 par:∀b,0<b->b<m.n->∃r' l',r'<b/\l'<2^m.w/\m.go r' l'=b
structure Canon(m:Mc):Prop where
 ord:m.Ord
 dist:∀i j,i<m.n->j<m.n->Par m i m j->i=j
theorem zid{I m2:Mc}(O:I.w=m2.w)(x:Canon m2)(a:Par I 0 m2 0)(J:r<m2.n)(h2:m2.Ok)(C:l<2^I.w)(c:Par I r m2 r)
  (d:∀r',r'<r->Par I r' m2 r'/\∀l,l<2^I.w->I.go r' l=m2.go r' l) (j:∀l',l'<l->I.go r l'=m2.go r l') (h:I.go r l<m2.go r l):False:=by
 let i:l<2^m2.w:=by rw[←O];show C
 let U:=h2.go_lt J i;let g:=c.go C;let fin:Par I (I.go r l) m2 (I.go r l)->False:=λp=>by
  let q:=(p.symm O).trans g O.symm;let:=x.dist _ _ 01 U q;omega
 by_cases h0:I.go r l=0
 .rw[h0]at fin;show fin a
 .let(r',l',w,D,e):=x.ord.grow r l (I.go r l) J i 01 h;rw[←O]at w;rcases D with f|⟨rfl,f⟩
  .let(p,q):=d r' f;let z:=p.go w;rw[q l' w,e]at z;show fin z
  .let z:=c.go w;rw[j l' f,e]at z;show fin z
theorem zef(O:I.w=m2.w)(i:I.Ok)(Q:m2.Ok)(M:Canon I)(x:Canon m2)(a:Par I 0 m2 0)(r:Nat)(Y:r<I.n)(h2:r<m2.n):Par I r m2 r/\∀l,l<2^I.w->I.go r l=m2.go r l:=by
 induction r using Nat.strongRecOn with
 |_ r A =>
  let d:∀r',r'<r->Par I r' m2 r'/\∀l,l<2^I.w->I.go r' l=m2.go r' l:=λr' h=>A r' h 01 01;let c:Par I r m2 r:=by
   by_cases h0:r=0
   .subst h0;show a
   .let(r',l',v,w,e):=M.ord.par r 01 Y;let(p,q):=d r' v;let z:=p.go w;rw[←q l' w,e]at z;show z
  apply⟨c,λl=>?_⟩
  induction l using Nat.strongRecOn with
  |_ l j =>
   intro C;let f:∀l',l'<l->I.go r l'=m2.go r l':=λl' h=>j l' h 01;rcases Nat.lt_trichotomy (I.go r l) (m2.go r l)with h|h|h
   .exact(zid O x a h2 Q C c d f h).elim
   .exact h
   .refine(zid O.symm M (a.symm O) Y i (by rw[←O];show C) (c.symm O) (λr' v=>?_) (λl' w=>(f l' w).symm) h).elim;let(p,q):=d r' v;show⟨p.symm O,λl C=>(q l<|by rw[O];show C).symm⟩
theorem Mc.ext_go{I m2:Mc}(i:I.Ok)(Q:m2.Ok)(O:I.w=m2.w)(E:I.n=m2.n)(y:∀r l,r<I.n->l<2^I.w->I.go r l=m2.go r l)(j:∀r,r<I.n->I.fin r=m2.fin r):I=m2:=by
 let M:I.ways=m2.ways:=by
  apply y2i (by rw[i.len,Q.len];show E) λr Y h2=>?_;apply y2i (by rw[i.line _<|y0b Y,Q.line _<|y0b h2,O]) λl h3 p=>?_;let L:r<I.n:=by rw[i.len]at Y;show Y
  let C:l<2^I.w:=by rw[i.line _<|y0b Y]at h3;show h3
  let:=y r l L C;unfold Mc.go at this;simpa[y02,y00 Y,y00 h2,y00 h3,y00 p]using this
 let D:I.ends=m2.ends:=by
  apply y2i E λr Y h2=>?_;let:=j r Y;unfold Mc.fin at this;simpa[y02,y00 Y,y00 h2]using this
 cases I;cases m2
 simp_all
theorem zpc{I m2:Mc}(O:I.w=m2.w)(i:I.Ok)(Q:m2.Ok)(M:Canon I)(x:Canon m2)(a:Par I 0 m2 0):m2.n<=I.n:=by
 apply y20 λh=>?_;let r:0<I.n:=i.pos;let(r',l',v,w,e):=x.ord.par I.n r h;let c:l'<2^I.w:=by rw[O];show w
 let z:=(zef O i Q M x a r' v 01).2 l' c;let:=i.go_lt v c;omega
theorem zlw(O:I.w=m2.w)(i:I.Ok)(Q:m2.Ok)(M:Canon I)(x:Canon m2)(a:Par I 0 m2 0):I=m2:=by
 let E:I.n=m2.n:=Nat.le_antisymm (zpc O.symm Q i x M<|a.symm O)<|zpc O i Q M x a;apply Mc.ext_go i Q O E (λr l L C=>(zef O i Q M x a r L 01).2 l C) λr L=>(zef O i Q M x a r L 01).1.fin
def ix(xs:List Nat)(i:Nat):Nat:=xs.getD i 0
theorem zc3(h:i<xs.length):xs[i]?=G (ix xs i):=by
 unfold ix;rw[y02,y00 h,y15]
theorem zxo(h:xs[i]?=G v):ix xs i=v:=by unfold ix;rw[y02,h];rfl
theorem zez(h:i<xs.length):ix xs i∈xs:=y0q<|zc3 h
theorem zjb(h:v∈xs):∃i,i<xs.length/\ix xs i=v:=by
 let(i,hi,e):=y1s h;show⟨i,hi,zxo<|by rw[y00 hi,e]⟩
theorem zy7(h:i<xs.length):ix (xs++ys) i=ix xs i:=by
 unfold ix;rw[y02,y02,y11 h]
theorem ztq(xs:List Nat)(v:Nat):ix (xs++[v]) xs.length=v:=by simp[ix]
theorem zy5(E:xs.Nodup)(hi:i<xs.length)(o:j<xs.length)(e:ix xs i=ix xs j):i=j:=by
 let Y:=zc3 hi;rw[e,←zc3 o]at Y;show(List.getElem?_inj hi E).mp Y
structure Come(m:Mc)(rooms:List Nat)(at' l:Nat):Prop where
 nd:rooms.Nodup
 zero:ix rooms 0=0
 pos:0<rooms.length
 lt:∀r∈rooms,r<m.n
 disc:∀b,0<b->b<rooms.length->∃r' l',r'<b/\l'<2^m.w/\Lex r' l' at' l/\m.go (ix rooms r') l'=ix rooms b
 clos:∀r l',r<rooms.length->l'<2^m.w->Lex r l' at' l->∃t,t<rooms.length/\ix rooms t=m.go (ix rooms r) l'/\
  ∀b,0<b->b<t->∃r'' l'',l''<2^m.w/\Lex r'' l'' r l'/\r''<rooms.length/\m.go (ix rooms r'') l''=ix rooms b
theorem Come.start(h:0<m.n):Come m [0] 0 0 :=
 ⟨by simp,R,by simp,λr L=>by rw[y0e.mp L];show h,λb h0 Y=>by simp at Y;omega,λr l' _ _ D=>by rcases D with z|⟨_,z⟩<;>omega⟩
theorem zot(h:Lex r l' a<|l+1):Lex r l' a l\/(r=a/\l'=l):=by
 rcases h with h|⟨h,h'⟩
 .exact .inl<|.inl h
 .by_cases e:l'=l
  .exact .inr ⟨h,e⟩
  .exact .inl<|.inr ⟨h,by omega⟩
theorem zy2(h:Lex r l' a l):Lex r l' a (l+1):=h.imp id λ⟨h,h'⟩=>⟨h,by omega⟩
theorem Come.old(c:Come m rooms a l)(g:a<rooms.length)(O:m.go (ix rooms a) l∈rooms):Come m rooms a (l+1):=by
 apply⟨c.nd,c.zero,c.pos,c.lt,λb h0 Y=>?_,λr l' L w D=>?_⟩
 .let(r',l',h2,h3,p,h5):=c.disc b h0 Y;show⟨r',l',h2,h3,zy2 p,h5⟩
 .rcases zot D with D|⟨rfl,rfl⟩
  .exact c.clos r l' L w D
  .let(t,j,o):=zjb O;apply⟨t,j,o,λb h0 Y=>?_⟩;let(r',d,h2,h3,p,h5):=c.disc b h0 01;show⟨r',d,h3,p,by omega,h5⟩
theorem Come.new(c:Come m rooms a l)(s:a<rooms.length)(C:l<2^m.w)(E:m.go (ix rooms a) l<m.n)(O:¬m.go (ix rooms a) l∈rooms):Come m (rooms++[m.go (ix rooms a) l]) a (l+1):=by
 let len:(rooms++[m.go (ix rooms a) l]).length=rooms.length+1:=by simp
 let up:∀{r:Nat},r<rooms.length->ix (rooms++[m.go (ix rooms a) l]) r=ix rooms r:=λh=>zy7 h;apply⟨?_,by rw[up c.pos];show c.zero,by omega,λr L=>?_,λb h0 Y=>?_,λr l' L w D=>?_⟩
 .refine y32.mpr ⟨c.nd,by simp,λx J y v=>?_⟩;rw[y0e.mp v];intro e;rw[e]at J;show O J
 .rcases y16.mp L with h|h
  .exact c.lt r h
  .rw[y0e.mp h];show E
 .by_cases U:b<rooms.length
  .let(r',l',h2,h3,p,h5):=c.disc b h0 U;show⟨r',l',h2,h3,zy2 p,by rw[up 01,up U];show h5⟩
  .let e:b=rooms.length:=by omega
   subst e;show⟨a,l,s,C,.inr ⟨R,by omega⟩,by rw[up s,ztq]⟩
 .rcases zot D with D|⟨rfl,rfl⟩
  .let f:r<rooms.length:=by rcases D with z|⟨z,_⟩<;>omega
   let(t,j,o,g):=c.clos r l' f w D;apply⟨t,by omega,by rw[up j,up f];show o,λb h0 Y=>?_⟩;let(r'',d,h2,h3,p,h5):=g b h0 Y;show⟨r'',d,h2,h3,by omega,by rw[up p,up 01];show h5⟩
  .refine⟨rooms.length,by omega,by rw[ztq,up s],λb h0 Y=>?_⟩;let(r',d,h2,h3,p,h5):=c.disc b h0 Y;show⟨r',d,h3,p,by omega,by rw[up 01,up Y];show h5⟩
theorem Come.turn(c:Come m rooms a<|2^m.w):Come m rooms (a+1) 0:=by
 let up:∀{r l:Nat},l<2^m.w->Lex r l (a+1) 0->Lex r l a (2^m.w):=λ{r l} C D=>by
  rcases D with z|⟨_,z⟩
  .by_cases e:r=a
   .exact .inr ⟨e,C⟩
   .exact .inl 01
  .omega
 apply⟨c.nd,c.zero,c.pos,c.lt,λb h0 Y=>?_,λr l' L w D=>c.clos r l' L w<|up w D⟩;let(r',l',h2,h3,p,h5):=c.disc b h0 Y;apply⟨r',l',h2,h3,?_,h5⟩;rcases p with z|⟨z,_⟩
 .exact .inl 01
 .exact .inl 01
theorem zdr:∀{xs:List Nat} {n:Nat},xs.Nodup->(∀x∈xs,x<n)->xs.length<=n
 |xs,0,_,h=>by cases xs with|nil=>show y06 _|cons x r=>show Xa (h x y0c)<|y39 _
 |xs,n+1,E,h=>by
  let Y:(xs.erase n).length<=n:=zdr (E.erase n) λx J=>by
   let h2:=h x<|List.mem_of_mem_erase J;let h3:x≠n:=λe=>by rw[e]at J;show(List.Nodup.not_mem_erase E) J
   omega
  by_cases M:n∈xs
  .let h2:=y3u M;let h3:=y3y M;omega
  .rw[List.erase_of_not_mem M]at Y;omega
def picked(m:Mc)(rooms:List Nat)(g:Nat->Nat):Mc:=⟨m.w,rooms.map λr=>(m.ways.getD r []).map g,rooms.map m.fin⟩
theorem zcy(m:Mc)(rooms:List Nat)(g:Nat->Nat):(055).n=rooms.length:=by simp[picked,Mc.n]
theorem zhu(m:Mc)(g:Nat->Nat)(h:i<rooms.length):(055).fin i=m.fin 061:=by
 unfold picked Mc.fin;simp only[y02,y04];rw[zc3 h];rfl
theorem zku{m:Mc}(ok:m.Ok){rooms:List Nat}(g:Nat->Nat)(h:i<rooms.length)(L:ix rooms i<m.n)(C:l<2^m.w):(055).go i l=g (m.go 061 l):=by
 let(line,M,D,d):=ok.at L C;let Q:m.ways.getD 061 []=line:=by rw[y02,M];rfl
 unfold picked;rw[Mc.go];simp only[y02,y04];rw[zc3 h];simp only[y1x,y15];rw[M];simp only[y15,y04];rw[D];rfl
theorem zkt{m:Mc}(ok:m.Ok){rooms:List Nat}(h0:0<rooms.length)(j:rooms.length<=100)(L:∀r∈rooms,r<m.n)(a:∀r l,r∈rooms->l<2^m.w->g (m.go r l)<rooms.length):(055).Ok:=by
 apply⟨ok.wid,by simpa[picked]using h0,by simpa[picked]using j,by simp[picked],λline C=>?_,λline C x J=>?_⟩
 .let(r,u,rfl):=y0f.mp C;let Y:r<m.ways.length:=by rw[ok.len];show L r u
  rw[y01,y02,y00 Y,y15];show ok.line _<|y0b Y
 .let(r,u,rfl):=y0f.mp C;let(y,O,rfl):=y0f.mp J;let Y:r<m.ways.length:=by rw[ok.len];show L r u
  rw[y02,y00 Y,y15]at O;let(l,h2,D):=y1s O;rw[ok.line _<|y0b Y]at h2;let h3:=a r l u h2;let(line,d,o,_):=ok.at (L r u) h2;rw[y00 Y]at d;cases d;rw[y00 (by rw[ok.line _<|y0b Y];show h2),D]at o;cases o;simpa[picked]using h3
theorem zgy(ok:m.Ok)(c:Come m rooms rooms.length 0)(y:∀i,i<rooms.length->g 061=i):
  (055).Ok/\(055).Ord/\Par m 0 055 0/\rooms.length<=m.n:=by
 let z:rooms.length<=m.n:=zdr c.nd c.lt;let f:∀{i:Nat},i<rooms.length->ix rooms i<m.n:=λh=>c.lt _<|zez h;let clo:∀r l,r<rooms.length->l<2^m.w->∃t,t<rooms.length/\ix rooms t=m.go (ix rooms r) l/\∀b,0<b->b<t->∃r'' d,d<2^m.w/\Lex r'' d r l/\r''<rooms.length/\m.go (ix rooms r'') d=ix rooms b :=
  λr l L C=>c.clos r l L C<|.inl L
 let x:∀{i l:Nat},i<rooms.length->l<2^m.w->∀t,t<rooms.length->m.go 061 l=ix rooms t->(055).go i l=t:=λhi C t j e=>by
  rw[zku ok g hi (f hi) C,e];show y t j
 apply⟨zkt ok c.pos (by have:m.n<=100:=ok.few;omega) c.lt λr l u C=>?_,⟨λr l b L C h0 U=>?_,λb h0 U=>?_⟩,?_,z⟩
 .let(i,hi,rfl):=zjb u;let(t,j,o,_):=clo i l hi C;rw[←o,y t j];show j
 .rw[zcy]at L;let(t,j,o,a):=clo r l L C;rw[x L C t j o.symm]at U;let(r'',d,Y,h2,h3,p):=a b h0 U;show⟨r'',d,Y,h2,x h3 Y b 01 p⟩
 .rw[zcy]at U;let(r',l',Y,h2,h3,p):=c.disc b h0 U;show⟨r',l',Y,h2,x 01 h2 b U p⟩
 .refine Par.of (λr i=>i<rooms.length/\ix rooms i=r) (λr i ⟨hi,e⟩=>?_) (λr i l ⟨hi,e⟩ C=>?_) ⟨c.pos,c.zero⟩
  .rw[zhu m g hi,e]
  .let(t,j,o,_):=clo i l hi C;rw[x hi C t j o.symm,←e];show⟨j,o⟩
structure Srt(ns:List Nat):Prop where
 grow:∀i,i<ns.length->∀b,b<ix ns i->∃j,j<i/\ix ns j=b
theorem Srt.le(h:Srt ns)(i:Nat)(hi:i<ns.length):ix ns i<=i:=by
 induction i using Nat.strongRecOn with
 |_ i A =>
  by_cases h0:ix ns i=0
  .omega
  .let(j,o,e):=h.grow i hi (ix ns i-1) 01;let:=A j o 01;omega
theorem zym(hs:Srt s)(r:Srt f)(C:s.length=f.length)(ref:∀i j,i<s.length->j<s.length->ix f i=ix f j->ix s i=ix s j):∀v i,i<s.length->ix s i=v->v<=ix f i
 |0,_,_,_=>y17 _
 |v+1,i,hi,e=>by
  let A:=zym hs r C ref v;apply y20 λx=>?_;let g:∀j,j<i->ix s j=v->False:=λj=>by
   induction j using Nat.strongRecOn with
   |_ j c =>
    intro o w;let Y:=A j 01 w;let h2:ix f j≠ix f i:=λz=>by have:=ref j i 01 hi z;omega
    let(k,O,l):=r.grow j 01 (ix f i) 01;let h3:=ref k i 01 hi l;let(d,q,a):=hs.grow k 01 v 01;show c d 01 01 a
  let(j,o,w):=hs.grow i hi v 01;show g j o w
theorem zyl:∀{s f:List Nat},s.length=f.length->(∀i,i<s.length->ix s i<=ix f i)->s.sum<=f.sum/\(s.sum=f.sum->s=f)
 |[],[],_,_=>⟨y06 _,λ_=>rfl⟩
 |[],_::_,h,_=>by simp at h
 |_::_,[],h,_=>by simp at h
 |x::s,y::f,h,g=>by
  let Y:=g 0 05;let h2:x<=y:=Y;let(h3,p):=zyl (s:=s) (f:=f) (by simpa using h) λi hi=>by
   let:=g (i+1) (by simpa using hi);simpa[ix]using this
  apply⟨by simp only[y2v];omega,λe=>?_⟩;simp only[y2v]at e;rw[show x=y by omega,p 01]
theorem zj5:∀{s:List Nat} {n:Nat},(∀x∈s,x<=n)->s.sum<=s.length*n
 |[],n,_=>by simp
 |x::s,n,h=>by
  let Y:=h x y0c;let h2:=zj5 (s:=s) (n:=n) λy L=>h y<|y08 _ L;simp only[y2v,y0i,Nat.succ_mul];omega
structure Sorts(m:Mc)(ns:List Nat):Prop where
 srt:Srt ns
 len:ns.length=m.n
 fin:∀i j,i<m.n->j<m.n->ix ns i=ix ns j->m.fin i=m.fin j
 sep:∀i j,i<m.n->j<m.n->Par m i m j->ix ns i=ix ns j
def Stable(m:Mc)(ns:List Nat):Prop:=∀i j l,i<m.n->j<m.n->l<2^m.w->ix ns i=ix ns j->ix ns (m.go i l)=ix ns (m.go j l)
structure Firsts(ns fs:List Nat):Prop where
 lt:∀s,s<fs.length->ix fs s<ns.length
 is:∀s,s<fs.length->ix ns (ix fs s)=s
 le:∀s j,s<fs.length->j<ns.length->ix ns j=s->ix fs s<=j
 all:∀i,i<ns.length->ix ns i<fs.length
theorem quotient{m:Mc}(ok:m.Ok)(ord:m.Ord){ns fs:List Nat}(S:Sorts m ns)(st:Stable m ns)(F:Firsts ns fs):
  (092).Ok/\Canon 092/\Par m 0 092 0/\fs.length<=m.n:=by
 let f:∀{s:Nat},s<fs.length->ix fs s<m.n:=λh=>by rw[←S.len];show F.lt _ h
 let h0:0<fs.length:=by have:=F.all 0 (by rw[S.len];show ok.pos);omega
 let all:∀{i:Nat},i<m.n->ix ns i<fs.length:=λh=>F.all _ (by rw[S.len];show h);let mono:∀{a b:Nat},a<fs.length->b<fs.length->a<b->ix fs a<ix fs b:=λ{a b} g U M=>by
  let e:=F.is b U;let(j,o,ej):=S.srt.grow (ix fs b) (F.lt b U) a 01;let:=F.le a j g (by have:=F.lt b U;omega) ej;omega
 let E:∀{a b:Nat},a<fs.length->b<fs.length->ix fs a<ix fs b->a<b:=λ{a b} g U h=>by
  rcases Nat.lt_trichotomy a b with z|z|z
  .exact z
  .subst z;omega
  .let:=mono U g z;omega
 let hle:fs.length<=m.n:=by
  let Y:=F.is (fs.length-1) 01;let h2:=f (s:=fs.length-1) 01;let h3:=S.srt.le _ (by rw[S.len];show h2);omega
 let x:∀{s l:Nat},s<fs.length->l<2^m.w->(092).go s l=ix ns (m.go (ix fs s) l):=λhs C=>zku ok _ hs (f hs) C;let I:∀{i l:Nat},i<m.n->l<2^m.w->(092).go (ix ns i) l=ix ns (m.go i l):=λ{i l} hi C=>by
  rw[x (all hi) C];show st _ _ l (f<|all hi) hi C<|F.is _ (all hi)
 let hok:(092).Ok:=zkt ok h0 (by have:m.n<=100:=ok.few;omega) (λr u=>by let(s,hs,rfl):=zjb u;show f hs) λr l u C=>by
  let(s,hs,rfl):=zjb u;show all<|ok.go_lt (f hs) C
 let par:∀{i:Nat},i<m.n->Par m i 092 (ix ns i):=λ{i} hi=>by
  apply Par.of (λr s=>r<m.n/\s=ix ns r) (λr s ⟨L,e⟩=>?_) (λr s l ⟨L,e⟩ C=>?_) ⟨hi,R⟩
  .rw[e,zhu m _<|all L];show S.fin _ _ L (f<|all L) (F.is _<|all L).symm
  .exact⟨ok.go_lt L C,by rw[e,I L C]⟩
 apply⟨hok,⟨⟨λs l b hs C U c=>?_,λb U A=>?_⟩,λi j hi o p=>?_⟩,?_,hle⟩
 .rw[zcy]at hs;rw[x hs C]at c;let Q:=ok.go_lt (f hs) C;let g:=all Q;let y:b<fs.length:=by omega
  let Y:ix fs b<m.go (ix fs s) l:=by
   let h2:=mono y g c;let h3:=F.le _ _ g (by rw[S.len];show Q) rfl;omega
  let J:0<ix fs b:=by
   let:=F.is b y;by_cases z:ix fs b=0
   .let h5:=S.srt.le 0 (by rw[S.len];show ok.pos);rw[z]at this;omega
   .omega
  let(r',l',w,D,e):=ord.grow (ix fs s) l (ix fs b) (f hs) C J Y;let v:r'<m.n:=by have:=f hs;rcases D with z|⟨z,_⟩<;>omega
  apply⟨ix ns r',l',w,?_,by rw[I v w,e];show F.is b y⟩;rcases D with z|⟨z,d⟩
  .refine .inl<|E (all v) hs ?_;let:=F.le _ r' (all v) (by rw[S.len];show v) rfl;omega
  .exact .inr ⟨by rw[z];show F.is s hs,d⟩
 .rw[zcy]at A;let J:0<ix fs b:=by
   let:=F.is b A;by_cases z:ix fs b=0
   .let h5:=S.srt.le 0 (by rw[S.len];show ok.pos);rw[z]at this;omega
   .omega
  let(r',l',v,w,e):=ord.par (ix fs b) J<|f A;let H:r'<m.n:=by have:=f A;omega
  apply⟨ix ns r',l',E (all H) A ?_,w,by rw[I H w,e];show F.is b A⟩;let:=F.le _ r' (all H) (by rw[S.len];show H) rfl;omega
 .rw[zcy]at hi o;let T:=par<|f hi;let O:=par<|f o;rw[F.is i hi]at T;rw[F.is j o]at O;let q:Par m (ix fs i) m (ix fs j):=(T.trans p R).trans (O.symm R) rfl;let z:=S.sep _ _ (f hi) (f o) q;rw[F.is i hi,F.is j o]at z;show z
 .let p:=par ok.pos;let e:ix ns 0=0:=by have:=S.srt.le 0 (by rw[S.len];show ok.pos);omega
  rw[e]at p;show p
structure Num{α:Type}(marks:List α)(ns:List Nat):Prop where
 len:ns.length=marks.length
 eq:∀i j a b,marks[i]?=G a->marks[j]?=G b->(ix ns i=ix ns j↔a=b)
 srt:Srt ns
theorem zme{m:Mc}(Nq:Num m.ends ns):Sorts m ns:=by
 apply⟨Nq.srt,Nq.len,λi j hi o e=>?_,λi j hi o p=>?_⟩
 .exact(Nq.eq i j _ _ (Mc.fin_at hi)<|Mc.fin_at o).mp e
 .exact(Nq.eq i j _ _ (Mc.fin_at hi)<|Mc.fin_at o).mpr p.fin
def markOf(m:Mc)(ns:List Nat)(i:Nat):List Nat:=ix ns i::(m.ways.getD i []).map (ix ns)
theorem mark_eq(ok:m.Ok)(hi:i<m.n)(o:j<m.n):markOf m ns i=markOf m ns j↔ix ns i=ix ns j/\∀l,l<2^m.w->ix ns (m.go i l)=ix ns (m.go j l):=by
 let Y:i<m.ways.length:=by rw[ok.len];show hi
 let h2:j<m.ways.length:=by rw[ok.len];show o
 let a:=ok.line _<|y0b Y;let L2:=ok.line _<|y0b h2;unfold markOf;rw[List.cons.injEq];apply and_congr_right λ_=>?_;unfold Mc.go;simp only[y02,y00 Y,y00 h2,y15];apply⟨λe l C=>?_,λh=>?_⟩
 .let z:=congrArg (λq=>q[l]?) e;simp only[y04]at z;rw[y00 01,y00 01]at z ⊢;simpa using z
 .refine y2i (by rw[y01,y01,a,L2]) λl h3 p=>?_;rw[y01]at h3 p;let z:=h l 01;rw[y00 h3,y00 p]at z;rw[y3n,y3n];simpa using z
theorem zhq{m:Mc}(ok:m.Ok){ns fs:List Nat}(S:Sorts m ns)(Nq:Num ((070).map<|markOf m ns) fs):Sorts m fs/\(∀i j,i<ns.length->j<ns.length->ix fs i=ix fs j->ix ns i=ix ns j)/\(fs=ns->Stable m ns):=by
 let at':∀{i:Nat},i<m.n->((070).map<|markOf m ns)[i]?=G (markOf m ns i):=λh=>by rw[y04,y1a h];rfl
 let eq:∀{i j:Nat},i<m.n->j<m.n->(ix fs i=ix fs j↔ix ns i=ix ns j/\∀l,l<2^m.w->ix ns (m.go i l)=ix ns (m.go j l)):=λhi o=>(Nq.eq _ _ _ _ (at' hi)<|at' o).trans<|mark_eq ok hi o;apply⟨⟨Nq.srt,by rw[Nq.len];simp,λi j hi o e=>S.fin i j hi o ((eq hi o).mp e).1,λi j hi o p=>(eq hi o).mpr ⟨S.sep i j hi o p,λl C=>S.sep _ _ (ok.go_lt hi C) (ok.go_lt o C)<|p.go C⟩⟩,λi j hi o e=>?_,λe i j l hi o C h=>?_⟩
 .rw[S.len]at hi o;show((eq hi o).mp e).1
 .subst e;show((eq hi o).mp h).2 l C
theorem zpl(S:Sorts m ns)(l:Sorts m fs)(ref:∀i j,i<ns.length->j<ns.length->ix fs i=ix fs j->ix ns i=ix ns j)(ne:fs≠ns):ns.sum<fs.sum/\fs.sum<=m.n*m.n:=by
 let C:ns.length=fs.length:=by rw[S.len,l.len]
 let(Y,h2):=zyl C λi hi=>zym S.srt l.srt C ref _ i hi rfl;apply⟨Nat.lt_of_le_of_ne Y λe=>ne (h2 e).symm,?_⟩;let h3:=zj5 (s:=fs) (n:=m.n) λx J=>by
  let(i,hi,rfl):=zjb J;let:=l.srt.le i hi;let:=l.len;omega
 rw[l.len]at h3;show h3
section
variable {α:Type}[DecidableEq α]
def news:List α->List α->List α
 |acc,[]=>acc
 |acc,x::r=>news (if x∈acc then acc else acc++[x]) r
theorem zgq:∀(xs acc:List α) (x:α),news acc (xs++[x])=if x∈news acc xs then news acc xs else news acc xs++[x]
 |[],acc,x=>rfl
 |y::r,acc,x=>zgq r _ x
theorem zb9:∀(xs acc:List α) (x:α),x∈news acc xs↔x∈acc\/x∈xs
 |[],acc,x=>by simp[news]
 |y::r,acc,x=>by
  unfold news;rw[zb9 r _ x];by_cases h:y∈acc
  .rw[Xq h];simp only[y09];apply⟨λz=>z.imp id .inr,λz=>z.elim .inl λz=>z.elim (λe=>.inl<|e▸h) .inr⟩
  .rw[Xp h];simp only[y16,y09,y0l,or_false];show or_assoc
theorem zm3:∀(xs acc:List α),acc.Nodup->(news acc xs).Nodup
 |[],acc,h=>h
 |y::r,acc,h=>by
  unfold news;apply zm3 r _ ?_;by_cases L:y∈acc
  .rw[Xq L];show h
  .rw[Xp L];apply y32.mpr ⟨h,by simp,λa g b U=>?_⟩;rw[y0e.mp U];intro e;show L<|e▸g
theorem zf6:∀(xs acc:List α),(news acc xs).length<=acc.length+xs.length
 |[],acc=>by simp[news]
 |y::r,acc=>by
  unfold news;let:=zf6 r<|if y∈acc then acc else acc++[y];by_cases L:y∈acc
  .rw[Xq L]at this ⊢;simp only[y0i];omega
  .rw[Xp L]at this ⊢;simp only[y0j,y0i,y1k]at this ⊢;omega
theorem zds:∀(xs acc:List α),∃t,news acc xs=acc++t
 |[],acc=>⟨[],by simp[news]⟩
 |y::r,acc=>by
  unfold news;let(t,e):=zds r<|if y∈acc then acc else acc++[y];by_cases L:y∈acc
  .rw[Xq L]at e ⊢;show⟨t,e⟩
  .rw[Xp L]at e ⊢;show⟨[y]++t,by rw[e,y35]⟩
theorem zon:∀(xs ys acc:List α),news acc (xs++ys)=news (news acc xs) ys
 |[],ys,acc=>rfl
 |x::r,ys,acc=>zon r ys _
noncomputable def nOf(ds:List α)(x:α):Nat:=ds.idxOf x
noncomputable def nxt(ds:List α)(x:α):List α:=if x∈ds then ds else ds++[x]
theorem zta{ds:List α}{x:α}(h:x∈ds):nxt ds x=ds:=Xq h
theorem zm1{ds:List α}{x:α}(h:¬x∈ds):nxt ds x=ds++[x]:=Xp h
theorem zxe(xs:List α)(x:α):news [] (xs++[x])=nxt (news [] xs) x:=zgq xs [] x
theorem zk9{xs:List α}(h:xs[i]?=G x):news [] (xs.take<|i+1)=nxt (news []<|xs.take i) x:=by rw[y14,h,y21,zxe]
theorem zjd{xs ys:List α}(h:x∈xs):(xs++ys).idxOf x=xs.idxOf x:=by rw[List.idxOf_append,Xq h]
theorem zyz(marks:List α):Num marks (marks.map<|nOf (news [] marks)):=by
 change Num marks (marks.map λx=>(news [] marks).idxOf x);let at':∀{i:Nat} {a:α},marks[i]?=G a->ix (marks.map λx=>(news [] marks).idxOf x) i=(news [] marks).idxOf a:=λh=>zxo (by rw[y04,h];rfl);let mem:∀{a:α},a∈marks->a∈news [] marks:=λh=>(zb9 marks [] _).mpr<|.inr h;apply⟨y01 _,λi j a b g U=>?_,⟨λi hi b U=>?_⟩⟩
 .rw[at' g,at' U];apply⟨λe=>?_,λe=>by rw[e]⟩;let Y:=y1e.mpr<|mem (y0q g);let h2:=y1e.mpr<|mem (y0q U);let M:=y2m Y;let D:=y2m h2;rw[←M,←D];congr 1
 .rw[y01]at hi;let J:marks[i]?=G marks[i]:=y00 hi;rw[at' J]at U;let em:marks=marks.take i++marks[i]::marks.drop (i+1):=by rw[←y3t hi,List.take_append_drop]
  let p:news [] marks=news (if marks[i]∈news [] (058)then news [] (058)else news [] 058++[marks[i]]) (marks.drop<|i+1):=by
   conv=>lhs;rw[em]
   rw[zon];rfl
  let(t,f):=zds (marks.drop<|i+1)<|if marks[i]∈news [] (058)then news [] (058)else news [] 058++[marks[i]];rw[←p]at f;let y:b<(news [] 058).length:=by
   by_cases c:marks[i]∈news [] 058
   .rw[Xq c]at f;rw[f,zjd c]at U;let:=y1e.mpr c;omega
   .rw[Xp c]at f;rw[f,zjd 05,List.idxOf_append,Xp c]at U;simp at U;omega
  let s:∃t',news [] marks=news [] 058++t':=by
   by_cases c:marks[i]∈news [] 058
   .rw[Xq c]at f;show⟨t,f⟩
   .rw[Xp c]at f;show⟨[marks[i]]++t,by rw[f,y35]⟩
  let(t',d):=s;let A:(news [] 058)[b]∈marks.take i:=by
   rcases(zb9 (marks.take i) [] _).mp (y0b y)with h|h
   .exact nomatch h
   .exact h
  let(j,o,w):=y1s A;rw[y12]at o;rw[List.getElem_take]at w;apply⟨j,by omega,?_⟩;let q:marks[j]?=G (news [] 058)[b]:=by rw[y00 01,w]
  rw[at' q,d,zjd<|y0b y];show List.Nodup.idxOf_getElem (zm3 _ _ y3f) b y
end
theorem idx_le:∀(ns:List Nat) (s j:Nat),ns[j]?=G s->ns.idxOf s<=j
 |[],_,_,h=>by simp at h
 |x::ns,s,0,h=>by
  simp only[y2n,Option.some.injEq]at h;subst h;simp
 |x::ns,s,j+1,h=>by
  simp only[y1h]at h;let A:=idx_le ns s j h;rw[y2l];cases J:x==s with
  |true=>simp
  |false=>simp;omega
theorem zo0(h:s∈ns):ns.idxOf s<ns.length/\ix ns (ns.idxOf s)=s:=by
 let Y:=y1e.mpr h;show⟨Y,zxo<|by rw[y00 Y,y2m Y]⟩
theorem zt6(S:Srt ns)(c:M∈ns)(z:∀a∈ns,a<=M):Firsts ns ((List.range<|M+1).map λs=>ns.idxOf s)/\∀s,s<=M->s∈ns:=by
 let mem:∀s,s<=M->s∈ns:=λs hs=>by
  by_cases e:s=M
  .rw[e];show c
  .let(i,hi,d):=zjb c;let(j,o,w):=S.grow i hi s 01;rw[←w];show zez 01
 let at':∀{s:Nat},s<M+1->ix ((List.range<|M+1).map λs=>ns.idxOf s) s=ns.idxOf s:=λ{s} h=>zxo (by rw[y04,y1a h];rfl);let len:((List.range<|M+1).map λs=>ns.idxOf s).length=M+1:=by simp
 apply⟨⟨λs hs=>?_,λs hs=>?_,λs j hs o e=>?_,λi hi=>?_⟩,mem⟩
 .rw[len]at hs;rw[at' hs];show(zo0<|mem s 01).1
 .rw[len]at hs;rw[at' hs];show(zo0<|mem s 01).2
 .rw[len]at hs;rw[at' hs];show idx_le ns s j (by rw[zc3 o,e])
 .rw[len];let:=z _<|zez hi;omega
structure Red(m m':Mc):Prop where
 ok:m'.Ok
 w:m'.w=m.w
 canon:Canon m'
 par:Par m 0 m' 0
 le:m'.n<=m.n
theorem red_of(ok:m.Ok)(c:Come m rooms rooms.length 0)(y:∀i,i<rooms.length->g 061=i)(S:Sorts 055 ns)(st:Stable 055 ns)(F:Firsts ns fs):
  Red m (picked 055 fs<|ix ns):=by
 let(I,a,r,l1):=zgy ok c y;let(Q,x,l,l2):=quotient I a S st F;apply⟨Q,R,x,r.trans l R,?_⟩;rw[zcy]at l2 ⊢;omega
def turned(m:Mc):Mc:=⟨m.w,m.ways,m.ends.map λb=>!b⟩
theorem zra(ok:m.Ok):(turned m).Ok:=by
 let e:(turned m).ends.length=m.ends.length:=y01 _;apply⟨ok.wid,?_,?_,?_,ok.line,λl C r L=>?_⟩
 .rw[e];show ok.pos
 .rw[e];show ok.few
 .rw[e];show ok.len
 .rw[e];show ok.room l C r L
theorem zhf(m:Mc)(r:Nat)(row:List Nat):(turned m).run r row=m.run r row:=rfl
theorem zhg{m:Mc}{r:Nat}(h:r<m.n):(turned m).fin r=!m.fin r:=by
 let e:=Mc.fin_at h;unfold turned Mc.fin;rw[y02,y04,e];rfl
open PySem PySem.Spec PyProof.Rows L2 SS
noncomputable abbrev nV(n:Nat):V:=.int (n:Int)
def Line(H:Hp)(v:V)(l:List Nat):Prop:=∃a,v=.ref a/\H a=G (.tup<|l.map nV)
def RepM(H:Hp)(a:Ad)(m:Mc):Prop:=∃(b c:Ad) (rs:List V),H a=G (.tup [nV m.w,.ref b,.ref c])/\H b=G (.tup rs)/\i9 (Line H) rs m.ways/\H c=G (.tup<|m.ends.map V.bl)
theorem Line.ts(h:Line H v l)(g:TupS H H'):Line H' v l:=let⟨a,e,z⟩:=h;⟨a,e,g _ _ z⟩
theorem RepM.ts(h:RepM H a m)(g:TupS H H'):RepM H' a m:=by
 let(b,c,rs,Y,h2,h3,p):=h;show⟨b,c,rs,g _ _ Y,g _ _ h2,L2.Paired.mapP h3 λ_ _ z=>z.ts g,g _ _ p⟩
theorem RepM.same(h:RepM H a m)(g:Same H H'):RepM H' a m:=h.ts g.tups
theorem Paired.at2:∀{xs:List d} {ys:List p} {i:Nat} {y:p},i9 Rq xs ys->ys[i]?=G y->∃x,xs[i]?=G x/\Rq x y
 |_,_,_,_,.nil,h=>by simp at h
 |_,_,0,_,.cons h _,e=>by simp at e;subst e;show⟨_,R,h⟩
 |_,_,i+1,_,.cons _ h,e=>by simp only[y1h]at e ⊢;show Paired.at2 h e
theorem Paired.snoc:∀{xs:List d} {ys:List p} {x:d} {y:p},i9 Rq xs ys->Rq x y->i9 Rq (xs++[x]) (ys++[y])
 |_,_,_,_,.nil,h=>.cons h .nil
 |_,_,_,_,.cons h t,z=>.cons h<|Paired.snoc t z
def zrh(K:Frag):Sp:=λvs H Q _=>∃(a b:Ad) (m:Mc) (row:List Nat),vs=[.ref a,.ref b]/\RepM H a m/\m.Ok/\SqL K H b (row.map nV)/\(∀l∈row,l<2^m.w)/\row.length<=300/\
 ∀D H',H D=B->Same H H'->H' D=G (.lst<|(m.path 0 row).map nV)->Q 71 H'
def zn2(K:Frag):Sp:=λvs H Q _=>∃(a b:Ad) (m:Mc) (row:List Nat),vs=[.ref a,.ref b]/\RepM H a m/\m.Ok/\SqL K H b (row.map nV)/\(∀l∈row,l<2^m.w)/\row.length<=300/\
 ∀H',Same H H'->Q (.bl<|m.fin 041) H'
theorem zld(l:List Nat):l.map nV=(l.map λ(n:Nat)=>(n:Int)).map V.int:=by rw[y0t];rfl
theorem zcr:∀{xs:List d} {ys:List p},xs.length=ys.length->(∀(j:Nat) x y,xs[j]?=G x->ys[j]?=G y->Rq x y)->i9 Rq xs ys
 |[],[],_,_=>.nil
 |[],_::_,h,_=>by simp at h
 |_::_,[],h,_=>by simp at h
 |x::xs,y::ys,h,f=>.cons (f 0 x y R R)<|zcr (by simpa using h) λj a b M D=>f (j+1) a b (by simpa using M) (by simpa using D)
theorem nodup_map_on{d p:Type}{f:d->p}:∀{l:List d},(∀a∈l,∀b∈l,f a=f b->a=b)->l.Nodup->(l.map f).Nodup
 |[],_,_=>y3f
 |x::l,h,E=>by
  rw[y1j]at E;rw[y0o,y1j];apply⟨λz=>?_,nodup_map_on (λa g b U=>h a (y08 _ g) b<|y08 _ U) E.2⟩;let(y,O,e):=y0f.mp z;let:=h y (y08 _ O) x y0c e;rw[this]at O;show E.1 O
theorem zfq:∀{a b:List Nat},(a.map λ(n:Nat)=>(n:Int))=(b.map λ(n:Nat)=>(n:Int))->a=b
 |[],[],_=>rfl
 |[],_::_,h=>nomatch h
 |_::_,[],h=>nomatch h
 |x::a,y::b,h=>by
  rw[y0o,y0o,List.cons.injEq]at h;rw[zfq h.2,show x=y by have:=h.1;omega]
theorem zo1(k:Nat):∀ns:List Nat,(ns.map λ(n:Nat)=>(n:Int)).idxOf (k:Int)=ns.idxOf k
 |[]=>rfl
 |x::ns=>by
  rw[y0o,y2l,y2l,zo1 k ns];by_cases h:x=k
  .subst h;simp
  .let Y:(x==k)=Fa:=by simp[h]
   let h2:((x:Int)==(k:Int))=Fa:=by simp;omega
   rw[Y,h2]
def Lk(H:Hp)(b:Ad)(l:List Nat)(g:Nat->Nat):Prop :=
 (∃kvs:List<|Key×V,H b=G 020/\∀r∈l,valV kvs (.inl (r:Int))=G (nV<|g r))\/∃ns:List Nat,H b=G (.lst<|ns.map nV)/\∀r∈l,ns[r]?=G (g r)
theorem Lk.same(h:Lk H b l g)(s:Same H H'):Lk H' b l g:=by
 rcases h with⟨kvs,e,z⟩|⟨ns,e,z⟩
 .exact .inl ⟨kvs,s _ _ e,z⟩
 .exact .inr ⟨ns,s _ _ e,z⟩
def zhk:Sp:=λvs H Q _=>∃(a:Ad) (m:Mc),vs=[.ref a]/\RepM H a m/\m.Ok/\∀D rooms H',H D=B->Same H H'->H' D=G (.lst<|rooms.map nV)->Come m rooms rooms.length 0->Q 71 H'
def ze6:Sp:=λvs H Q _=>∃(a b:Ad) (l:List Nat) (g:Nat->Nat),vs=[.ref a,.ref b]/\H a=G (.tup<|l.map nV)/\l.length<=16/\Lk H b l g/\∀p H',Same H H'->H' p=G (.tup<|(l.map g).map nV)->Q 42 H'
def zkc:Sp:=λvs H Q _=>∃(a b c:Ad) (m:Mc) (rooms:List Nat) (g:Nat->Nat),vs=[.ref a,.ref b,.ref c]/\RepM H a m/\m.Ok/\H b=G (.lst<|rooms.map nV)/\rooms.length<=100/\(∀r∈rooms,r<m.n)/\
 (∀r∈rooms,Lk H c (m.ways.getD r []) g)/\∀p H',Same H H'->RepM H' p 055->Q 42 H'
def zke:Sp:=λvs H Q _=>∃(a:Ad) (bs:List Bool),vs=[.ref a]/\H a=G (.tup 067)/\bs.length<=100/\∀D ns H',H D=B->Same H H'->H' D=G (.lst<|ns.map nV)->Num bs ns->Q 71 H'
def zkd:Sp:=λvs H Q _=>∃(a:Ad) (rs:List V) (ms:List<|List Nat),vs=[.ref a]/\H a=G (.lst rs)/\i9 (Line H) rs ms/\ms.length<=100/\∀D ns H',H D=B->Same H H'->H' D=G (.lst<|ns.map nV)->Num ms ns->Q 71 H'
def zd6:Sp:=λvs H Q E=>zke vs H Q E\/zkd vs H Q E
def zoa:Sp:=λvs H Q _=>∃(a b:Ad) (m:Mc) (ns:List Nat),vs=[.ref a,.ref b]/\RepM H a m/\m.Ok/\H b=G (.lst<|ns.map nV)/\Sorts m ns/\
 ∀D fs H',H D=B->Same H H'->H' D=G (.lst<|fs.map nV)->Num ((070).map<|markOf m ns) fs->Q 71 H'
section
variable {α κ:Type}[DecidableEq α][DecidableEq κ]
def tabF(J:α->κ):Nat->List α->List (κ×V)
 |_,[]=>[]
 |n,x::r=>(J x,nV n)::tabF J (n+1) r
theorem zj4(J:α->κ):∀(ds:List α) (n:Nat) (d:α),tabF J n (ds++[d])=tabF J n ds++[(J d,nV<|n+ds.length)]
 |[],n,d=>rfl
 |x::r,n,d=>by
  change(J x,nV n)::tabF J (n+1) (r++[d])=_;rw[zj4 J r];change _=(J x,nV n)::(tabF J (n+1) r++[(J d,nV<|n+(r.length+1))]);rw[show n+1+r.length=n+(r.length+1) by omega]
theorem zdn(J:α->κ):∀(ds:List α) (n:Nat),(tabF J n ds).length=ds.length
 |[],_=>rfl
 |x::r,n=>by change(tabF J (n+1) r).length+1=r.length+1;rw[zdn J r]
theorem zif{J:α->κ}(inj:∀a b,J a=J b->a=b)(x:α):∀(ds:List α) (n:Nat),valV (tabF J n ds) (J x)=if x∈ds then G (nV<|n+ds.idxOf x)else B
 |[],n=>by simp[tabF,znw]
 |y::r,n=>by
  change valV ((J y,nV n)::tabF J (n+1) r) (J x)=_;by_cases h:y=x
  .subst h;rw[zbh R,Xq y0c];simp
  .rw[zbi λe=>h<|inj _ _ e,zif inj x r<|n+1];let e:(x∈y::r)↔x∈r:=by simp[y09,Ne.symm h]
   by_cases L:x∈r
   .rw[Xq L,Xq<|e.mpr L,y2l,show(y==x)=Fa by simp[h],cond_false,show n+1+r.idxOf x=n+(r.idxOf x+1) by omega]
   .rw[Xp L,Xp λz=>L<|e.mp z]
theorem ze4{J:α->κ}(inj:∀a b,J a=J b->a=b){x:α}{ds:List α}(h:x∈ds):valV (tabF J 0 ds) (J x)=G (nV<|nOf ds x):=by
 rw[zif inj x ds 0,Xq h,y3z];rfl
theorem zfz{J:α->κ}(inj:∀a b,J a=J b->a=b){x:α}{ds:List α}(h:¬x∈ds):valV (tabF J 0 ds) (J x)=B:=by
 rw[zif inj x ds 0,Xp h]
theorem zig{J:α->κ}(inj:∀a b,J a=J b->a=b){x:α}{ds:List α}(h:¬x∈ds):putK (tabF J 0 ds) (J x) (V.int ((tabF J 0 ds).length:Int))=tabF J 0 (ds++[x]):=by
 rw[ziw _<|zfz inj h,zj4,zdn,y3z]
end
def keyB(b:Bool):Key:=.inl<|blI b
def keyL(l:List Nat):List Key:=l.map λ(n:Nat)=>(Sum.inl (n:Int):Key)
theorem zf7(a b:Bool)(e:keyB a=keyB b):a=b:=blI_inj<|Sum.inl.inj e
theorem zbs:∀(a b:List Nat),keyL a=keyL b->a=b
 |[],[],_=>rfl
 |[],_::_,h=>nomatch h
 |_::_,[],h=>nomatch h
 |x::a,y::b,h=>by
  rw[keyL,keyL,y0o,y0o,List.cons.injEq]at h;rw[zbs a b h.2];let e:(x:Int)=(y:Int):=Sum.inl.inj h.1;rw[show x=y by omega]
theorem zh7(l:List Nat):(keyL l).map kV=l.map nV:=by unfold keyL;rw[y0t];rfl
def knT(rooms:List Nat):List (Key×V):=rooms.map λ(r:Nat)=>((Sum.inl (r:Int):Key),V.bl N)
theorem knT_len(rooms:List Nat):(knT rooms).length=rooms.length:=y01 _
theorem zna(r:Nat):∀rooms:List Nat,valV (knT rooms) (.inl (r:Int))=if r∈rooms then G (V.bl N)else B
 |[]=>by simp[knT,znw]
 |x::rooms=>by
  change valV (((Sum.inl (x:Int):Key),V.bl N)::knT rooms) (.inl (r:Int))=_;by_cases h:x=r
  .subst h;rw[zbh R,Xq y0c]
  .rw[zbi λe=>h (by have:=Sum.inl.inj e;omega),zna r rooms];let e:(r∈x::rooms)↔r∈rooms:=by simp[y09,Ne.symm h]
   by_cases L:r∈rooms
   .rw[Xq L,Xq<|e.mpr L]
   .rw[Xp L,Xp λz=>L<|e.mp z]
theorem knT_put{r:Nat}{rooms:List Nat}(h:¬r∈rooms):putK (knT rooms) (.inl (r:Int)) (V.bl N)=knT (rooms++[r]):=by
 rw[ziw _<|by rw[zna,Xp h]];simp[knT]
theorem TupS.wrT(h:H p=G (.dT kvs))(o:HO):TupS H (upd H p o):=λb ys e=>by rw[zaj<|zm4 e h (by intro z;cases z)];show e
theorem some_of{d:Type}{xs:List d}{i:Nat}(h:i<xs.length):∃x,xs[i]?=G x:=⟨_,y00 h⟩
theorem zlf{d:Type}{xs:List d}{i:Nat}{x:d}(h:xs[i]?=G x):i<xs.length:=(y0d.mp h).1
section
variable {m1 m2:Mc}{ls rws:List (List Nat)}{at' l:Nat}
theorem zrn{d:Type}{xs:List d}{y x:d}{i:Nat}(h:(xs++[y])[i]?=G x):xs[i]?=G x\/(i=xs.length/\x=y):=by
 by_cases hi:i<xs.length
 .rw[y11 hi]at h;show .inl h
 .let:=zlf h;rw[y0j,y0u]at this;let e:i=xs.length:=by omega
  subst e;rw[y13 43,y38]at h;simp only[y2n,Option.some.injEq]at h;show .inr ⟨R,h.symm⟩
theorem zrl{d:Type}{xs:List d}{y x:d}{i:Nat}(h:xs[i]?=G x):(xs++[y])[i]?=G x:=by rw[y11<|zlf h];show h
theorem zrm{d:Type}(xs:List d)(y:d):(xs++[y])[xs.length]?=G y:=by simp
end
structure RowD(H0 H:Hp)(p:Ad)(kvs:List<|List Key×V)(ls rws:List<|List Nat):Prop where
 len:kvs.length=ls.length
 out:∀x,¬x∈ls->valV kvs (keyL x)=B
 at':∀(i:Nat) x u,ls[i]?=G x->rws[i]?=G u->∃D,valV kvs (keyL x)=G 71/\H0 D=B/\D≠p/\H D=G (.lst<|u.map nV)
theorem RowD.keep(r:RowD U H p kvs ls rws)(k:∀D xs,D≠p->H D=G 99->H' D=G 99):RowD U H' p kvs ls rws :=
 ⟨r.len,r.out,λi x u Y h2=>let⟨D,M,J,L,o⟩:=r.at' i x u Y h2;⟨D,M,J,L,k D _ L o⟩⟩
theorem RowD.inn(r:RowD a H p kvs ls rws)(C:rws.length=ls.length)(h:x∈ls):∃v,valV kvs (keyL x)=G v:=by
 let(i,hi,e):=y1s h;let(u,U):=some_of (xs:=rws) (i:=i) 01;let(D,M,_):=r.at' i x u (by rw[y00 hi,e]) U;show⟨_,M⟩
theorem RowD.put(r:RowD U H p kvs ls rws)(C:rws.length=ls.length)(J:¬x∈ls)(h0:U D=B)(l:D≠p)(I:H D=G (.lst<|u.map nV)):
  RowD U H p (putK kvs (keyL x) 71) (ls++[x]) (rws++[u]):=by
 apply⟨?_,λy L=>?_,λi y v Y h2=>?_⟩
 .rw[ziw _<|r.out x J,y0j,y0j,r.len];rfl
 .rw[y16,not_or,y0e]at L;rw[zeg,Xp λe=>L.2<|zbs _ _ e];show r.out y L.1
 .rcases zrn Y with Y|⟨rfl,rfl⟩
  .let hi:=zlf Y;rw[y11 01]at h2;rw[zeg,Xp λe=>J<|by rw[←zbs _ _ e];show y0q Y];show r.at' i y v Y h2
  .rw[←C,zrm]at h2;cases h2;rw[zeg,Xq rfl];show⟨D,R,h0,l,I⟩
end SM
namespace L2
theorem zjl{pos f:Pos}(l:List Va)(h:TriplesOk l):jt f (l++[iF pos.line,iF pos.col,v])=match jt f l with
  |some x=>G x
  |none=>if((pos.line:Int)==(f.line:Int)&&(pos.col:Int)==(f.col:Int))=N then G v else B:=by
 fun_induction TriplesOk l with
 |case1=>simp[jt,iF]
 |case2 a t b u x rest A =>
  simp only[y1r,jt];split
  .rfl
  .exact A h
 |case3 l Y h2=>show h.elim
def TabOk(H:Hp)(P:Ad)(qs:Y3):Prop:=∃ps:Array Va,H P=G (.tbl qs ps)
theorem TabOk.same(T:TabOk H P qs)(g:Same H H'):TabOk H' P qs:=let⟨ps,h⟩:=T;⟨ps,g _ _ h⟩
def KCode(K:Frag)(c P:Ad):Prop:=∃o vs a y O r j d p,K.lookup c=G o/\o.cls=.type "code"/\o.data=.fields vs/\vs[11]?=G (.ref P)/\vs.getD 11 .none=.ref P/\vs.getD 18 .none=.str a y/\
 vs.getD 7 .none=.int O r/\vs.getD 9 .none=.bool j/\vs.getD 10 .none=.int d p/\c≠P
section
variable {X:Cx}{pins:Y2}{σ:St}{H:Hp}{s:ig}
theorem fn_code(I:02 H s)(hc:X.env.code=.ref c)(kc:KCode X.K c P)
  (T:TabOk H P qs) (hq:(pos,qual)∈qs) (hone:∀p∈qs,p.1.line=pos.line->p.1.col=pos.col->p.2=qual)
  (h:∀c' o H' s',02 H' s'->H' c'=G (.frz o<|.own c')->CodeObj o qual->Same H H'->Q (.ref c') s') :
  wpAny 26 X.A (functionCode X.env pos line name qual params scope body) Q E s:=by
 let(ps0,hP):=T;let(g,hop,htr,hcs):=I.hok P _ hP;let(oc,vs,file,tf,O,r,inF,text,tt,lk,aa,hd,h11',h11,h18,h7,h9,h10,y):=kc;let Y:s.heap.get? c=G oc:=I.kIn c oc lk;generalize d5:ps0++g=ps at hop htr hcs;cases j:jt pos ps.toList with
 |some v =>
  let(c',o,rfl,d,co):=hcs _ hq v j;unfold functionCode codeAt;rw[hc,Xp<|show¬((Va.ref c==Va.none)=N)from y0k];apply ia<|wpAny_fieldsOf Y hd ?_;rw[h11];apply ia<|wpAny_fieldsOf hop R ?_;rw[j];show ib<|h c' o H s I d co λ_ _ e=>e
 |none =>
  let ic:s.heap.IsCode c P ps:=⟨oc,vs,file,tf,O,r,inF,text,tt,_,Y,hd,h11,h18,h7,h9,h10,hop,R,htr,y⟩;apply wpAny_functionCodeX hc ic ⟨⟨oc,vs,Y,aa,hd,h11'⟩,hop⟩ j λc' h' tk J hge f hic hrec lu _=>?_;let(c₂,A,c8,t',e,d,aq,hv'):=hrec;cases e;let nPn:∀b,H b=B->b≠P:=λb e z=>by rw[z,hP]at e;cases e
  let hcn:H c'=B:=I.hok.fresh hge;let nc:∀b u,H b=G u->b≠c':=λb u e z=>by rw[z,hcn]at e;cases e
  let nP:∀b u,H b=G u->(∀a b,u ≠ .tbl a b)->b≠P:=λb u e n z=>by rw[z,hP]at e;cases e;show n _ _ R
  let up:∀b u,H b=G u->upd H c' (.frz A<|.own c') b=G u:=λb u e=>by rw[zaj<|nc b u e];show e
  let co:CodeObj A qual:=⟨c8,t',aq,hv'⟩;let I':02 (upd H c'<|.frz A (.own c')) {s with heap:=h',toks:=tk}:=by
   apply I.un ⟨λb o e n _ _=>J b o (nPn b n) e,λb o e n _ _=>⟨o.slots,J b o (nPn b n) e⟩,λb o e n _=>?_,λb o e _=>?_,λb xs e=>up b _ e,λb o u e=>up b _ e,λb qs ps e=>up b _ e⟩ λb u e=>?_
   .rw[zaj<|y0m (y0r (y0g e) hge)];show n
   .by_cases U:b=P
    .subst U;show⟨_,lu.2⟩
    .exact⟨o,J b o U e⟩
   .by_cases U:b=c'
    .subst U;rw[zat]at e;cases e;show⟨d,_,d⟩
    .rw[zaj U]at e;by_cases hbP:b=P
     .subst hbP;rw[hP]at e;cases e;let C:(ps++#[iF pos.line,iF pos.col,Va.ref c']).toList=ps.toList++[iF pos.line,iF pos.col,.ref c']:=by simp
      let D:ps0++(g++#[iF pos.line,iF pos.col,Va.ref c'])=ps++#[iF pos.line,iF pos.col,Va.ref c']:=by rw[←Array.append_assoc,d5]
      apply⟨g++#[iF pos.line,iF pos.col,.ref c'],by rw[D];show lu.2,by rw[D,C];show TriplesOk_snoc _ _ _ _ htr,λp l v e=>?_⟩;rw[D,C,zjl _ htr]at e;cases hv:jt p.1 ps.toList with
      |some x =>
       rw[hv]at e;cases e;let(c1,i,M,D,L):=hcs p l _ hv;show⟨c1,i,M,up c1 _ D,L⟩
      |none =>
       rw[hv]at e;simp only at e;split at e
       .rename_i hh;cases e;rw[y05]at hh;let M:pos.line=p.1.line:=by have:=hh.1;simp at this;omega
        let D:pos.col=p.1.col:=by have:=hh.2;simp at this;omega
        show⟨c',A,R,zat,by rw[hone p l M.symm D.symm];show co⟩
       .cases e
     .refine(I.hok b u e).stay (λc w hc q=>J c w ?_ q) (λc q=>up c _ q) (λc _ _ _ _ q=>up c _ q) λc xs q=>up c _ q;rcases hc with rfl|hc
      .exact hbP
      .exact nP c _ hc λ_ _ z=>nomatch z
  show h c' A _ _ I' zat co up
def cloFd(name qual:Str)(params:iL)(body:ld)(scope:Scope)(cl:Y4)(ct cd j:Va):i5 :=
 {name,qualname:=qual,params,body,scope,globals:=ir,closure:=cl,closureTuple:=ct,code:=cd,builtins:=jd,defaults:=.none,kwdefaults:=.none,annotations:=B,pyModule:=j,doc:=.none}
def BltK(base:Heap)(mg:Y1):Prop:=∃bm o,mg "__builtins__"=G (.ref bm)/\bm≠jd/\base.get? bm=G o/\o.cls=.type "module"/\o.dict=G jd/\o.data=.plain
def NoDoc:ld->Prop
 |.stmts b=>docOf b=B
 |.expr _=>True
structure Made(X:Cx)(H H':Hp)(name qual:Str)(params:iL)(body:ld)(scope:Scope)(f:Ad):Prop where
 old:Same H H'
 new:H f=B
 ex:∃cl ct c' oc pm,(∀x c,cl.lookup x=G c->X.env.cells.lookup x=G c)/\(∀p∈scope.names,p.2=.free->∃c,cl.lookup p.1=G c)/\H' c'=G (.frz oc<|.own c')/\CodeObj oc qual/\
  H' f=G (.frz {cls:=.type "function",data:=.func (cloFd name qual params body scope cl ct (.ref c') pm)} (.own f))
theorem zm8(I:02 H s)(hc:X.env.code=.ref c)(C:KCode X.K c P)(kb:BltK X.base X.mg)
  (af:∀p∈scope.names,p.2=.free->X.env.kindOf p.1=G .cell\/X.env.kindOf p.1=G .free) (nd:NoDoc body)
  (T:TabOk H P qs) (Y:(pos,qual)∈qs) (i:∀p∈qs,p.1.line=pos.line->p.1.col=pos.col->p.2=qual)
  (h:∀f H' s',02 H' s'->Made X H H' name qual params body scope f->Q 57 s') :
  wpAny 26 X.A (makeFunction name qual params body scope X.env [] [] [] pos line) Q E s:=by
 let(cl,U,g,da):=zia (scope:=scope) (env:=X.env) λp l j=>I.ok.has p.1<|af p l j;let(bm,ob,v,b2,b3,r,J,D):=kb;let tail:∀(ct:Va) (s1:ig),02 H s1->wpAny 26 X.A (do
   let fd:i5:={name,qualname:=qual,params,body,scope,globals:=X.env.globals,closure:=cl,closureTuple:=ct,code:=←functionCode X.env pos line name qual params scope body,builtins:=←builtinsFor X.env.globals X.env.builtins,defaults:=.none,kwdefaults:=.none,annotations:=B,pyModule:=(←nsGet X.env.globals "__name__").getD .none,doc:=←match body with|.stmts b=>(match docOf b with|some s=>mkText s|none=>pure .none)|.expr _=>pure .none}
   newObj (.type "function") (.func fd)) Q E s1:=by
  intro ct s1 I1;apply ia<|fn_code I1 hc C T Y i λc' oc H' s' w M co up=>?_;let y:s'.heap.Ns X.env.globals X.mg:=by rw[w.ok.glob];show w.mod.glob.keeps w.bk
  apply ia<|wpAny_builtinsFor y v b2 (w.bk bm ob b3) r J D ?_;apply ia<|wpAny_nsGet y ?_;let fin:wpAny 26 X.A (newObj (.type "function")<|.func {name,qualname:=qual,params,body,scope,globals:=X.env.globals,closure:=cl,closureTuple:=ct,code:=.ref c',builtins:=jd,defaults:=.none,kwdefaults:=.none,annotations:=B,pyModule:=(X.mg "__name__").getD .none,doc:=.none}) Q E s':=by
   apply iG ?_ (by size_fits);rw[w.ok.glob];let q:H' s'.heap.objs.size=B:=w.fresh;let x:H s'.heap.objs.size=B:=by
    cases e:H s'.heap.objs.size with
    |none=>rfl
    |some u=>rw[up _ u e]at q;cases q
   let O:∀b u,H' b=G u->b≠s'.heap.objs.size:=λb u e z=>by rw[z,q]at e;cases e
   let A:=w.laid (a:=s'.heap.objs.size) (o:=.frz {cls:=.type "function",data:=.func (cloFd name qual params body scope cl ct (.ref c')<|(X.mg "__name__").getD .none)} (.own s'.heap.objs.size)) (t':=s'.toks)
    (h':=s'.heap.push {cls:=.type "function",data:=.func (cloFd name qual params body scope cl ct (.ref c')<|(X.mg "__name__").getD .none)}) (λb u e=>y03 _ e) 43 ⟨y0h _ R,_,y0h _ R⟩
   apply h _ _ _ A ⟨λb u e=>by rw[zaj<|O b u (up b u e)];show up b u e,x,cl,ct,c',oc,_,g,da,by rw[zaj<|O c' _ M];show M,co,zat⟩
  cases body with
  |expr e=>show ia<|ib fin
  |stmts b =>
   let L:docOf b=B:=nd;apply ia ?_;change wpAny _ _ (match docOf b with|some s=>mkText s|none=>pure .none) _ _ _;rw[L];show ib fin
 rw[makeFunction_eq];simp only[List.isEmpty_nil,if_true,List.zip_nil_right,List.filterMap_nil];apply ia<|ib (ia<|ib (ia<|ib ?_));unfold makeTail;rw[U];apply ia<|ib ?_;change wpAny _ _ (if cl.isEmpty=N then _ else _) _ _ _;by_cases d:cl.isEmpty=N
 .rw[Xq d];show ia<|ib (tail .none s I)
 .rw[Xp d];apply ia<|wpAny_newTextTuple ?_;show(tail _ _<|I.kept (t':=s.toks) λb o e=>y03 _ e)
end
noncomputable def fnO(fd:i5)(f:Ad):HO:=.frz {cls:=.type "function",data:=.func fd} (.own f)
def Frz(H H':Hp):Prop:=∀b o u,H b=G (.frz o u)->H' b=G (.frz o u)
theorem Frz.refl(H:Hp):Frz H H:=λ_ _ _ e=>e
theorem Frz.trans(a:Frz H H1)(b:Frz H1 H2):Frz H H2:=λc o u e=>b c o u<|a c o u e
theorem Same.frz(g:Same H H'):Frz H H':=λb o u e=>g _ _ e
def CloH(P:ik)(w:World)(K:Frag)(mg:Y1)(base:Heap)(k:Nat)(H:Hp)(f:Ad)(n:Nat)(sp:Sp):Prop :=
 ∀(A:io) (outer:List Env) (s:ig) (H':Hp) (us:List Va) (vs:List V) (Q:VK),Room k A->Env0 P w K mg base A outer s H'->Frz H H'->Vals vs us->vs.length=n->sp vs H' Q E0->
  iZ 014 A (.call 57 024) (CR CX0 outer P w H' s Q E0) s
theorem CloH.mono{P:ik}{w:World}{K:Frag}{mg:Y1}{base:Heap}{k:Nat}{H H1:Hp}{f:Ad}{n:Nat}{sp:Sp}(c:CloH P w K mg base k H f n sp)(g:Frz H H1):CloH P w K mg base k H1 f n sp :=
 λA outer s H' us vs Q L j D=>c A outer s H' us vs Q L j<|g.trans D
def tCallV(P:ik)(w:World)(K:Frag)(mg:Y1)(base:Heap)(k n:Nat)(sp:Sp)(i:Nat)(t:TA):TE:=λσ H Q=>∃f fd,σ[i]?=G (G 57)/\H f=G (fnO fd f)/\
 t σ H λvs H1=>H1 f=G (fnO fd f)/\CloH P w K mg base k H1 f n sp/\vs.length=n/\sp vs H1 Q E0
theorem zja(f:Ad)(fd:i5):PySem.W.keepIn [099] 57=N:=by
 unfold PySem.W.keepIn;simp[List.lookup]
theorem zwd{X:Cx}{x:Str}{i k n:Nat}{sp:Sp}{p pos:Pos}{e:Expr}{es:List Expr}{t:TA}(hN:X.Nq[i]?=G x)(hv:Vis X.env.scope x)(L:Room k X.A)(g:PA X (e::es) t)
  (hd:82=Fa:=by decide) (hcd:079=Fa:=by decide) (d:im (e::es) X.env=044::im es X.env:=by rfl) (z:(074).any (·.1)=Fa:=by rfl) :
  PE X 012 (tCallV X.prog X.w X.K X.mg X.base k n sp i t):=by
 intro pins s σ H Q I h;let(f,fd,hs,j,h):=h;exfalso;let(M,D):=zq;subst M D;cases(show u=Va.ref f from r1);let v:∀{H2:Hp} {s2:ig},02 H2 s2->H2 f=G (fnO fd f)->PySem.W.Frag.In [099] s2.heap:=λ{H2 s2} A l a o e=>by
  simp only[List.lookup]at e;split at e
  .rename_i q;cases e;rw[beq_iff_eq.mp q];show(A.hok f _ l).1
  .cases e
 apply PySem.W.callWith_K (K:=[099]) (h₀:=s1.heap) (v I1 j) (zja f fd) (thn (g pos pins s1 σ H1 _ I1 h) λus s2 ⟨vs,H2,A,r,l,c,C,q⟩=>⟨v A l,?_⟩) d z;apply iO<|iA (c X.A X.stack s2 H2 us vs Q L A.env0 (Frz.refl _) r C q) λr s' T=>?_;cases r with
 |error e=>show False.elim T
 |ok J =>
  cases J with
  |ret u=>show A.after T
  |next=>show False.elim T
  |brk=>show False.elim T
  |cont=>show False.elim T
def tDef(X:Cx)(P:Ad)(qs:Y3)(name qual:Str)(params:iL)(body:ld)(scope:Scope)(j:Nat):TS:=λD σ H=>TabOk H P qs/\∀f H',Made X H H' name qual params body scope f->D.nx (σ.set j<|G 57) H'
def tLam(X:Cx)(P:Ad)(qs:Y3)(name qual:Str)(params:iL)(body:ld)(scope:Scope):TE:=λσ H Q=>TabOk H P qs/\∀f H',Made X H H' name qual params body scope f->Q 57 H'
section
variable {X:Cx}{c P:Ad}{qs:Y3}{pos:Pos}{name qual:Str}{params:iL}{scope:Scope}
theorem zr6(hc:X.env.code=.ref c)(C:KCode X.K c P)(l:BltK X.base X.mg)(u:∀p∈scope.names,p.2=.free->X.env.kindOf p.1=G .cell\/X.env.kindOf p.1=G .free)
  (Y:(pos,qual)∈qs) (i:∀p∈qs,p.1.line=pos.line->p.1.col=pos.col->p.2=qual) (hd:params.defaults=[]) (O:params.kw_defaults=[]) (a:X.env.qual++"<lambda>"=qual) :
  PE X (.Lambda params body scope pos) (tLam X P qs "<lambda>" qual params (.expr body) scope):=by
 intro pins s σ H Q I h;let(T,h):=h;rw[arm_eval_Lambda];let d:defaultsOf params X.env=([],[]):=by rw[defaultsOf_eq,hd,O];rfl
 simp only[d];apply ia<|ib (ia<|iy (ib ?_));rw[a];show zm8 I hc C l u trivial T Y i λf H' s' w M=>⟨.ref f,H',w,R,h f H' M⟩
theorem ps_defn(hc:X.env.code=.ref c)(C:KCode X.K c P)(l:BltK X.base X.mg)(u:∀p∈scope.names,p.2=.free->X.env.kindOf p.1=G .cell\/X.env.kindOf p.1=G .free)(nd:docOf body=B)
  (Y:(pos,qual)∈qs) (i:∀p∈qs,p.1.line=pos.line->p.1.col=pos.col->p.2=qual) (hd:params.defaults=[]) (O:params.kw_defaults=[]) (g:∀e,annTrees params B e=[]) (a:jZ X.env name name=qual)
  (hN:X.Nq.Nodup) (o:X.Nq[j]?=G name) (J:X.env.scope.names.lookup name=G .local):PS X 125 130:=by
 intro pins s σ H D I h;let(T,h):=h;rw[exec_def];let d:defaultsOf params X.env=([],[]):=by rw[defaultsOf_eq,hd,O];rfl
 simp only[d,g,a];apply ia<|jb (ia<|iy (ia<|ib (ia<|iy (ib<|iy (ia<|ib ?_)))));apply zm8 I hc C l u nd T Y i λf H' s' w M=>ia<|jb (ia<|jR ?_);show zci w hN o (.inl J) (v:=.ref f) R (λs2 A=>ib ⟨_,H',A,h f H' M⟩)<|.inr J
end
def CellOf(X:Cx)(b:Ad):Prop:=∃x,X.env.cells.lookup x=G b
def Adopted(X:Cx)(σ:St)(H Hq:Hp):Prop:=(∀b,¬CellOf X b->Hq b=H b)/\(∀b,CellOf X b->H b=B)/\(∀x y c,X.env.cells.lookup x=G c->X.env.cells.lookup y=G c->x=y)/\∀x c,X.env.cells.lookup x=G c->∃o v,Hq c=G 013/\o.data=.cell v/\
 ∀(i:Nat) y,X.Nq[i]?=G x->σ[i]?=G (G y)->191->∃u,RelV y u/\v=G u
open Classical in
noncomputable def dropX(X:Cx)(H:Hp):Hp:=λb=>if CellOf X b then B else H b
def tCallA(X:Cx)(sp:Sp)(t:TA):TE:=λσ H Q=>t σ H λvs H1=>∀Hq,Adopted X σ H1 Hq->sp vs Hq (λv H2=>Q v<|dropX X H2) E0
theorem zwf{X:Cx}{k:Nat}{f:Ad}{fd:i5}{ps:List Str}{sp:Sp}{x:Str}{p pos:Pos}{e:Expr}{es:List Expr}{t:TA}(F:FnOk X.prog X.w X.K X.mg X.base CX0 k f fd ps sp)(L:Room k X.A)(hg:Gl X x)(hm:X.mg x=G 57)(O:PySem.W.keepIn X.K 57=N)(U:Binds X.K fd ps [])
  (bq:∀x,X.fn x=N) (ha:PA X (e::es) t) (hdb:82=Fa:=by decide) (d:im (e::es) X.env=044::im es X.env:=by rfl) (ap:(074).any (·.1)=Fa:=by rfl) :
  PE X 012 (tCallA X sp t):=by
 classical
 intro pins s σ H Q I h;apply i4<|zb8 I hg hm ?_ hdb;apply PySem.W.callWith_K (h₀:=X.base) I.ok.mod.kin O (thn 091 λus s1 zz=>ex5 zz λvs H1 I1 r q=>⟨I1.kIn,?_⟩) d ap;letI Hq:Hp:=λb=>if CellOf X b then(s1.heap.get? b).map λo=>.frz o (.own b)else H1 b
 let q1:∀b,¬CellOf X b->Hq b=H1 b:=λb n=>Xp n;let q2:∀x c,X.env.cells.lookup x=G c->∃o v,s1.heap.get? c=G o/\o.data=.cell v/\Hq c=G 013:=λx c e=>by
  let(v,o,Y,hd):=I1.cell x c e;show⟨o,v,Y,hd,by change(if CellOf X c then _ else _)=_;rw[Xq ⟨x,e⟩,Y];rfl⟩
 let tr:∀b u,H1 b=G u->¬CellOf X b:=λb u e ⟨x,z⟩=>by rw[I1.freeC x b z]at e;cases e
 let ad:Adopted X σ H1 Hq:=⟨q1,λb ⟨x,z⟩=>I1.freeC x b z,I1.ok.inj,λx c e=>by
  let(o,v,Y,hd,T):=q2 x c e;apply⟨o,v,T,hd,λi y M D e3=>?_⟩;let(m,E,C):=I1.loc;let(u,ru,l):=C i x y M D (by rcases e3 with z|z;show .inr<|.inl z;show .inr<|.inr z);rcases l with⟨z,_⟩|⟨_,c',aw,A,w,aq⟩
  .rcases e3 with y'|y'<;>(rw[z]at y';cases y')
  .rw[e]at aw;cases aw;rw[Y]at w;cases w;rw[hd]at aq;cases aq;show⟨u,ru,R⟩⟩
 let low:∀b,CellOf X b->X.s₀.heap.objs.size<=b:=λb ⟨x,e⟩=>I1.ok.cab x b (bq x) e;let dm:∀b∈frs X.stack,¬CellOf X b:=λb U ⟨x,e⟩=>by
  rcases y09.mp (I1.stkSub b U)with z|z
  .exact I1.cne x b e z
  .let(_,o,Y,_):=I1.ok.funs.mem z;show Xa (y0r (y0g Y)<|low b ⟨x,e⟩)<|y1p _
 let up:∀b u,H1 b=G u->Hq b=G u:=λb u e=>by rw[q1 b<|tr b u e];show e
 let hokq:HOk X.prog X.w Hq s1.heap:=λb u e=>by
  by_cases hc:CellOf X b
  .let(x,ex):=hc;let(o,v,Y,hd,T):=q2 x b ex;rw[T]at e;cases e;show⟨Y,o,Y⟩
  .rw[q1 b hc]at e;show(I1.hok b u e).stay (λ_ _ _ z=>z) (λc z=>up c _ z) (λc _ _ _ _ z=>up c _ z) λc xs z=>up c _ z
 let e0:=I1.env0;let e0q:Env0 X.prog X.w X.K X.mg X.base X.A X.stack s1 Hq:=⟨e0.frames,e0.mod,λb o e=>⟨(042).1,by
  rw[q1 b λhc=>Xa (y0r (y0g e)<|y0v I1.ok.bsz (low b hc))<|y1p _];show(042).2⟩,e0.bsz,e0.funs,λb U=>by rw[q1 b<|dm b U];show e0.frf b U,hokq,e0.bare⟩
 let C:us.length=ps.length:=by rw[←r.length];show F.len _ _ _ _<|q Hq ad
 apply iO<|iA (F.run X.A X.stack s1 Hq 024 us vs _ E0 L e0q (by have:=U s1 us I1.kIn (by rw[y1z];show C);rw[y1z]at this;show this) r<|q Hq ad) λr s' T=>?_;cases r with
 |error e=>show False.elim T
 |ok fl =>
  cases fl with
  |next=>show False.elim T
  |brk=>show False.elim T
  |cont=>show False.elim T
  |ret u =>
   let(v,H2,os,bare,un,dk,rv,qq):=T;let c2:∀x c,X.env.cells.lookup x=G c->∃o,s1.heap.get? c=G o/\H2 c=G 013/\s'.heap.get? c=G o:=λx c e=>by
    let(o,v,Y,hd,T):=q2 x c e;let z:=un.frzs c o _ T;show⟨o,Y,z,(dk c _ z).1⟩
   let g:∀b,¬CellOf X b->dropX X H2 b=H2 b:=λb n=>Xp n;let nmC:∀b o u q,CodeObj o q->H2 b=G (.frz o u)->¬CellOf X b:=λb o u q ⟨vs,t,hv,_⟩ e ⟨x,z⟩=>by
    let(A,w,z2,_):=c2 x b z;rw[z2]at e;cases e;let(v,o3,Y,hd):=I1.cell x b z;rw[w]at Y;cases Y;rw[hv]at hd;cases hd
   let nm:∀b u,H2 b=G u->(∀o a,u ≠ .frz o a)->¬CellOf X b:=λb u e n ⟨x,z⟩=>by
    let(o,_,z2,_):=c2 x b z;rw[z2]at e;cases e;show n _ _ R
   apply I1.after ⟨v,dropX X H2,os,bare,⟨λb o e n j J=>?_,λb o e n j J=>?_,λb o e n J=>?_,λb o e J=>?_,λb xs e=>?_,λb o a e=>?_,λb qs ps e=>?_⟩,λb u e=>?_,rv,qq⟩
   .by_cases hc:CellOf X b
    .let(x,ex):=hc;let(A,w,_,z):=c2 x b ex;rw[e]at w;cases w;show z
    .exact un.keep b o e (by rw[q1 b hc];show n) j J
   .exact un.slot b o e (by rw[q1 b<|dm b j];show n) j J
   .by_cases hc:CellOf X b
    .exact Xq hc
    .rw[g b hc];show un.free b o e (by rw[q1 b hc];show n) J
   .exact un.there b o e J
   .rw[g b<|tr b _ e];show un.tups b xs<|up b _ e
   .rw[g b<|tr b _ e];show un.frzs b o a<|up b _ e
   .rw[g b<|tr b _ e];show un.tbls b qs ps<|up b _ e
   .let hc:¬CellOf X b:=λhc=>by
     let:dropX X H2 b=B:=Xq hc;rw[this]at e;cases e
    rw[g b hc]at e;show(dk b u e).stay (λ_ _ _ z=>z) (λc z=>by rw[g c<|nm c _ z λ_ _ y=>nomatch y];show z) (λc o a q co z=>by rw[g c<|nmC c o a q co z];show z) λc xs z=>by rw[g c<|nm c _ z λ_ _ y=>nomatch y];show z
theorem zhw:∀{xs:List d} {ys:List p},i9 Rq xs ys->xs.length=ys.length
 |_,_,.nil=>rfl
 |_,_,.cons _ t=>by rw[y0i,y0i,zhw t]
theorem zu1:∀{xs:List d} {ys:List p} {i:Nat} {x:d} {y:p},i9 Rq xs ys->xs[i]?=G x->ys[i]?=G y->Rq x y
 |_,_,_,_,_,.nil,e,_=>by simp at e
 |_,_,0,_,_,.cons r _,M,D=>by simp at M D;subst M D;show r
 |_,_,i+1,_,_,.cons _ t,M,D=>zu1 (i:=i) t (by simpa using M) (by simpa using D)
def envL(qual:Str)(scope:Scope)(cl:Y4)(L f:Ad)(cd:Va):Env :=
 {scope:=scope,locals:=L,globals:=ir,cells:=cl,qual:=qual++".<locals>.",func:=G f,code:=cd,frame:=G L,builtins:=jd}
def InCl(cl:Y4)(b:Ad):Prop:=∃x,cl.lookup x=G b
open Classical in
noncomputable def dropL(cl:Y4)(H:Hp):Hp:=λb=>if InCl cl b then B else H b
open Classical in
noncomputable def mixL(cl:Y4)(H H2:Hp):Hp:=λb=>if InCl cl b then H b else H2 b
noncomputable def cxL(P:ik)(w:World)(K:Frag)(mg:Y1)(base:Heap)(Nq:List Str)(qual:Str)(scope:Scope)(cl:Y4)(f:Ad)(cd:Va)(A:io)(outer:List Env)(s:ig)(H:Hp):Cx where
 prog:=P
 w:=w
 K:=K
 mg:=mg
 base:=base
 A:=A.deeper 169
 Nq:=Nq
 s₀:=s
 H₀:=dropL cl H
 env:=envL qual scope cl s.heap.objs.size f cd
 outer:=outer
 stack:=envL qual scope cl s.heap.objs.size f cd::outer
 ex:=[]
 calm:=N
 fn:=λ_=>Fa
 pn:=[]
 xe:=λ_ _=>False
structure CloScope(own ps cap:List Str)(sc:Scope):Prop where
 kind:sc.kind=.function
 co:sc.isCoroutine=Fa
 gen:sc.isGenerator=Fa
 nocell:∀y∈sc.names,y.2 ≠ .cell
 pre:own.take ps.length=ps
 nd:ps.Nodup
 par:∀x∈ps,sc.names.lookup x=G .local
 cap:∀x∈cap,sc.names.lookup x=G .free
def Caps(H:Hp)(cl:Y4)(cap:List Str)(cv:List V):Prop:=i9 (λx v=>∃c o u,cl.lookup x=G c/\H c=G 013/\o.data=.cell (G u)/\RelV v u) cap cv
noncomputable def stL(own:List Str)(vs cv:List V):St:=vs.map G++List.replicate (own.length-vs.length) B++cv.map G
section
variable {P:ik}{w:World}{K:Frag}{mg:Y1}{base:Heap}{A:io}{outer:List Env}{s:ig}{H:Hp}{own ps cap:List Str}{qual:Str}{scope:Scope}{cl:Y4}{f:Ad}{cd:Va}{vs cv:List V}{us:List Va}
theorem zb5(U:∀x c,cl.lookup x=G c->∃o v,H c=G 013/\o.data=.cell v)(e:H b=G u)(n:∀o a,u ≠ .frz o a):¬InCl cl b:=λ⟨x,z⟩=>by
 let(o,v,T,_):=U x b z;rw[T]at e;cases e;show n _ _ R
theorem zuf(U:∀x c,cl.lookup x=G c->∃o v,H c=G 013/\o.data=.cell v)(co:CodeObj o q)(e:H b=G (.frz o a)):¬InCl cl b:=λ⟨x,z⟩=>by
 let(o,v,T,j):=U x b z;rw[T]at e;cases e;let(vs,t,hv,_):=co;rw[hv]at j;cases j
end
section
variable {prog:ik}{w:World}{A:io}{Rq:Result->ig->Prop}{s:ig}
theorem zjk(h:wpAny 73 (A.deeper env) (eval e env) (λv s'=>Rq (.ok<|.ret v) s') (λe s'=>wpAny 73 (A.deeper env) (jT env e) (λ_ g=>Rq (.error e) g) (λl g=>Rq (.error l) g) s') s):
  iZ 73 A (.expr e env) Rq s:=by
 apply j6 ?_;change wpAny _ (A.deeper env) (do point;ret (←(eval e env).onRaise (jT env))) _ _ s;show ia<|wpAny_point (ia<|j3 (ip h (λv s' h'=>ib h') λ_ _ h'=>h'))
theorem ze2(f:A.depth<jO)(Y:s.heap.get? a=G o)(J:o.data=.func fd)(l:fd.scope.isCoroutine=Fa)(g:fd.scope.isGenerator=Fa)(i:fd.body=.expr body)(hcd:s.heap.CodeRec fd.code fd.qualname)
  (h:wpAny 73 A.in1 (jf fd args) (λbinds s₁ =>
   wpAny 73 A.in1 (jG fd.scope fd.globals fd.closure binds (fd.qualname++".<locals>.") 97 fd.code B fd.builtins)
    (λenv s₂=>s₂.heap.NoLimit/\iZ 73 A (.expr body env) Rq s₂) (λe s'=>Rq (.error e) s') s₁) (λe s'=>Rq (.error e) s') s) :
  iZ 73 A (.call 07 args) Rq s:=by
 apply j6 ?_;change wpAny _ A.in1 (callAny 07 args) _ _ s;simp only[callAny];apply ia<|wpAny_load Y ?_;let(c,oc,vs,p,hc,q,d,T):=hcd;simp only[J,callFunction,l,g,i,hc];rw[hc]at h;apply ia (m:=field (.ref c) 1)<|iu q d T (ia<|ib ?_);show ia (ip h (λbinds s₁ h₁=>ia (ip h₁ (λenv s₂ j=>ia (wpAny_enterFrame j.1 f
  (ib<|And.intro R j.2))) λ_ _ h'=>h')) λ_ _ h'=>h')
end
section
variable {P:ik}{w:World}{K:Frag}{mg:Y1}{base:Heap}{H:Hp}{own ps cap:List Str}{name qual:Str}{params:iL}{scope:Scope}{cl:Y4}{f c':Ad}{oc:Obj}{ct pm:Va}{cv:List V}{k:Nat}{sp:Sp}
theorem Caps.frz(g:Frz H H'):∀{cap:List Str} {cv:List V},Caps H cl cap cv->Caps H' cl cap cv
 |_,_,.nil=>.nil
 |_,_,.cons ⟨c,o,u,M,D,L⟩ t=>.cons ⟨c,o,u,M,g _ _ _ D,L⟩<|Caps.frz g t
end
theorem zbw:∀(ns:List<|Str×jh) (n:Nat) (cl:Y4),iz n ns cl=iz n ns []++cl
 |[],_,_=>rfl
 |(x,k)::r,n,cl=>by
  unfold iz;split
  .rw[zbw r (n+1) ((x,n)::cl),zbw r (n+1) [(x,n)]];simp
  .exact zbw r n cl
theorem zcp:∀(ns:List<|Str×jh) (n:Nat) {x:Str} {c:Ad},(x,c)∈iz n ns []->(x,NameKind.cell)∈ns
 |[],_,_,_,h=>nomatch h
 |(y,k)::r,n,x,c,h=>by
  unfold iz at h;split at h
  .rename_i O;rw[zbw]at h;rcases y16.mp h with z|z
   .exact y08 _<|zcp r (n+1) z
   .cases y0e.mp z;rw[beq_iff_eq.mp O];show y0c
  .exact y08 _<|zcp r n h
theorem zdv{d:Type}{x:Str}:∀{a b:List (Str×d)},(a++b).lookup x=(a.lookup x).or (b.lookup x)
 |[],_=>rfl
 |(y,v)::r,b=>by
  rw[y1r,y0w,y0w];cases x==y with
  |true=>rfl
  |false=>show zdv
section
variable {M:Model}{A:io}{E:Y0}{s₀ s:ig}{m cm:Y1}{env:Env}{ow:Y4}
theorem putL(x:j0 s₀ env.locals m ow cm s)(O:env.scope.kind=.function)(C:env.kindOf n=G .local)
  (q:∀t,j0 s₀ env.locals (λy=>if y=n then G v else m y) ow cm t->Q () t):wpAny M A (jB env n v) Q E s:=by
 let(i,t0,g):=x.toInCall.same;apply wpAny_storeName_local C x.toInCall.ns (λg1 gn a=>q _ {toInCall:=⟨⟨g1,t0+1,by rw[g]⟩,gn,λb o e=>?_,x.toInCall.fresh⟩,cell:=λk c hc=>?_,apart:=x.apart,above:=x.above}) (by rw[O];rfl)
 .let lt:=y0g e;let fr:=x.toInCall.fresh;show a.extBut b o (y0m<|y0r lt fr)<|x.toInCall.keep b o e
 .let ab:=x.above k c<|mem_of_lookup' hc;show(x.cell k c hc).sameBut a<|y2d ab
theorem putC(x:j0 s₀ env.locals m ow cm s)(O:env.scope.kind=.function)(C:env.kindOf n=G .cell)(Y:ow.lookup n=G c)(hc:env.cells.lookup n=G c)
  (q:∀t,j0 s₀ env.locals m ow (λy=>if y=n then G v else cm y) t->Q () t):wpAny M A (jB env n v) Q E s:=by
 let ab:=x.above n c<|mem_of_lookup' Y;let(i,t0,g):=x.toInCall.same;apply wpAny_storeName_cell O C hc (x.cell n c Y) λg1 j a=>q _ {toInCall:=⟨⟨g1,t0,by rw[g]⟩,x.toInCall.ns.sameBut a<|y0m ab,λb o e=>?_,x.toInCall.fresh⟩,cell:=λk d hd=>?_,apart:=x.apart,above:=x.above}
 .let lt:=y0g e;let fr:=x.toInCall.fresh;show a.extBut b o (y0m<|y22 (y0r lt fr) ab)<|x.toInCall.keep b o e
 .by_cases f:k=n
  .rw[f,Y]at hd;cases hd;rw[Xq f];show j
  .rw[Xp f];apply(x.cell k d hd).sameBut a λe=>f ?_;rw[e]at hd;show name_of_addr x.apart (mem_of_lookup' hd)<|mem_of_lookup' Y
theorem bindM(f:Str×Va->PUnit->Sem (ForInStep PUnit))(j:∀n v u,f (n,v) u=(do jB env n v;pure (.yield ⟨⟩)))(O:env.scope.kind=.function)(a:∀n c,ow.lookup n=G c->env.cells.lookup n=G c):
  ∀(bs:List<|Str×Va) (m cm:Y1) (s:ig) (Q:PUnit->ig->Prop),j0 s₀ env.locals m ow cm s->(∀y∈bs,env.kindOf y.1=G .local\/(env.kindOf y.1=G .cell/\∃c,ow.lookup y.1=G c))->
   (∀t,j0 s₀ env.locals (bindL env.kindOf bs m) ow (bindC env.kindOf bs cm) t->Q ⟨⟩ t)->wpAny M A (forIn bs ⟨⟩ f) Q E s
 |[],m,cm,s,Q,x,_,q=>by rw[y2s];show ib<|q s x
 |(n,v)::r,m,cm,s,Q,x,U,q=>by
  rw[y27,j];let T:=λy L=>U y<|y08 _ L;rcases U (n,v) y0c with z|⟨z,c,hc⟩
  .refine ia<|ia (putL x O z λt e=>ib<|bindM f j O a r _ _ t Q e T λC J=>q C ?_);rw[bindL,bindC,Xq z,Xq z];show J
  .let d:¬env.kindOf n=G .local:=by rw[z];decide
   apply ia<|ia (putC x O z hc (a n c hc) λt e=>ib<|bindM f j O a r _ _ t Q e T λC J=>q C ?_);rw[bindL,bindC,Xp d,Xp d];show J
theorem newEnvM{cl:Y4}{code:Va}(O:scope.kind=.function)
  (U:∀y∈bs,scope.names.lookup y.1=G .local\/scope.names.lookup y.1=G .cell)
  (q:∀t,j0 s s.heap.objs.size (bindL (λx=>scope.names.lookup x) bs λ_=>B) 069 (bindC (λx=>scope.names.lookup x) bs λ_=>B) t->
   Q (newEnv scope s.heap.objs.size globals 087 qual func code B builtins) t):wpAny M A (jG scope globals cl bs qual func code B builtins) Q E s:=by
 simp only[jG,Option.isSome_none,y1u,if_false];apply ia<|wpAny_alloc (ia<|wpAny_layCells _ (λname kind cells=>by cases a:kind==NameKind.cell<;>simp[a]) _ _ _ _ ?_);let d:=cellsFrom_ok scope.names (s.heap.push {cls:=.type "frame",data:=.dict #[]}) 051 [] ⟨λ_ _ z=>(nomatch z),.nil⟩ (by rw[y1g];show y06 _);rw[y1g]at d;rw[show({s with heap:=s.heap.push {cls:=.type "frame",data:=.dict #[]} }:ig).heap.objs.size=s.heap.objs.size+1 from y1g ..,zbw];apply ia<|bindM (s₀:=s) (ow:=iz 051 scope.names []) (env:=newEnv scope s.heap.objs.size globals 087 qual func code B builtins) _ (λ_ _ _=>rfl) O (λn c e=>?_) bs (λ_=>B) (λ_=>B) _ _ ?_ (λy L=>?_) λt x=>ib<|q t x
 .change(087).lookup n=G c;rw[zdv,e];rfl
 .refine {toInCall:=⟨⟨_,_,R⟩,(Heap.Ns.new s.heap<|.type "frame").keeps<|pushCells_keeps _ _,λb o e=>pushCells_keeps _ _ b o<|y03 _ e,y06 _⟩,cell:=λn c e=>(d.empty n c<|mem_of_lookup' e).1,apart:=d.apart,above:=λn c e=>?_};let:=(d.empty n c e).2;show this
 .rcases U y L with z|z
  .exact .inl z
  .exact .inr ⟨z,zdz z⟩
end
def envM(qual:Str)(scope:Scope)(cl:Y4)(L f:Ad)(cd:Va):Env :=
 {scope:=scope,locals:=L,globals:=ir,cells:=iz (L+1) scope.names []++cl,qual:=qual++".<locals>.",func:=G f,code:=cd,frame:=G L,builtins:=jd}
noncomputable def cxM(P:ik)(w:World)(K:Frag)(mg:Y1)(base:Heap)(Nq:List Str)(qual:Str)(scope:Scope)(cl:Y4)(f:Ad)(cd:Va)(A:io)(outer:List Env)(s:ig)(H:Hp):Cx where
 prog:=P
 w:=w
 K:=K
 mg:=mg
 base:=base
 A:=A.deeper<|envM qual scope cl s.heap.objs.size f cd
 Nq:=Nq
 s₀:=s
 H₀:=dropL cl H
 env:=envM qual scope cl s.heap.objs.size f cd
 outer:=outer
 stack:=envM qual scope cl s.heap.objs.size f cd::outer
 ex:=[]
 calm:=N
 fn:=λx=>scope.names.lookup x==G .cell
 pn:=[]
 xe:=λ_ _=>False
structure CloScopeM(own ps cap:List Str)(sc:Scope):Prop where
 kind:sc.kind=.function
 co:sc.isCoroutine=Fa
 gen:sc.isGenerator=Fa
 pre:own.take ps.length=ps
 nd:ps.Nodup
 par:∀x∈ps,sc.names.lookup x=G .local\/sc.names.lookup x=G .cell
 cap:∀x∈cap,sc.names.lookup x=G .free
 one:∀y∈sc.names,y.2=.cell->sc.names.lookup y.1=G .cell
section
variable {P:ik}{w:World}{K:Frag}{mg:Y1}{base:Heap}{A:io}{outer:List Env}{s s1:ig}{H:Hp}{own ps cap:List Str}{qual:Str}{scope:Scope}{cl:Y4}{f:Ad}{cd:Va}{vs cv:List V}{us:List Va}
theorem zjc(S:CloScopeM own ps cap scope)(hd:A.handled=B)(e0:Env0 P w K mg base A outer s H)(C:vs.length=ps.length)(hlo:ps.length<=own.length)(r:Vals vs us)
  (aa:∀x c,cl.lookup x=G c->∃o v,H c=G 013/\o.data=.cell v) (af:∀p∈scope.names,p.2=.free->∃c,cl.lookup p.1=G c) (inj:∀x y c,cl.lookup x=G c->cl.lookup y=G c->x=y) (E:Caps H cl cap cv)
  (xc:j0 s s.heap.objs.size (bindL (λx=>scope.names.lookup x) 021 λ_=>B) 069 (bindC (λx=>scope.names.lookup x) 021 λ_=>B) s1) :
  Inv (cxM P w K mg base (own++cap) qual scope cl f cd A outer s H) [] 077 062 s1:=by
 classical
 let(Y,tk,rfl,O):=xc.done;let d1:∀b,¬InCl cl b->dropL cl H b=H b:=λb n=>Xp n;let dn:∀b,H b=B->dropL cl H b=B:=λb e=>by
  by_cases hc:InCl cl b
  .exact Xq hc
  .rw[d1 b hc];show e
 let noA:∀b:Ad,b∉(cxM P w K mg base (own++cap) qual scope cl f cd A outer s H).ex:=λb z=>Xa (show b∈([]:List Ad)from z) 05;let at':∀x c,cl.lookup x=G c->∃o v,s.heap.get? c=G o/\o.data=.cell v:=λx c e=>by
  let(o,v,z,zd):=aa x c e;show⟨o,v,(e0.hok c _ z).1,zd⟩
 let kf:HOk P w 062 s.heap:=λb u e=>by
  let hc:¬InCl cl b:=λhc=>by
   let:dropL cl H b=B:=Xq hc;rw[this]at e;cases e
  rw[d1 b hc]at e;show(e0.hok b u e).stay (λ_ _ _ z=>z) (λc z=>by rw[d1 c<|zb5 aa z λ_ _ y=>nomatch y];show z) (λc o a q co z=>by rw[d1 c<|zuf aa co z];show z) λc xs z=>by rw[d1 c<|zb5 aa z λ_ _ y=>nomatch y];show z
 let two:∀x c,(087).lookup x=G c->((069).lookup x=G c/\s.heap.objs.size<c)\/((069).lookup x=B/\cl.lookup x=G c/\c<s.heap.objs.size):=λx c e=>by
  rw[zdv]at e;cases z:(iz (s.heap.objs.size+1) scope.names []).lookup x with
  |some y =>
   rw[z]at e;cases e;show .inl ⟨R,xc.above x c<|mem_of_lookup' z⟩
  |none =>
   rw[z]at e;let l:cl.lookup x=G c:=e;let(o,v,ho,_):=at' x c l;show .inr ⟨R,l,y0g ho⟩
 let ka:∀x,scope.names.lookup x=G .free->(069).lookup x=B:=λx J=>by
  cases z:(iz (s.heap.objs.size+1) scope.names []).lookup x with
  |none=>rfl
  |some y =>
   let:=S.one (x,.cell) (zcp _ _<|mem_of_lookup' z) rfl;rw[J]at this;cases this
 apply⟨⟨e0.mod,S.kind,R,R,y06 _,λx y c J L=>?_,λx J=>?_,λx c J hc=>?_,λ_=>hd,Around.frames_deeper e0.frames,.inr ⟨R,R⟩,λb z=>Xa z<|noA b,λb o e=>⟨(042).1,dn b (042).2⟩,e0.bsz,λb _ _=>noA b,λb z=>Xa z<|noA b,e0.funs,λb U=>dn b<|e0.frf b U⟩,
  rfl,e0.bare,Un.kept O,⟨_,xc.toInCall.ns,λi x v M D e3=>?_⟩,λx c e=>?_,kf.fresh 43,λx c e=>?_,λp hp=>Xa (show p∈([]:Y2)from hp) 05,kf.kept O,?_⟩
 .rcases two x c J with⟨I,T⟩|⟨_,I,T⟩<;>rcases two y c L with⟨j,z4⟩|⟨_,j,z4⟩
  .exact name_of_addr xc.apart (mem_of_lookup' I)<|mem_of_lookup' j
  .exact Xa (y22 T z4)<|y1p _
  .exact Xa (y22 z4 T)<|y1p _
  .exact inj x y c I j
 .let J:scope.names.lookup x=G .cell\/scope.names.lookup x=G .free:=J;change∃c,(087).lookup x=G c;rw[zdv];rcases J with z|z
  .let(c,e):=zdz (n:=s.heap.objs.size+1) z;show⟨c,by rw[e];rfl⟩
  .let(c,e):=af (x,.free) (mem_of_lookup' z) rfl;show⟨c,by rw[ka x z];show e⟩
 .let hx':scope.names.lookup x=G .cell:=beq_iff_eq.mp J;let(c',e):=zdz (n:=s.heap.objs.size+1) hx';rcases two x c hc with⟨I,T⟩|⟨I,_⟩
  .exact y1i T
  .rw[e]at I;cases I
 .let Q:(own++cap)[i]?=G x:=M;let d:(vs.map G++List.replicate (own.length-vs.length) B++cv.map G)[i]?=G 018:=D;let lo:(vs.map G++List.replicate (own.length-vs.length) (B:Option V)).length=own.length:=by rw[y0j,y01,y1t];omega
  by_cases hi:i<own.length
  .rw[y11 01]at d;by_cases hv:i<vs.length
   .rw[y11 (by simpa using hv),y04]at d;rw[y11 hi]at Q;let g:vs[i]?=G v:=by
     cases q:vs[i]? with
     |none=>rw[q]at d;cases d
     |some z=>rw[q]at d;show congrArg G<|Option.some.inj (Option.some.inj d)
    let(u,hu,ru):=r.get g;let hp:ps[i]?=G x:=by rw[←S.pre,y3v 01];show Q
    apply⟨u,ru,?_⟩;rcases S.par x (y0q hp)with k|k
    .exact .inl ⟨k,zg2 S.nd hp hu k⟩
    .let(c,e):=zdz (n:=s.heap.objs.size+1) k;let qc:=xc.cell x c e;rw[zg3 S.nd hp hu<|by change scope.names.lookup x≠_;rw[k];decide]at qc;apply .inr ⟨.inl k,c,?_,qc⟩;change(087).lookup x=G c;rw[zdv,e];rfl
   .rw[y13 (by simpa using y20 hv),y36]at d;split at d<;>cases d
  .rw[y13 01,lo,y04]at d;rw[y13 01]at Q;let g:cv[i-own.length]?=G v:=by
    cases q:cv[i-own.length]? with
    |none=>rw[q]at d;cases d
    |some z=>rw[q]at d;show congrArg G<|Option.some.inj (Option.some.inj d)
   let(c,o,u,hc,hz,aq,ru):=zu1 E Q g;let hf':=S.cap x<|y0q Q;apply⟨u,ru,.inr ⟨.inr hf',c,?_,o,O c o (e0.hok c _ hz).1,aq⟩⟩;change(087).lookup x=G c;rw[zdv,ka x hf'];show hc
 .rcases two x c e with⟨I,T⟩|⟨_,I,T⟩
  .exact⟨_,xc.cell x c I⟩
  .let(o,v,ho,aq):=at' x c I;show⟨v,o,O c o ho,aq⟩
 .rcases two x c e with⟨I,T⟩|⟨_,I,T⟩
  .exact kf.fresh<|y1i T
  .exact Xq ⟨x,I⟩
 .let:=zhw E;change(vs.map G++List.replicate (own.length-vs.length) B++cv.map G).length=(own++cap).length;rw[y0j,y0j,y01,y1t,y01,y0j];omega
theorem ze3{Nq:List Str}{pins:Y2}{O:St}{H2:Hp}{s':ig}{v:V}{u:Va}{Q:VK}(M:Env0 P w K mg base A outer s H)(D:∀x c,cl.lookup x=G c->∃o v,H c=G 013/\o.data=.cell v)
  (J:Inv (cxM P w K mg base Nq qual scope cl f cd A outer s H) pins O H2 s') (d:RelV v u) (q:036->Q v (mixL cl H H2)):CE outer P w H s Q u s':=by
 classical
 let g:∀b,¬InCl cl b->dropL cl H b=H b:=λb n=>Xp n;let I:∀b,¬InCl cl b->mixL cl H H2 b=H2 b:=λb n=>Xp n;let p:∀b,H b=B->¬InCl cl b:=λb e ⟨x,z⟩=>by
  let(o,v,T,_):=D x b z;rw[T]at e;cases e
 let un:Un (frs outer) [] 062 H2 s.heap s'.heap:=J.base;let i:∀x c,cl.lookup x=G c->∃o,H c=G 013/\s'.heap.get? c=G o/\H2 c=B:=λx c e=>by
  let(o,v,z,_):=D x c e;let Y:=(M.hok c _ z).1;let C:dropL cl H c=B:=Xq ⟨x,e⟩;let E:c∉frs outer:=λU=>by rw[M.frf c U]at z;cases z
  show⟨o,z,un.keep c o Y C E 05,un.free c o Y C 05⟩
 let nm:∀b u,H2 b=G u->¬InCl cl b:=λb u e ⟨x,z⟩=>by
  let(_,_,_,T):=i x b z;rw[T]at e;cases e
 apply⟨v,mixL cl H H2,J.os,J.bare,⟨λb o e n j r=>un.keep b o e (by rw[g b<|p b n];show n) j r,λb o e n j r=>un.slot b o e (by rw[g b<|p b n];show n) j r,λb o e n r=>by rw[I b<|p b n];show un.free b o e (by rw[g b<|p b n];show n) r,un.there,λb xs e=>?_,λb o a e=>?_,λb qs ps e=>?_⟩,λb u e=>?_,d,q λb ⟨x,z⟩=>let⟨_,_,_,T⟩:=i x b z;T⟩
 .let hc:=zb5 D e λ_ _ y=>nomatch y;rw[I b hc];show un.tups b xs (by rw[g b hc];show e)
 .by_cases hc:InCl cl b
  .change(if InCl cl b then H b else H2 b)=_;rw[Xq hc];show e
  .rw[I b hc];show un.frzs b o a (by rw[g b hc];show e)
 .let hc:=zb5 D e λ_ _ y=>nomatch y;rw[I b hc];show un.tbls b qs ps (by rw[g b hc];show e)
 .by_cases hc:InCl cl b
  .let l:H b=G u:=by rw[←e];show(Xq hc).symm
   let(x,z):=hc;let(o,L,T,_):=i x b z;rw[L]at l;cases l;show⟨T,o,T⟩
  .rw[I b hc]at e;show(J.hok b u e).stay (λ_ _ _ z=>z) (λc z=>by rw[I c<|nm c _ z];show z) (λc _ _ _ _ z=>by rw[I c<|nm c _ z];show z) λc xs z=>by rw[I c<|nm c _ z];show z
end
section
variable {P:ik}{w:World}{K:Frag}{mg:Y1}{base:Heap}{H:Hp}{own ps cap:List Str}{name qual:Str}{params:iL}{scope:Scope}{cl:Y4}{f c':Ad}{oc:Obj}{ct pm:Va}{cv:List V}{k:Nat}{sp:Sp}
theorem zuv(S:CloScopeM own ps cap scope)(O:ps.length<=own.length)(j:H f=G (fnO 124 f))(M:H c'=G (.frz oc<|.own c'))(co:CodeObj oc qual)
  (U:∀x c,cl.lookup x=G c->∃o v,H c=G 013/\o.data=.cell v) (af:∀p∈scope.names,p.2=.free->∃c,cl.lookup p.1=G c) (inj:∀x y c,cl.lookup x=G c->cl.lookup y=G c->x=y) (E:Caps H cl cap cv)
  (a:∀us:List Va,us.length=ps.length->jf 124 024=pure 021)
  (i:∀(A:io) (outer:List Env) (s:ig) (H':Hp) (vs:List V) (Q:VK),Room k (A.deeper<|envM qual scope cl s.heap.objs.size f (.ref c'))->Frz H H'->vs.length=ps.length->sp vs H' Q E0->
   ∃t,PE (cxM P w K mg base (own++cap) qual scope cl f (.ref c') A outer s H') body t/\t 077 059 (λv H2=>036->Q v 047)):CloH P w K mg base (k+1) H f ps.length sp:=by
 intro A outer s H' us vs Q L e0 D r C l;let ck:s.heap.NoLimit:=e0.mod.nolimit.keeps λb o e=>(042).1;let Y:=(e0.hok f _<|D _ _ _ j).1;let d0:=(e0.hok c' _<|D _ _ _ M).1;let(ws,t',ki,kh):=co;let kg:us.length=ps.length:=by rw[←r.length];show C
 let g:∀x c,cl.lookup x=G c->∃o v,H' c=G 013/\o.data=.cell v:=λx c e=>let⟨o,v,z,d⟩:=U x c e;⟨o,v,D _ _ _ z,d⟩;apply ze2 L.depth Y R S.co S.gen R ⟨c',oc,ws,t',R,d0,ki,kh⟩ ?_;rw[a us kg];apply ib<|newEnvM S.kind (λy hy=>S.par y.1 (y1y<|show(y.1,y.2)∈ps.zip us from hy).1) λs1 x=>?_;apply⟨ck.keeps x.toInCall.keep,zjk ?_⟩;let(t,ht,T):=i A outer s H' vs Q (L.deeper _) D C l;let I:=zjc (qual:=qual) (f:=f) (cd:=.ref c') S L.hd e0 C O r g af inj (E.frz D) x;show ip (ht [] _ _ _ _ I T) (λu s' ⟨v,H2,J,rv,q⟩=>ze3 e0 g J rv q) λ_ _ z=>z.elim
theorem zqw(S:CloScopeM own ps cap scope)(hlo:ps.length<=own.length)(j:H f=G (fnO 095 f))(M:H c'=G (.frz oc<|.own c'))(co:CodeObj oc qual)
  (U:∀x c,cl.lookup x=G c->∃o v,H c=G 013/\o.data=.cell v) (af:∀p∈scope.names,p.2=.free->∃c,cl.lookup p.1=G c) (inj:∀x y c,cl.lookup x=G c->cl.lookup y=G c->x=y) (E:Caps H cl cap cv)
  (a:∀us:List Va,us.length=ps.length->jf 095 024=pure 021)
  (i:∀(A:io) (outer:List Env) (s:ig) (H':Hp) (vs:List V) (Q:VK),Room k (A.deeper<|envM qual scope cl s.heap.objs.size f (.ref c'))->Frz H H'->vs.length=ps.length->sp vs H' Q E0->
   ∃t,PSs (cxM P w K mg base (own++cap) qual scope cl f (.ref c') A outer s H') body t/\t {nx:=λ_ H2=>036->Q .non 047,rt:=λv H2=>036->Q v 047} 077 059):CloH P w K mg base (k+1) H f ps.length sp:=by
 intro A outer s H' us vs Q L e0 D r C l;let ck:s.heap.NoLimit:=e0.mod.nolimit.keeps λb o e=>(042).1;let Y:=(e0.hok f _<|D _ _ _ j).1;let d0:=(e0.hok c' _<|D _ _ _ M).1;let(ws,t',ki,kh):=co;let kg:us.length=ps.length:=by rw[←r.length];show C
 let g:∀x c,cl.lookup x=G c->∃o v,H' c=G 013/\o.data=.cell v:=λx c e=>let⟨o,v,z,d⟩:=U x c e;⟨o,v,D _ _ _ z,d⟩;apply iS L.depth Y R S.co S.gen R ⟨c',oc,ws,t',R,d0,ki,kh⟩ ?_;rw[a us kg];apply ib<|newEnvM S.kind (λy hy=>S.par y.1 (y1y<|show(y.1,y.2)∈ps.zip us from hy).1) λs1 x=>?_;apply⟨ck.keeps x.toInCall.keep,j9 ?_⟩;let(t,ht,T):=i A outer s H' vs Q (L.deeper _) D C l;let I:=zjc (qual:=qual) (f:=f) (cd:=.ref c') S L.hd e0 C hlo r g af inj (E.frz D) x;apply ip (ht [] _ _ _ _ I T) (λfl s' hs=>?_) λ_ _ z=>z.elim;cases fl with
 |ret u =>
  let(v,O,H2,J,rv,q):=hs;show ze3 e0 g J rv q
 |next =>
  let(O,H2,J,q):=hs;show ze3 (v:=V.non) (u:=Va.none) e0 g J R q
 |brk =>
  let(_,_,_,q):=hs;show False.elim q
 |cont =>
  let(_,_,_,q):=hs;show False.elim q
end
theorem zfs:∀{ns:List (Str×jh)} (n:Nat),(∀y∈ns,y.2 ≠ .cell)->iz n ns []=[]
 |[],_,_=>rfl
 |(x,k)::r,n,h=>by
  unfold iz;rw[Xp λz=>h (x,k) y0c<|beq_iff_eq.mp z];show zfs n λy L=>h y<|y08 _ L
section
variable {P:ik}{w:World}{K:Frag}{mg:Y1}{base:Heap}{A:io}{outer:List Env}{s:ig}{H:Hp}{Nq own ps cap:List Str}{name qual:Str}{params:iL}{scope:Scope}{cl:Y4}{f c' L:Ad}{cd ct pm:Va}{cv:List V}{k:Nat}{sp:Sp}{oc:Obj}
theorem CloScope.m(S:CloScope own ps cap scope):CloScopeM own ps cap scope:=⟨S.kind,S.co,S.gen,S.pre,S.nd,λx h=>.inl<|S.par x h,S.cap,λy p e=>Xa e<|S.nocell y p⟩
theorem zo7(n:∀y∈scope.names,y.2 ≠ .cell):envM qual scope cl L f cd=envL qual scope cl L f cd:=by unfold envM envL;rw[zfs _ n];rfl
theorem zuo(n:∀y∈scope.names,y.2 ≠ .cell):cxM P w K mg base Nq qual scope cl f cd A outer s H=cxL P w K mg base Nq qual scope cl f cd A outer s H:=by
 let e:(λx=>scope.names.lookup x==G .cell)=λ_=>Fa:=funext λx=>by
  cases z:scope.names.lookup x==G NameKind.cell with
  |false=>rfl
  |true=>show Xa R<|n _ (mem_of_lookup'<|beq_iff_eq.mp z)
 unfold cxM cxL;rw[zo7 n,e]
theorem newEnvL(S:CloScope own ps cap scope)(U:∀y∈bs,scope.names.lookup y.1=G .local)
  (q:∀t,j0 s s.heap.objs.size (bindL (λx=>scope.names.lookup x) bs λ_=>B) 069 (bindC (λx=>scope.names.lookup x) bs λ_=>B) t->Q 169 t):wpAny M A (jG scope ir cl bs (qual++".<locals>.") (G f) cd B jd) Q E s :=
 newEnvM S.kind (λy p=>.inl<|U y p) λt x=>by have z:=q t x;rw[←zo7 S.nocell]at z;show z
theorem zx9(S:CloScope own ps cap scope)(O:ps.length<=own.length)(j:H f=G (fnO 124 f))(M:H c'=G (.frz oc<|.own c'))(co:CodeObj oc qual)
  (U:∀x c,cl.lookup x=G c->∃o v,H c=G 013/\o.data=.cell v) (u:∀p∈scope.names,p.2=.free->∃c,cl.lookup p.1=G c) (inj:∀x y c,cl.lookup x=G c->cl.lookup y=G c->x=y) (E:Caps H cl cap cv)
  (a:∀us:List Va,us.length=ps.length->jf 124 024=pure 021)
  (i:∀(A:io) (outer:List Env) (s:ig) (H':Hp) (vs:List V) (Q:VK),Room k 096->Frz H H'->vs.length=ps.length->sp vs H' Q E0->
   ∃t,PE (cxL P w K mg base (own++cap) qual scope cl f (.ref c') A outer s H') body t/\t 077 059 (λv H2=>036->Q v 047)):CloH P w K mg base (k+1) H f ps.length sp :=
 zuv S.m O j M co U u inj E a λA outer s H' vs Q J=>by rw[zuo S.nocell];rw[zo7 S.nocell]at J;show i A outer s H' vs Q J
theorem zuu(S:CloScope own ps cap scope)(O:ps.length<=own.length)(j:H f=G (fnO 095 f))(M:H c'=G (.frz oc<|.own c'))(co:CodeObj oc qual)
  (U:∀x c,cl.lookup x=G c->∃o v,H c=G 013/\o.data=.cell v) (u:∀p∈scope.names,p.2=.free->∃c,cl.lookup p.1=G c) (inj:∀x y c,cl.lookup x=G c->cl.lookup y=G c->x=y) (E:Caps H cl cap cv)
  (a:∀us:List Va,us.length=ps.length->jf 095 024=pure 021)
  (i:∀(A:io) (outer:List Env) (s:ig) (H':Hp) (vs:List V) (Q:VK),Room k 096->Frz H H'->vs.length=ps.length->sp vs H' Q E0->
   ∃t,PSs (cxL P w K mg base (own++cap) qual scope cl f (.ref c') A outer s H') body t/\t {nx:=λ_ H2=>036->Q .non 047,rt:=λv H2=>036->Q v 047} 077 059):CloH P w K mg base (k+1) H f ps.length sp :=
 zqw S.m O j M co U u inj E a λA outer s H' vs Q J=>by rw[zuo S.nocell];rw[zo7 S.nocell]at J;show i A outer s H' vs Q J
end
structure FunC(K:Frag)(x:Str)(st:Stmt)(f:Ad)(fd:i5)(c:Ad):Prop where
 ex:∃(oc:Va) (od:Option Ad) (kV doc pm:Va) (an:Option Ad) (ct:Va) (osl:Y8),
  fd=PySem.W.fnOf x x (defArgs st) 040 95 .none kV doc pm an (.ref c) ct/\K.lookup f=G ⟨oc,od,.func fd,osl⟩/\PySem.W.codeIn K (.ref c) x=N
 kp:PySem.W.keepIn K 57=N
structure DfnC(K:Frag)(mg:Y1)(x:Str)(st:Stmt)(ps:List Str)(c P:Ad):Prop where
 ex:∃f fd,FunC K x st f fd c/\Binds K fd ps []/\mg x=G 57
 code:KCode K c P
theorem kcode_mk{K:Frag}(l:K.lookup c=G ⟨.type "code",T,.fields vs,f⟩)
  (o:vs[11]?=G (.ref P)) (s:vs[18]?=G (.str a y)) (w:vs[7]?=G (.int O r)) (q:vs[9]?=G (.bool j)) (u:vs[10]?=G (.int d p)) (ne:c≠P):KCode K c P:=by
 let g:∀{i:Nat} {v:Va},vs[i]?=G v->vs.getD i .none=v:=λ{i v} e=>by rw[Array.getD_eq_getD_getElem?,e];rfl
 show⟨_,vs,a,y,O,r,j,d,p,l,R,R,o,g o,g s,g w,g q,g u,ne⟩
theorem dfnc_mk{K:Frag}{h:Heap}{mg:Y1}{x:Str}{st:Stmt}{ps:List Str}{f c P:Ad}{oc:Va}{T an:Option Ad}{g:Y8}{kV doc pm ct:Va}(X:K.In h)(Gq:h.Ns ir mg)
  (a:PySem.W.nsIn K ir x=G (G 57)) (l:K.lookup f=G ⟨oc,T,.func<|PySem.W.fnOf x x (defArgs st) 040 95 .none kV doc pm an (.ref c) ct,g⟩)
  (cd:PySem.W.codeIn K (.ref c) x=N) (k:PySem.W.keepIn K 57=N) (C:KCode K c P)
  (U:∀(kV doc pm:Va) (an:Option Ad) (cdv ct:Va) (us:List Va),us.length=ps.length->jf 114 024=pure 021):DfnC K mg x st ps c P :=
 ⟨⟨f,_,⟨⟨oc,T,kV,doc,pm,an,ct,g,R,l,cd⟩,k⟩,(zo2 l cd k).binds U,PySem.W.mg_of X Gq a⟩,C⟩
section
variable {P:ik}{w:World}{K:Frag}{mg:Y1}{base:Heap}
theorem DfnC.cal{x:Str}{st:Stmt}{Nq ps:List Str}{k:Nat}{sp:Sp}{c Y:Ad}(d:DfnC K mg x st ps c Y)(S:FnScope Nq ps 95)(len:∀vs H Q E,sp vs H Q E->vs.length=ps.length)
  (i:∀(f:Ad) (A:io) (outer:List Env) (s:ig) (H:Hp) (vs:List V) (Q:VK) (E:XK),Room k (A.deeper 171)->sp vs H Q E->
   ∃t,PSs (102).nox 040 t/\t {nx:=λ_ H'=>Q .non H',rt:=Q} 023 H):03 (k+1) x ps sp:=by
 let(f,fd,F,b,m):=d.ex;let(oc,T,kV,doc,j,a,ct,g,rfl,lk,hcd):=F.ex;apply⟨f,_,fn_of lk hcd S len λA outer s H vs Q E L l=>?_,b,F.kp,m⟩;let(t,h,q):=i f A outer s H vs Q E L l;show⟨t,h.nox,q⟩
end
def TabFor(q:ik)(K:Frag)(mg:Y1)(b:Ad):Prop:=∃d∈recsOf q,∃f oc T fd g c,mg d.name=G 57/\K.lookup f=G ⟨oc,T,.func fd,g⟩/\fd.code=.ref c/\KCode K c b
theorem DfnC.tab{q:ik}{K:Frag}{mg:Y1}{x:Str}{st:Stmt}{ps:List Str}{c b:Ad}(d:DfnC K mg x st ps c b)(J:((recsOf q).any λr=>r.name==x)=N):TabFor q K mg b:=by
 let(r,L,e):=y2a.mp J;let(f,fd,F,_,m):=d.ex;let(oc,T,kV,doc,j,a,ct,g,rfl,lk,hcd):=F.ex;show⟨r,L,f,oc,T,_,g,c,by rw[beq_iff_eq.mp e];show m,lk,R,d.code⟩
def TabsOf(q:ik)(mg:Y1)(h:Heap):Prop:=∀d∈recsOf q,∃a o fd c P,mg d.name=G 07/\h.get? a=G o/\o.data=.func fd/\fd.code=.ref c/\h.IsCode c P #[]/\h.TableAt c P #[]
theorem TabFor.at{K:Frag}{h:Heap}(t:TabFor q K mg b)(X:K.In h)(T:TabsOf q mg h):∃c,h.TableAt c b #[]:=by
 let(d,hd,f,oc,x,fd,g,c,m,lk,r,C):=t;let(a,o,e,c',u,v,Y,j,hc,_,A):=T d hd;rw[m]at v;cases v;rw[X f _ lk]at Y;cases Y;cases j;rw[r]at hc;cases hc;let(o,vs,_,_,_,_,_,_,_,l,_,J,i,_):=C;let((Q,p,M,D,L,w),s):=id A;rw[X c o l]at M;cases M;rw[J]at L;cases L;rw[i]at w;cases w;show⟨c,A⟩
def OnlyT(ts:List<|Ad×List (Pos×Str))(H:Hp):Prop:=(∀b,H b=B\/(∃o xs,H b=G (.frz o 99))\/∃qs,ts.lookup b=G qs/\H b=G (.tbl qs #[]))/\∀b qs,ts.lookup b=G qs->H b=G (.tbl qs #[])
theorem OnlyT.tab(h:OnlyT ts H)(e:ts.lookup b=G qs):TabOk H b qs:=⟨#[],h.2 b qs e⟩
theorem ztl{K:Frag}{s₁:ig}{vs:List Va}{ns:List Int}{ts:List (Ad×List (Pos×Str))}
  (KX:K.In s₁.heap) (E:s₁.heap.Ns ir mg) (U:s₁.heap.Ns jd mb) (hbb:∀x:Str,x≠"__name__"->mb x=iY x) (hlim:s₁.heap.NoLimit) (y:s₁.gens=#[])
  (g:s₁.heap.get? a=G {cls:=.type "list",data:=.seq vs.toArray}) (hi:la vs ns) (C:ns.length<=ii) (L:Room k jU)
  (hbm:BltK s₁.heap mg) (hts:∀b qs,ts.lookup b=G qs->∃c,s₁.heap.TableAt c b #[]) (hKt:∀b qs,ts.lookup b=G qs->K.lookup b=B)
  (F:∀base:Heap,K.In base->base.Ns ir mg->BltK base mg->FnOk P w K mg base CX k fa fd [x] sp) (aj:∀(s:ig) (u:Va),jS s fd ⟨[u],[]⟩ [(x,u)])
  (hsp:∀H:Hp,OnlyT ts H->SqL K H a 057->sp [.ref a] H (λv _=>v=.bl N) λ_ _ _=>False)
  (hCX:∀H e s',CX [] H s₁ (λ_ _ _=>False) e s'->False) :
  iZ 014 jU (.call (.ref fa) ⟨[.ref a],[]⟩) (λr s'=>r=.ok (.ret<|.bool N)/\OldK s₁.heap s'.heap/\s'.os=s₁.os/\j8 s'.gens) s₁:=by
 let rv:=zj2 hi;let lenV:=hi.length;let ma:∀H:Hp,OnlyT ts H->SqL K H a 057->HOk P w H s₁.heap->(∀b,H b≠B->b=a\/∃qs,ts.lookup b=G qs)->(H a≠B->K.lookup a=B)->
   iZ 014 jU (.call (.ref fa) ⟨[.ref a],[]⟩) (λr s'=>r=.ok (.ret<|.bool N)/\OldK s₁.heap s'.heap/\s'.os=s₁.os/\j8 s'.gens) s₁:=by
  intro H hO hS hok hA Q;let f:∀{b:Ad} {o:Obj},s₁.heap.get? b=G o->H b=B->(hidT s₁.heap H).get? b=G o:=λe n=>zxr e n;let noT:∀{b:Ad} {o:Obj},s₁.heap.get? b=G o->(∀q n,o.data ≠ .seq q n)->(∀ps,o.data ≠ .fields ps\/o.cls ≠ .none)->H b=B:=λ{b o} e n1 n2=>by
   cases q:H b with
   |none=>rfl
   |some u =>
    rcases hA b (by rw[q];simp)with e'|⟨qs,e'⟩
    .subst e';rw[g]at e;cases e;show Xa R<|n1 _ _
    .let(c,_,e5):=hts b qs e';rw[e5]at e;cases e;rcases n2 #[]with z|z
     .exact Xa R z
     .exact Xa R z
  let I:∀{b:Ad} {o:Obj} {i:Array DictEntry} {ep:Nat},s₁.heap.get? b=G o->o.data=.dict i ep->H b=B:=λ{b o i ep} e d=>noT e (λq n z=>by rw[d]at z;cases z) λps=>.inl λz=>by rw[d]at z;cases z
  let nsK:∀{b:Ad} {m:Y1},s₁.heap.Ns b m->(hidT s₁.heap H).Ns b m:=λ{b m} ⟨o,i,ep,e,d,r⟩=>⟨o,i,ep,f e<|I e d,d,r⟩;let hKb:K.In (hidT s₁.heap H):=λb o e=>f (KX b o e) (by
   cases q:H b with
   |none=>rfl
   |some u =>
    rcases hA b (by rw[q];simp)with e'|⟨qs,e'⟩
    .subst e';rw[Q<|by rw[q];simp]at e;cases e
    .rw[hKt b qs e']at e;cases e)
  let hBb:BltK (hidT s₁.heap H) mg:=by
   let(bm,o,b1,b2,b3,b4,b5,b6):=hbm;show⟨bm,o,b1,b2,f b3 (noT b3 (λq n z=>by rw[b6]at z;cases z) λps=>.inl λz=>by rw[b6]at z;cases z),b4,b5,b6⟩
  let hM:Mod K mg (hidT s₁.heap H):=⟨hKb,nsK E,⟨mb,nsK U,hbb⟩,let⟨mc,Y,h2⟩:=hlim;⟨mc,nsK Y,h2⟩⟩;let j:Env0 P w K mg (hidT s₁.heap H) jU [] s₁ H:=⟨R,hM,λb o e=>of_hidT e,y40<|zts _ _,trivial,λb U=>Xa (show b∈([]:List Ad)from U) 05,hok,.of_eq y⟩;apply iA ((F _ hKb (nsK E) hBb).run jU [] s₁ H ⟨[.ref a],[]⟩ [.ref a] [.ref a] _ _ L j (aj s₁ 07) (.cons R .nil)<|hsp H hO hS) λr s' h=>?_;cases r with
  |error e=>show(hCX H e s' h).elim
  |ok J =>
   cases J with
   |next=>show False.elim h
   |brk=>show False.elim h
   |cont=>show False.elim h
   |ret u =>
    let(v,H',os,bare,un,lz,r',q):=h;let q':v=.bl N:=q;subst q';obtain rfl:u=Va.bool N:=r';let was:∀b o,s₁.heap.get? b=G o->asItWas s₁.heap s'.heap b o:=λb o e=>by
     rcases hO.1 b with z|⟨ob,xs,z⟩|⟨qs,l,z⟩
     .exact .inl<|un.keep b o e z (by intro z;show Xa (show b∈([]:List Ad)from z) 05) 05
     .let T:=un.frzs b ob _ z;let(M,_):=hok b _ z;let(D,_):=lz b _ T;rw[e]at M;cases M;show .inl D
     .let T:=un.tbls b qs _ z;let(more,D,_):=lz b _ T;let(c,A):=hts b qs l;let e5:=A.2;rw[e5]at e;cases e;show .inr<|.inl ⟨A.isCodeTable,R,#[],more,R,D⟩
    show⟨R,⟨was,λb o e=>un.there b o e 05⟩,os,bare⟩
 let neA:∀qs,ts.lookup a=G qs->False:=λqs e=>by
  let(c,_,e5):=hts a qs e;rw[e5]at g;cases g
 let kj:∀(H:Hp) b qs,ts.lookup b=G qs->ObjOk P w H s₁.heap b (.tbl qs #[]):=λH b qs e=>by
  let(c,_,e5):=hts b qs e;show⟨#[],by simpa using e5,trivial,λp hp v z=>by simp[jt]at z⟩
 letI HT:Hp:=λb=>(ts.lookup b).map λqs=>.tbl qs #[];let gb:∀b qs,ts.lookup b=G qs->HT b=G (.tbl qs #[]):=λb qs e=>by change(ts.lookup b).map _=_;rw[e];rfl
 let f7:∀b,ts.lookup b=B->HT b=B:=λb e=>by change(ts.lookup b).map _=_;rw[e];rfl
 cases O:K.lookup a with
 |some o =>
  let e:=KX a o O;rw[g]at e;cases e;apply ma HT ⟨λb=>?_,gb⟩ (.inr ⟨_,vs.toArray,_,O,R,R,R,by rw[y07,lenV];show C,by simpa using rv⟩) (λb u z=>?_) (λb z=>?_) λz=>?_
  .cases e:ts.lookup b with
   |none=>show .inl<|f7 b e
   |some qs=>show .inr<|.inr ⟨qs,R,gb b qs e⟩
  .cases e:ts.lookup b with
   |none=>rw[f7 b e]at z;cases z
   |some qs=>rw[gb b qs e]at z;cases z;show kj _ b qs e
  .cases e:ts.lookup b with
   |none=>show Xa (f7 b e) z
   |some qs=>show .inr ⟨qs,R⟩
  .cases e:ts.lookup a with
   |none=>show Xa (f7 a e) z
   |some qs=>show(neA qs e).elim
 |none =>
  letI H1:Hp:=λb=>if b=a then G (.frz {cls:=.type "list",data:=.seq vs.toArray} (.lst 057))else HT b
  let h1a:H1 a=G (.frz {cls:=.type "list",data:=.seq vs.toArray} (.lst 057)):=Xq rfl;let h1b:∀b,b≠a->H1 b=HT b:=λb e=>Xp e;apply ma H1 ⟨λb=>?_,λb qs e=>?_⟩ (.inl<|.inr ⟨{cls:=.type "list",data:=.seq vs.toArray},h1a⟩) (λb u z=>?_) (λb z=>?_) λ_=>O
  .by_cases U:b=a
   .subst U;show .inr<|.inl ⟨_,_,h1a⟩
   .rw[h1b b U];cases e:ts.lookup b with
    |none=>show .inl<|f7 b e
    |some qs=>show .inr<|.inr ⟨qs,R,gb b qs e⟩
  .rw[h1b b λz=>neA qs<|z▸e];show gb b qs e
  .by_cases U:b=a
   .subst U;rw[h1a]at z;cases z;show⟨g,by rw[y01];show C,vs,_,rv,g⟩
   .rw[h1b b U]at z;cases e:ts.lookup b with
    |none=>rw[f7 b e]at z;cases z
    |some qs=>rw[gb b qs e]at z;cases z;show kj _ b qs e
  .by_cases U:b=a
   .exact .inl U
   .rw[h1b b U]at z;cases e:ts.lookup b with
    |none=>show Xa (f7 b e) z
    |some qs=>show .inr ⟨qs,R⟩
theorem walk_ofT{l:PySem.W.OpenLaw}{n k:Nat}{q:ik}{c:List Str}{XP:(Str->Option Va)->Heap->Prop}{Q:World->Heap->Prop}{d:DefRec}{K:Params->Frag}{CX:CXT}{sp:Frag->List (Ad×List (Pos×Str))->Sp}{x:Str}
  (E:l.most=G n) (J:n<=ii) (D:d.params.defaults=[]) (L:Room k jU)
  (M:∀(w:World) (h:Heap),Q w h->(K w.params).In h)
  (F:∀(w:World) (mg:Y1) (z:Ad) (h:Heap),(K w.params).In h->h.Ns ir mg->mg d.name=G (.ref z)->
   ∃(fd:i5) (ts:List<|Ad×List (Pos×Str)),(∀(s:ig) (u:Va),jS s fd ⟨[u],[]⟩ [(x,u)])/\(∀b qs,ts.lookup b=G qs->TabFor q (K w.params) mg b/\(K w.params).lookup b=B)/\
    ∀base:Heap,(K w.params).In base->base.Ns ir mg->BltK base mg->FnOk l.prog w (K w.params) mg base CX k z fd [x] (sp (K w.params) ts))
  (O:∀(K:Frag) (ts:List<|Ad×List (Pos×Str)) (H:Hp) (a:Ad) (ns:List Int),ns.length<=n->OnlyT ts H->SqL K H a 057->sp K ts [.ref a] H (λv _=>v=.bl N) λ_ _ _=>False)
  (r:∀(H:Hp) (s:ig) (e:Va) (s':ig),CX [] H s (λ_ _ _=>False) e s'->False) :
  PySem.W.WalkO q c XP Q l.row.toRowW d [] (λf vs=>PySem.call f vs):=by
 apply Att.attach_call E D λw s₀ s₁ mg mb z o pm cd doc a vs ns Gq Y ho hd hcd C A i g y=>?_;let KX:=M w _ Y;let(fd,ts,U,j,I):=F w mg z _ KX Gq.T.g C;show ztl KX Gq.T.g Gq.T.b Gq.T.builtins Gq.T.nolimit y A i (y0v g J) L Gq.T.bmain (λb qs e=>(j b qs e).1.at KX Gq.T.tab) (λb qs e=>(j b qs e).2) I U (λH p T=>O (K w.params) ts H a ns g p T) λH e s'=>r H s₁ e s'
theorem zy1:∀{ts:List (Ad×List (Pos×Str))} {b:Ad} {qs:Y3},ts.lookup b=G qs->(b,qs)∈ts
 |[],_,_,e=>by simp at e
 |(a,q)::ts,b,qs,e=>by
  rw[y0w]at e;split at e
  .rename_i z;cases e;rw[show b=a from beq_iff_eq.mp z];show y0c
  .exact y08 _<|zy1 e
theorem ts_all{ts:List (Ad×List (Pos×Str))}{Rq:Ad->Prop}(h:∀p∈ts,Rq p.1):∀b qs,ts.lookup b=G qs->Rq b:=λb qs e=>h (b,qs)<|zy1 e
theorem zgm{X:Cx}{n k:Nat}{x:Str}{ps:List Str}{sp:Sp}{p pos:Pos}{e:Expr}{es:List Expr}{t:TA}(C:Cal X.prog X.w X.K X.mg X.base n x ps sp)(hr:Room k X.A)(hle:n<=k)(y:Gl X x)(q:∀x,X.fn x=N)(g:PA X (e::es) t)(i:82=Fa:=by decide)
  (Y:notStar e=N:=by rfl) (h2:es.all notStar=N:=by rfl):PE X 012 (tCallA X sp t):=by
 let(f,fd,F,b,kp,m):=C.ex;show zwf F 065 y m kp b q g i (zar Y)<|za7 h2
theorem zsc{X:Cx}{x:Str}(i k n:Nat)(sp:Sp){m:Nat}{p pos:Pos}{e:Expr}{es:List Expr}{t:TA}(hr:Room m X.A)(hle:k<=m)(g:PA X (e::es) t)(hN:X.Nq[i]?=G x:=by rfl)(hv:Vis X.env.scope x:=by first|show Or.inl rfl|show Or.inr (Or.inl R)|show Or.inr (Or.inr R))
  (hd:82=Fa:=by decide) (hcd:079=Fa:=by decide) (Y:notStar e=N:=by rfl) (h2:es.all notStar=N:=by rfl) :
  PE X 012 (tCallV X.prog X.w X.K X.mg X.base k n sp i t):=zwd hN hv 065 g hd hcd (zar Y)<|za7 h2
noncomputable def freeOk(env:Env)(a:Scope):Bool:=a.names.all λp=>p.2 !=.free||(env.kindOf p.1==G .cell||env.kindOf p.1==G .free)
theorem freeOk.of(h:freeOk env a=N):∀p∈a.names,p.2=.free->env.kindOf p.1=G .cell\/env.kindOf p.1=G .free:=λp l e=>by
 let q:=y0s.mp h p l;rw[e]at q;simpa using q
noncomputable def oneOk(qs:Y3)(pos:Pos)(qual:Str):Bool:=qs.any (λp=>p.1.line==pos.line&&p.1.col==pos.col&&p.1.endLine==pos.endLine&&p.1.endCol==pos.endCol&&p.2==qual)&&qs.all λp=>p.1.line !=pos.line||p.1.col !=pos.col||p.2==qual
theorem oneOk.one(h:oneOk qs pos qual=N):∀p∈qs,p.1.line=pos.line->p.1.col=pos.col->p.2=qual:=λp l M D=>by
 let q:=y0s.mp (y05 _ _▸h:_/\_).2 p l;rw[M,D]at q;simpa using q
theorem oneOk.mem(h:oneOk qs pos qual=N):(pos,qual)∈qs:=by
 let(p,l,e):=y2a.mp (y05 _ _▸h:_/\_).1;simp only[y05,beq_iff_eq]at e;let((((M,D),L),o),s):=e;let:p=(pos,qual):=by
  let((a,b,c,d),z):=p;let(I,g,c',d'):=pos;simp only at M D L o s;subst M D L o s;rfl
 rw[←this];show l
section
variable {X:Cx}{c P:Ad}{qs:Y3}{pos:Pos}{params:iL}{scope:Scope}
theorem zr7(qual:Str){body:Expr}(hc:X.env.code=.ref c)(C:KCode X.K c P)(l:BltK X.base X.mg)(u:freeOk X.env scope=N)(T:oneOk qs pos qual=N)(hd:params.defaults=[]:=by rfl)(O:params.kw_defaults=[]:=by rfl)(a:X.env.qual++"<lambda>"=qual:=by rfl):
  PE X (.Lambda params body scope pos) (tLam X P qs "<lambda>" qual params (.expr body) scope):=zr6 hc C l (freeOk.of u) (oneOk.mem T) (oneOk.one T) hd O a
theorem ps_dfn(qual:Str)(hc:X.env.code=.ref c)(C:KCode X.K c P)(l:BltK X.base X.mg)(u:freeOk X.env scope=N)(T:oneOk qs pos qual=N)(hN:X.Nq.Nodup)(o:X.Nq[j]?=G name)(J:X.env.scope.names.lookup name=G .local)(nd:docOf body=B:=by rfl)
  (hd:params.defaults=[]:=by rfl) (O:params.kw_defaults=[]:=by rfl) (g:∀e,annTrees params B e=[]:=by intro e;rfl) (a:jZ X.env name name=qual:=by rfl) :
  PS X 125 130:=ps_defn hc C l (freeOk.of u) nd (oneOk.mem T) (oneOk.one T) hd O g a hN o J
end
open Classical
theorem Adopted.same(ad:Adopted X σ H1 Hq)(g:Same Hq H2):Same H1 (dropX X H2):=λb u e=>by
 let hc:¬CellOf X b:=λhc=>by rw[ad.2.1 b hc]at e;cases e
 change(if CellOf X b then B else H2 b)=G u;rw[Xp hc];show g b u (by rw[ad.1 b hc];show e)
theorem Adopted.up(ad:Adopted X σ H1 Hq):Same H1 Hq:=λb u e=>by
 let hc:¬CellOf X b:=λhc=>by rw[ad.2.1 b hc]at e;cases e
 rw[ad.1 b hc];show e
theorem Adopted.keep(ad:Adopted X σ H1 Hq)(g:Same Hq H2)(e:H2 b=G u)(n:∀o a,u ≠ .frz o a):dropX X H2 b=G u:=by
 let hc:¬CellOf X b:=λ⟨x,z⟩=>by
  let(o,v,Y,_):=ad.2.2.2 x b z;rw[g _ _ Y]at e;cases e;show n _ _ R
 change(if CellOf X b then B else H2 b)=G u;rw[Xp hc];show e
def SameN(H H':Hp):Prop:=∀b u,H b=G u->(∀o a,u ≠ .frz o a)->H' b=G u
section
variable {cl:Y4}{H:Hp}
def ClOk(cl:Y4)(H:Hp):Prop:=∀x c,cl.lookup x=G c->∃o v,H c=G 013/\o.data=.cell v
theorem ClOk.n(U:ClOk cl H):SameN H 062:=λb u e n=>by
 change(if InCl cl b then B else H b)=G u;rw[Xp<|zb5 U e n];show e
theorem ClOk.tab(U:ClOk cl H)(T:TabOk H P qs):TabOk 062 P qs:=let⟨ps,e⟩:=T;⟨ps,U.n _ _ e λ_ _ z=>nomatch z⟩
theorem zc1(g:Same 062 H2):Same H (mixL cl H H2):=λb u e=>by
 change(if InCl cl b then H b else H2 b)=G u;by_cases hc:InCl cl b
 .rw[Xq hc];show e
 .rw[Xp hc];show g b u (by change(if InCl cl b then B else H b)=G u;rw[Xp hc];show e)
theorem zh5(g:∀b,InCl cl b->H2 b=B):Same H2 (mixL cl H H2):=λb u e=>by
 change(if InCl cl b then H b else H2 b)=G u;rw[Xp λhc=>by rw[g b hc]at e;cases e];show e
end
def CapAt(X:Cx)(σ:St)(cap:List Str)(cv:List V):Prop:=i9 (λx v=>∃i:Nat,X.Nq[i]?=G x/\σ[i]?=G 018/\191) cap cv
theorem zjo(ad:Adopted X σ H1 Hq){cl:Y4}(Y:∀x c,cl.lookup x=G c->X.env.cells.lookup x=G c):∀{cap:List Str} {cv:List V},(∀x∈cap,∃c,cl.lookup x=G c)->CapAt X σ cap cv->Caps Hq cl cap cv
 |_,_,_,.nil=>.nil
 |x::_,_::_,hc,.cons ⟨i,M,D,d⟩ t=>by
  let(c,a):=hc x y0c;let(o,v,I,T,j):=ad.2.2.2 x c<|Y x c a;let(u,f,rfl):=j i _ M D d;show .cons ⟨c,o,u,a,I,T,f⟩<|zjo ad Y (λy L=>hc y<|y08 _ L) t
section
variable {X:Cx}{H H1 H1' Hq:Hp}{σ:St}{name qual:Str}{params:iL}{scope:Scope}{f:Ad}{own ps cap:List Str}{cv:List V}{k:Nat}{sp:Sp}
theorem Made.fn(M:Made X H H1 name qual params body scope f):∃fd,H1 f=G (fnO fd f):=by
 let(cl,ct,c',oc,j,_,_,_,_,h):=M.ex;show⟨_,h⟩
theorem zje{cl:Y4}(ad:Adopted X σ H1' Hq)(l1:∀x c,cl.lookup x=G c->X.env.cells.lookup x=G c)(D:Frz Hq H'):Frz H1' 059:=λb o u e=>by
 let p:¬InCl cl b:=λ⟨x,z⟩=>by rw[ad.2.1 b ⟨x,l1 x b z⟩]at e;cases e
 change(if InCl cl b then B else H' b)=_;rw[Xp p];show D _ _ _<|ad.up _ _ e
theorem Made.clo_e(M:Made X H H1 name qual params (.expr body) scope f)(g:Same H1 H1')(ad:Adopted X σ H1' Hq)(S:CloScope own ps cap scope)(O:ps.length<=own.length)(E:CapAt X σ cap cv)
  (a:∀(cl:Y4) (ct cd j:Va) (us:List Va),us.length=ps.length->jf (cloFd name qual params (.expr body) scope cl ct cd j) 024=pure 021)
  (i:∀(cl:Y4) (c':Ad) (A:io) (outer:List Env) (s:ig) (H':Hp) (vs:List V) (Q:VK),Room k 096->ClOk cl H'->Frz Hq H'->Frz H1' 059->vs.length=ps.length->sp vs H' Q E0->
   ∃t,PE (cxL X.prog X.w X.K X.mg X.base (own++cap) qual scope cl f (.ref c') A outer s H') body t/\t 077 059 (λv H2=>036->Q v 047)):CloH X.prog X.w X.K X.mg X.base (k+1) Hq f ps.length sp:=by
 let(cl,ct,c',oc,j,l1,l2,p,r,q):=M.ex;let U:ClOk cl Hq:=λx c e=>let⟨o,v,I,T,_⟩:=ad.2.2.2 x c<|l1 x c e;⟨o,v,I,T⟩;let up:=ad.up;apply zx9 S O (up _ _<|g _ _ q) (up _ _<|g _ _ p) r U l2 (λx y c w D=>ad.2.2.1 x y c (l1 x c w)<|l1 y c D) (zjo ad l1 (λx J=>l2 (x,.free) (mem_of_lookup'<|S.cap x J) R) E) (a cl ct _ j) λA outer s H' vs Q L Y C l=>?_;show i cl c' A outer s H' vs Q L (λx c e=>let⟨o,v,z,d⟩:=U x c e;⟨o,v,Y _ _ _ z,d⟩) Y (zje ad l1 Y) C l
theorem Made.clo_s(M:Made X H H1 name qual params (.stmts body) scope f)(g:Same H1 H1')(ad:Adopted X σ H1' Hq)(S:CloScope own ps cap scope)(O:ps.length<=own.length)(E:CapAt X σ cap cv)
  (a:∀(cl:Y4) (ct cd j:Va) (us:List Va),us.length=ps.length->jf (cloFd name qual params (.stmts body) scope cl ct cd j) 024=pure 021)
  (i:∀(cl:Y4) (c':Ad) (A:io) (outer:List Env) (s:ig) (H':Hp) (vs:List V) (Q:VK),Room k 096->ClOk cl H'->Frz Hq H'->Frz H1' 059->vs.length=ps.length->sp vs H' Q E0->
   ∃t,PSs (cxL X.prog X.w X.K X.mg X.base (own++cap) qual scope cl f (.ref c') A outer s H') body t/\t {nx:=λ_ H2=>036->Q .non 047,rt:=λv H2=>036->Q v 047} 077 059):CloH X.prog X.w X.K X.mg X.base (k+1) Hq f ps.length sp:=by
 let(cl,ct,c',oc,j,l1,l2,p,r,q):=M.ex;let U:ClOk cl Hq:=λx c e=>let⟨o,v,I,T,_⟩:=ad.2.2.2 x c<|l1 x c e;⟨o,v,I,T⟩;let up:=ad.up;apply zuu S O (up _ _<|g _ _ q) (up _ _<|g _ _ p) r U l2 (λx y c w D=>ad.2.2.1 x y c (l1 x c w)<|l1 y c D) (zjo ad l1 (λx J=>l2 (x,.free) (mem_of_lookup'<|S.cap x J) R) E) (a cl ct _ j) λA outer s H' vs Q L Y C l=>?_;show i cl c' A outer s H' vs Q L (λx c e=>let⟨o,v,z,d⟩:=U x c e;⟨o,v,Y _ _ _ z,d⟩) Y (zje ad l1 Y) C l
end
end L2
namespace SM
open PySem PySem.Spec PyProof.Rows L2 SS
theorem SameN.tups(g:SameN H H'):TupS H H':=λb xs e=>g b _ e λ_ _ z=>nomatch z
theorem rd_se{t:TE}{Q:VK}{H:Hp}{σ:L2.St}(O:L2.St)(e:σ=O)(h:t O H Q):t σ H Q:=by rw[e];show h
theorem zlp{cl:Y4}{H H2:Hp}{D:Ad}{u:HO}(h:dropL cl H D=B)(e:H2 D=G u)(n:∀b,InCl cl b->H2 b=B):H D=B:=by
 classical
 let p:¬InCl cl D:=λz=>by rw[n D z]at e;cases e
 unfold dropL at h;rw[Xp p]at h;show h
def zij(Rq:Hp->Prop)(J:List Nat->Prop)(y:List Nat->List Nat->Prop):Sp:=λvs H Q _=>∃(b:Ad) (ns:List Nat),vs=[.ref b]/\Rq H/\H b=G (.lst<|ns.map nV)/\J ns/\
 ∀D fs H',H D=B->Same H H'->H' D=G (.lst<|fs.map nV)->y ns fs->Q 71 H'
def zhi(P:ik)(w:World)(K:Frag)(mg:Y1)(base:Heap):Sp:=λvs H Q _=>∃(e f:Ad) (fd:i5) (bs:List Bool) (Rq:Hp->Prop) (J:List Nat->Prop) (y:List Nat->List Nat->Prop) (j:List Nat->Nat),
 vs=[.ref e,.ref f]/\H e=G (.tup 067)/\bs.length<=100/\H f=G (fnO fd f)/\CloH P w K mg base 3 H f 1 (zij Rq J y)/\Rq H/\(∀H1 H2,Same H1 H2->Rq H1->Rq H2)/\(∀ns,Num bs ns->J ns)/\
 (∀ns,J ns->ns.length<=100)/\(∀ns fs,J ns->y ns fs->J fs/\(fs≠ns->j fs<j ns))/\∀D ns H',Same H H'->H' D=G (.lst<|ns.map nV)->J ns->y ns ns->Q 71 H'
def zd5(Y:Ad)(qs:Y3):Sp:=λvs H Q _=>∃(a:Ad) (m:Mc),vs=[.ref a]/\TabOk H Y qs/\RepM H a m/\m.Ok/\∀p o H',Same H H'->RepM H' p o->Red m o->Q 42 H'
def sp_lawT(K:Frag)(ts:List<|Ad×List (Pos×Str)):Sp:=λvs H Q _=>∃(a:Ad) (ns:List Int),vs=[.ref a]/\SqL K H a 057/\ns.length<=63/\OnlyT ts H/\∀H',Q (.bl N) H'
def ze8(Y:Ad)(qs:Y3):Sp:=λvs H Q _=>∃(a:Ad) (m:Mc),vs=[.ref a]/\TabOk H Y qs/\RepM H a m/\m.Ok/\∀p o H',Same H H'->RepM H' p o->Red (turned m) o->Q 42 H'
def sprd(m:Mc)(f:Nat->Nat)(W:Nat):Mc:=⟨W,m.ways.map λline=>(List.range<|2^W).map λl=>line.getD (f l) 0,m.ends⟩
theorem sprd_go(ok:m.Ok)(L:r<m.n)(C:l<2^W):(sprd m f W).go r l=m.go r (f l):=by
 let Y:r<m.ways.length:=by rw[ok.len];show L
 simp only[Mc.go,sprd,y02,y04,y00 Y,y1x,y15,y1a C]
theorem zmb(ok:m.Ok)(a:W<=4)(j:∀l,l<2^W->f l<2^m.w):(sprd m f W).Ok:=by
 apply⟨a,ok.pos,ok.few,?_,λln C=>?_,λln C r L=>?_⟩
 .change(m.ways.map _).length=m.ends.length;rw[y01];show ok.len
 .let(line,_,rfl):=y0f.mp C;rw[y01,y18];rfl
 .let(line,c,rfl):=y0f.mp C;let(l,h,rfl):=y0f.mp L;let Y:=j l<|y0x.mp h;let h2:f l<line.length:=by rw[ok.line line c];show Y
  change line.getD (f l) 0<m.ends.length;rw[y02,y00 h2,y15];show ok.room line c _<|y0b h2
theorem zf0(ok:m.Ok)(j:∀l,l<2^W->f l<2^m.w):∀(row:List Nat) (r:Nat),r<m.n->(∀l∈row,l<2^W)->(sprd m f W).run r row=m.run r (row.map f)
 |[],_,_,_=>rfl
 |l::row,r,L,h=>by
  let C:=h l y0c;rw[Mc.run_cons,y0o,Mc.run_cons,sprd_go ok L C];show zf0 ok j row _ (ok.go_lt L<|j l C) λx J=>h x<|y08 _ J
theorem zvl(m:Mc)(f:Nat->Nat)(W r:Nat):(sprd m f W).fin r=m.fin r:=rfl
def loI(l:Int):List Nat->Nat->Int
 |[],_=>0
 |t::ts,i=>Builtin.bitAnd (l/2^t) 1*2^i+loI l ts (i+1)
def loL(l:Int):List Nat->Nat->List Int
 |[],_=>[]
 |t::ts,i=>Builtin.bitAnd (l/2^t) 1*2^i::loL l ts (i+1)
theorem ztk(l:Int):∀(ts:List Nat) (i:Nat),(loL l ts i).sum=loI l ts i
 |[],_=>rfl
 |t::ts,i=>by rw[loL,loI,y2v,ztk l ts]
theorem zy0(l:Int):∀(ts:List Nat) (i j:Nat),(loL l ts i)[j]?=ts[j]?.map λt=>Builtin.bitAnd (l/2^t) 1*2^(i+j)
 |[],_,_=>by simp[loL]
 |t::ts,i,0=>by simp[loL]
 |t::ts,i,j+1=>by
  rw[loL,y1h,zy0 l ts,y1h];congr 1;funext t;rw[show i+1+j=i+(j+1) by omega]
noncomputable def back(bs:List Nat):Nat:=bs.reverse.foldl (λf b=>2*f+b) 0
theorem zu8:∀l,l<32->∀t,t<5->(Builtin.bitAnd ((l:Nat):Int) 1).natAbs<2/\(Builtin.bitAnd (((l:Nat):Int)/2^t) 1).natAbs<2:=by decide+kernel
def zge:Sp:=λvs H Q _=>∃(l:Nat) (a:Ad) (ts:List Nat),vs=[nV l,.ref a]/\l<32/\H a=G (.lst<|ts.map nV)/\ts.length<=5/\(∀t∈ts,t<=4)/\∀H',Same H H'->Q (.int<|loI l ts 0) H'
def noneM(w:Nat):Mc:=⟨w,[List.replicate (2^w) 0],[Fa]⟩
theorem zxb(h:w<=4):(noneM w).Ok:=by
 apply⟨h,Nat.one_pos,(show(1:Nat)<=100 by decide),R,λl C=>?_,λl C r L=>?_⟩
 .rw[y0e.mp C,y1t];rfl
 .rw[y0e.mp C]at L;rw[(List.mem_replicate.mp L).2];show Nat.one_pos
noncomputable def cnt(m:Mc):Nat->Nat->Nat
 |0,r=>if m.fin r=N then 1 else 0
 |k+1,r=>((m.ways.getD r []).map<|cnt m k).sum
def cl(m:Mc)(k:Nat):List Nat:=(List.range m.ends.length).map<|cnt m k
theorem zuw(m:Mc)(k:Nat):(cl m k).length=m.ends.length:=by rw[cl,y01,y18]
theorem zya(h:r<m.ends.length):(cl m k)[r]?=G (cnt m k r):=by
 rw[cl,y04,y1a h];rfl
theorem cl_zero(m:Mc):cl m 0=m.ends.map λb=>if b=N then 1 else 0:=by
 apply y29 λi=>?_;by_cases h:i<m.ends.length
 .rw[zya h,y04,y00 h];change G (if m.ends.getD i Fa=N then 1 else 0)=G _;rw[y02,y00 h];rfl
 .rw[y0z (by rw[zuw];omega),y0z<|by rw[y01];omega]
theorem cl_succ(ok:m.Ok)(k:Nat):cl m (k+1)=m.ways.map λline=>(line.map<|cnt m k).sum:=by
 apply y29 λi=>?_;by_cases h:i<m.ends.length
 .let h':i<m.ways.length:=by rw[ok.len];show h
  rw[zya h,y04,y00 h'];change G (((m.ways.getD i []).map<|cnt m k).sum)=G _;rw[y02,y00 h'];rfl
 .rw[y0z (by rw[zuw];omega),y0z<|by rw[y01,ok.len];omega]
theorem go_lt{m:Mc}(ok:m.Ok)(L:r<m.ends.length)(C:l<2^m.w):m.go r l<m.ends.length:=by
 let(_,_,_,h):=ok.at L C;show h
abbrev veM:List Va:=[.type "ValueError",.type "Exception",.type "BaseException",.type "object"]
def NoLen(H:Hp)(v:V)(n:Int):Prop:=(∃r:Int,v=.int r/\¬(0<=r/\r<n))\/∃k,Kd H v k/\k≠"int"
def zj8:Sp:=λvs H Q _=>∃v,vs=[v]/\((∃r:Int,v=.int r/\Q (.bl N) H)\/∃k,Kd H v k/\k≠"int"/\Q (.bl Fa) H)
inductive zem(vs:List V)(H:Hp)(Q:VK)(_E:XK):Prop
 |mk (v:V) (n:Int):(vs=[v,.int n])->(((∃r:Int,v=.int r/\0<=r/\r<n/\Q (.bl N) H)\/(NoLen H v n/\Q (.bl Fa) H)))->zem vs H Q _E
def CntL(m:Mc)(H:Hp)(v:V)(k:Nat):Prop:=∃c,v=.ref c/\H c=G (.lst<|(cl m k).map nV)
def zrf:Sp:=λvs H Q _=>∃(a c:Ad) (m:Mc) (k:Nat),vs=[.ref a,.ref c]/\RepM H a m/\m.Ok/\H c=G (.lst<|(cl m k).map nV)/\∀D H',H D=B->Same H H'->H' D=G (.lst<|(cl m<|k+1).map nV)->Q 71 H'
def FromQ(m:Mc)(L:Nat)(H:Hp)(Q:VK):Prop:=∀D rs H',H D=B->Same H H'->H' D=G (.lst rs)->i9 (CntL m H') rs (List.range<|L+1)->Q 71 H'
def zri:Sp:=λvs H Q _=>∃(a:Ad) (m:Mc) (L:Nat),vs=[.ref a,nV L]/\RepM H a m/\m.Ok/\L<=100/\FromQ m L H Q
def zel(C:Ad):Sp:=λvs H Q E=>∃(v:V),vs=[v]/\((∃L:Nat,v=nV L/\L<=100/\Q .non H)\/(NoLen H v 101/\∀e,H e=B->E 74 (G e) H))
def zrg(C:Ad):Sp:=λvs H Q E=>∃(a:Ad) (m:Mc) (v:V),vs=[.ref a,v]/\RepM H a m/\m.Ok/\((∃L:Nat,v=nV L/\L<=100/\∀H',Same H H'->Q (nV<|cnt m L 0) H')\/(NoLen H v 101/\∀e,H e=B->E 74 (G e) H))
def fC(m:Mc)(k:Nat):V->V:=λv=>match v with|.int i=>nV (cnt m k i.toNat)|_=>.non
theorem fC_n(m:Mc)(k r:Nat):fC m k (nV r)=nV (cnt m k r):=by change nV (cnt m k ((r:Int)).toNat)=_;rw[y2r]
theorem zyk:∀(l:List Nat),(l.map λ(n:Nat)=>(n:Int)).sum=((l.sum:Nat):Int)
 |[]=>rfl
 |x::l=>by rw[y0o,y2v,y2v,zyk l,Int.natCast_add]
end SM
namespace L2
open PySem PySem.Spec PyProof.Rows PySem.W PySem.Calls
section
variable {X:Cx}{pins:Y2}{σ:St}{H:Hp}{s:ig}{k:Nat}{fa:Ad}{fd:i5}{ps:List Str}{sp:Sp}
def tTryA(K:Frag)(S:Ad)(sp:Sp)(j:Nat)(t:TA)(ts:TS):TS:=λD σ H=>t σ H λvs H1=>sp vs H1 (λv H2=>D.nx σ H2) λcls c H2=>∀a,c=G a->∃C,cls=.ref C/\mroIn K C (.ref S)=G N/\
 ∀H3,Same H2 H3->H3 a=G (excO a cls)->ts {nx:=λO H'=>(∃v,O[j]?=G 018)/\D.nx (O.set j B) H',rt:=λ_ _=>False} (σ.set j<|G 07) H3
end
end L2
namespace SM
open PySem PySem.Spec PyProof.Rows L2 SS
def isP(z:Str):Bool:=isNm 94 SMALL
def NmOk(z:Str):Prop:=Nam z SMALL\/Nam z GREAT
def FrOk(names:List Str):Prop:=names.length<=4/\∀z∈names,NmOk z
theorem zxc(h:NmOk z):z.length<=1000:=by
 let J:∀l,Nam z l->z.length<=1000:=λl C=>by
  let(d,ds,e,_,h3,_):=C.ex;let:z.length=z.cps.toList.length:=by simp[Str.length]
  rw[this,e,y0i];omega
 rcases h with h|h
 .exact J _ h
 .exact J _ h
theorem zh3(e:z.cps.toList=d::ds)(Y:d∈l.cps.toList)(h2:ds.length<=3)(h3:∀x∈ds,x∈FIGS.cps.toList):Nam z l:=⟨d,ds,e,Y,h2,h3⟩
open PySem
noncomputable def rowWords:List Str:=["in","same","within","ahead","next"]
noncomputable def bst(wd:Str)(l:Nat)(one g:Bool):Nat :=
 if l<=1 then l else if l=2 then
  (if wd="within" then(if one && !g then 0 else 2)
  else if !one&&(!g||decide (wd="in"))then 2
  else if decide (wd="in")||decide (wd="same")then(if one&&g then 1 else 0)
  else if g then 0 else if wd="ahead" then 1 else 3)
 else if one then 1 else 0
noncomputable def bit(c k:Nat):Bool:=c/2^k%2==1
def bstep(wd:Str)(i j:Nat)(l c:Nat):Nat:=if l<=1 then l else if l=2 then bst wd 2 (bit c i) (bit c j)else bst wd 3 (bit c j) (bit c j)
def brun(wd:Str)(i j:Nat)(l:Nat)(row:List Nat):Nat:=row.foldl (bstep wd i j) l
noncomputable def aend(wd:Str)(l:Nat):Bool:=decide (l=1)||(decide (l=2)&&decide (wd="within"))
theorem zu6:brun wd i j l (c::r)=brun wd i j (bstep wd i j l c) r:=rfl
end SM
namespace L2
theorem zdf{X:Cx}{x:Str}(P:ik)(w:World)(K:Frag)(mg:Y1)(base:Heap)(i k n:Nat)(sp:Sp){m:Nat}{p pos:Pos}{e:Expr}{es:List Expr}{t:TA}(L:Room m X.A)(z:k<=m)(g:PA X (e::es) t)(M:X.prog=P:=by rfl)(D:X.w=w:=by rfl)(d:X.K=K:=by rfl)(o:X.mg=mg:=by rfl)(s:X.base=base:=by rfl)
  (hN:X.Nq[i]?=G x:=by rfl) (hv:Vis X.env.scope x:=by first|show Or.inl rfl|show Or.inr (Or.inl R)|show Or.inr (Or.inr R))
  (hd:82=Fa:=by decide) (hcd:079=Fa:=by decide) (Y:notStar e=N:=by rfl) (h2:es.all notStar=N:=by rfl) :
  PE X 012 (tCallV P w K mg base k n sp i t):=by
 subst M D d o s;show zsc i k n sp L z g hN hv hd hcd Y h2
theorem zfy:fillsNumberSlot (.type "tuple") "mul"=pure Fa :=
 PySem.fillsNumberSlot_seq (id:="tuple.__mul__") (r:=G<|.builtin "tuple.__rmul__") F.slot_tuple_mul.lookup 52 F.slot_tuple_rmul.lookup 52
theorem zkq:seqRepeat? (.type "tuple")=pure (G<|.builtin "tuple.__mul__"):=by
 unfold seqRepeat?;rw[PySem.seqSlot_of (T:="tuple") (name:="__mul__") (id:="tuple.__mul__") F.slot_tuple_mul.lookup 52,PySem.seqSlot_of (T:="tuple") (name:="__rmul__") (id:="tuple.__rmul__") F.slot_tuple_rmul.lookup 52];rfl
theorem zg8(a:Int)(t:Tok)(l:Ad)(items:Array Va)(n:Nat)(dct:Option Ad)(sl:Y8):
  Meets (Builtin.«int.__rmul__» ⟨[.int a t,.ref l],[]⟩) (λ_ Rq s=>s.heap.get? l=G {cls:=.type "tuple",dict:=dct,data:=.seq items n,slots:=sl}/\Rq (.ok<|.ret Va.notImplemented) s) :=
 .of_wp λprog w A Rq s h=>by let(hp,g,d,tk,os):=s;let(hl,h):=h;wp_walk;show⟨_,R,h⟩
theorem zi6(l:Ad)(items:Array Va)(n:Nat)(t:Tok)(dct:Option Ad)(sl:Y8):
  Meets (Builtin.«tuple.__mul__» ⟨[.ref l,.int 1 t],[]⟩) (λ_ Rq s=>s.heap.get? l=G {cls:=.type "tuple",dict:=dct,data:=.seq items n,slots:=sl}/\Rq (.ok<|.ret (.ref l)) s) :=
 .of_wp λprog w A Rq s h=>by
  let(hp,g,d,tk,os):=s;let(hl,h):=h
  wp_walk using AutoSeq1.wpAny_loadPart' hl
  show⟨_,R,h⟩
theorem zlj(u:Va):∀(k:Nat) (acc:Array Va),(List.replicate k (#[u]:Array Va)).foldl (· ++ ·) acc=acc++(List.replicate k u).toArray
 |0,acc=>by simp
 |k+1,acc=>by
  rw[List.replicate_succ,y2f,zlj u k,List.replicate_succ];apply Array.ext' ?_;simp
theorem zg9(l:Ad)(u:Va)(n:Nat)(k:Int)(t:Tok)(dct:Option Ad)(sl:Y8)(h1:2<=k)(h2:k<=64):
  Meets (Builtin.«tuple.__mul__» ⟨[.ref l,.int k t],[]⟩) (λ_ Rq s=>s.heap.get? l=G {cls:=.type "tuple",dict:=dct,data:=.seq #[u] n,slots:=sl}/\
   Rq (.ok<|.ret 016) {s with heap:=s.heap.push {cls:=.type "tuple",data:=.seq (List.replicate k.toNat u).toArray} }) :=
 .of_wp λprog w A Rq s h=>by
  let(hp,g,d,tk,os):=s;let(hl,h):=h;let hz:(64:Nat)<=ii:=by decide
  let f1:(decide (k < -2^63)||decide (k>=2^63))=Fa:=by simp;omega
  let f2:((#[u]:Array Va).isEmpty||k==1)=Fa:=by
   rw[Bool.or_eq_false_iff];show⟨R,by simp;omega⟩
  let f3:(decide (k<=0)||(#[u]:Array Va).isEmpty)=Fa:=by
   rw[Bool.or_eq_false_iff];show⟨by simp;omega,R⟩
  let f4:¬(((#[u]:Array Va).size:Int)*k>(2^63-1)/8):=by change¬((1:Int)*k>_);omega
  let f5:Builtin.Tuple.tupleTooMany (((#[u]:Array Va).size:Int)*k)=Fa:=by
   unfold Builtin.Tuple.tupleTooMany;change decide ((1:Int)*k>(ii:Int))=Fa;rw[Xf];omega
  let he:(List.replicate k.toNat (#[u]:Array Va)).foldl (· ++ ·) #[]=(List.replicate k.toNat u).toArray:=by
   let:=zlj u k.toNat #[];simpa using this
  let f6:¬((List.replicate k.toNat u).toArray.size>ii):=by rw[y07,y1t];omega
  wp_walk using AutoSeq1.wpAny_loadPart' hl
  simp only[f1,y1u,if_false]
  wp_walk using AutoSeq1.wpAny_loadPart' hl
  simp only[f2,y1u,if_false]
  wp_walk using AutoSeq1.wpAny_loadPart' hl
  simp only[f3,y1u,if_false];rw[Xp f4];simp only[f5,y1u,if_false,he]
  wp_walk using AutoSeq1.wpAny_loadPart' hl
  rw[Xp f6]
  wp_walk using AutoSeq1.wpAny_loadPart' hl
  show⟨_,R,h⟩
section
variable {X:Cx}
def rRepT:R2:=λx y H Q=>∃l k v,x=.ref l/\y=.int k/\H l=G (.tup [v])/\1<=k/\k<=64/\(k=1->Q (.ref l) H)/\(2<=k->∀p H',New H p (.tup<|List.replicate k.toNat v) H'->Q 42 H')
theorem znv(r:RelV v u):∀k:Nat,Vals (List.replicate k v) (List.replicate k u)
 |0=>.nil
 |k+1=>.cons r<|znv r k
theorem op_repT:OpR X (iD .Mult) rRepT:=by
 infer_instance;let(l,k,w,rfl,rfl,i,Y,h2,q1,q2):=h;cases rx;let(t,rfl):=ry;let(z,its,r,(c,J,u,f),e,hc,n,hd):=I.hok l _ i;replace hc:c=.type "tuple":=hc;replace hd:u=.seq its.toArray n:=hd;subst hc hd;cases r with
 |cons r0 g =>
  rename_i p _;cases g;let d:∀{S:PySem.Spec},Meets (Builtin.«tuple.__mul__» ⟨[.ref l,.int k t],[]⟩) S->S X.A (wants (EP X pins σ Q) X.xe) s->wpAny (model X.prog X.w) X.A (iD .Mult (.ref l)<|.int k t) (EP X pins σ Q) X.xe s:=λ{S} M hs=>by
   apply wpAny_binaryOp_repeat_ref (T:="tuple") (U:="int") 06 ⟨_,e,R⟩ (λs'=>typeIs_int s' k t) zfy F.fills_int_mul F.slot_int_rmul zkq F.slot_int_index.lookup
    (je F.slot_int_rmul (typeIs_int s k t) F.entry_int_rmul (F.args_int_rmul_2 _ _) (zg8 k t l _ n J f) ⟨e,R,⟨_,e,R⟩,je F.slot_tuple_mul ⟨_,e,R⟩ F.entry_tuple_mul (F.args_tuple_mul_2 _ _) M hs⟩)
  by_cases O:k=1
  .subst O;show d (zi6 l _ n t J f) ⟨e,⟨.ref l,H,I,R,q1 R⟩⟩
  .refine d (zg9 l p n k t J f 01 h2) ⟨e,?_⟩;let A:=I.laid (a:=s.heap.objs.size) (o:=.tup<|List.replicate k.toNat w) (t':=s.toks) (h':=s.heap.push {cls:=.type "tuple",data:=.seq (List.replicate k.toNat p).toArray}) (λb o e=>y03 _ e) 43
    ⟨by rw[y1t];show zad 01,List.replicate k.toNat p,znv r0 _,⟨_,y0h _ R,R,_,R⟩⟩
   show⟨.ref _,_,A,R,q2 01 _ _<|.mk' I.fresh _⟩
end
noncomputable def Itr3(lo c:Int)(n:Nat):It:=⟨λi _=>i<n,λi H x H'=>H'=H/\x=.int (lo+i*c),λi _=>n<=i⟩
def iRng3(A:TA):TI:=λσ H Rq=>A σ H λvs H1=>∃i j c:Int,vs=[.int i,.int j,.int c]/\c≠0/\Builtin.Range.small i j c=N/\(j-i).natAbs<1000/\c.natAbs<1000/\0<=Builtin.Range.rangeSize i j c/\Rq (Itr3 i c (Builtin.Range.rangeSize i j c).toNat) H1
section
variable {X:Cx}{k:Nat}{H:Hp}{x y:V}{a b:Ad}{xs ys:List V}
def rLeL(X:Cx):R2:=λx y H Q=>∃(a b:Ad) (xs ys:List Int) (j:Nat) (p q:Int),x=.ref a/\y=.ref b/\SqL X.K H a (xs.map V.int)/\SqL X.K H b (ys.map V.int)/\xs.take j=ys.take j/\xs[j]?=G p/\ys[j]?=G q/\p≠q/\Q (.bl<|decide (p<=q)) H
def rNotInD(X:Cx):R2:=λx y H Q=>∃(p:Ad) (xs:List V) (e:Nat->Bool),y=.ref p/\SqL X.K H p xs/\(∀j (h:j<xs.length),EqOk X 7 H xs[j] x<|e j)/\Q (.bl<|!(052).any e) H
end
theorem fb_enum{K:Frag}{a:Ad}{xs:List V}{g:TG}{Y:TS}{D:Ends}{j:St}{H1:Hp}(Pv:Nat->St->Hp->Prop)(h0:Pv 0 j H1)(C:∀i σ H,i<=xs.length->Pv i σ H->SqL K H a xs)
  (hs:∀i x σ H p H2,xs[i]?=G x->Pv i σ H->New H p (.tup [.int (i:Int),x]) H2->g 42 σ H2 λd H2=>Y {D with nx:=Pv<|i+1,ct:=Pv<|i+1,bk:=D.nx} d H2)
  (hd:∀σ H,Pv xs.length σ H->D.nx σ H):fBody g Y D j (Ite K a) H1:=by
 apply⟨λi m σ H=>m=xs.length-i/\i<=xs.length/\Pv i σ H,⟨xs.length,by simp,y17 _,h0⟩,?_⟩;rintro i m σ H ⟨rfl,hi,p⟩;let q1:=C i σ H hi p;by_cases f:i<xs.length
 .refine .inr ⟨⟨xs,xs[i],q1,y00 f⟩,Pv<|i+1,λO H' E=>⟨xs.length-(i+1),by omega,R,f,E⟩,λx H' y=>?_⟩;let(r,u,e,o,ex):=y;subst e;show hs i u σ H r H' (ex xs q1) p o
 .let e:i=xs.length:=by omega
  subst e;show .inl ⟨⟨xs,q1,y06 _⟩,hd σ H p⟩
theorem idx_le:∀(w:List Str) (m:Nat) (h:m<w.length),w.idxOf w[m]<=m
 |y::r,0,h=>by simp
 |y::r,m+1,h=>by
  rw[y2l];let:=idx_le r m (by simpa using h);cases(y==(y::r)[m+1])
  .simp only[cond_false,List.getElem_cons_succ];omega
  .simp
def rIndexT(K:Frag):V->List V->Hp->VK->Prop:=λx vs H Q=>∃(p:Ad) (w:List Str) (z:Str),x=.ref p/\vs=[.str z]/\SqL K H p (w.map V.str)/\z∈w/\w.length<=1000/\Q (.int ((w.idxOf z:Nat):Int)) H
theorem ztf(U:X.A.units+8<cLine):MtR X "list.index" (rIndexT X.K):=by
 intro pins s σ H x xs v us Q I rx rs h;let(p,w,z,rfl,rfl,J,O,hz,q):=h;cases rx;let(u,rfl,t,rfl):=vals1 rs;let(vs,d,D,_):=I.list J;let g:=d.length;rw[y01]at g;let hv:∀(i:Nat) (hi:i<w.length),∃(h:i<vs.length) (t:Tok),vs[i]=.str w[i] t:=λi hi=>by
  let(h',y):=d.at (j:=i) 01;rw[y3n]at y;let(t,e):=(show∃t,vs[i]=Va.str w[i] t from y);show⟨by omega,t,e⟩
 let((cls,dd,data,r),Y,hc,n,hd):=D.isList;simp only at hc hd;subst hc hd;let o:w.idxOf z<w.length:=y1e.mpr O;letI l:Va->Bool:=λ|.str b _=>decide (b=z)|_=>Fa
 apply je PySem.F.slot_list_index ⟨_,Y,R⟩ PySem.F.entry_list_index (PySem.F.args_list_index_2 _ _)
  (SeqAt.list_indexAt p vs.toArray n dd r (.str z t) l (w.idxOf z) (by simp;omega) 01 ?_ ?_) ⟨Y,λy L=>?_,?_⟩
 .let(h,t',e):=hv _ o;change l vs[w.idxOf z]=N;rw[e];show Xg<|y2m o
 .intro m M f;let T:m<w.length:=by simp at M;omega
  let(h,t',e):=hv m T;change l vs[m]=Fa;rw[e];apply Xf λc=>?_;let h2:w.idxOf z<=m:=by
   rw[←c];show idx_le w m T
  omega
 .let(i,hi,rfl):=y1s (show y∈vs by simpa using L);let(h,t',e):=hv i 01;rw[e];show zln (X:=X) (k:=0) (H:=H) (x:=.str w[i]) (y:=.str z) R R pins σ s X.A.in1 _ _ (by change X.A.units+1+0<cLine;omega) I ⟨t',R⟩ ⟨t,R⟩
 .exact(174)
theorem zqh(K:Frag)(U:X.A.units+8<cLine)(h:X.K=K:=by rfl):MtR X "list.index" (rIndexT K):=h▸ztf U
def gLst(K:Frag)(n:Nat)(t:TGs):TG:=λv σ H Q=>∃a xs,v=.ref a/\SqL K H a xs/\xs.length=n/\t xs σ H Q
end L2
namespace SM
structure Thg where
 w:Nat
 step:List Nat->List (List Nat)
 fin:List Nat->Bool
def Thg.run(T:Thg)(t:List Nat)(row:List Nat):List Nat:=row.foldl (λt l=>(015).getD l []) t
theorem Thg.run_cons(T:Thg)(t:List Nat)(l:Nat)(row:List Nat):T.run t (l::row)=T.run ((015).getD l []) row:=rfl
structure Fnd(T:Thg)(Gq:List Nat->Prop)(first:List Nat)(fs:List<|List Nat)(at':Nat):Prop where
 nd:fs.Nodup
 hd:fs[0]?=G first
 good:∀t∈fs,Gq t
 le:at'<=fs.length
 clo:∀t∈fs.take at',∀u∈T.step t,u∈fs
def expl(T:Thg)(fs:List<|List Nat):Mc:=⟨T.w,fs.map λt=>(015).map<|nOf fs,fs.map T.fin⟩
theorem Fnd.start(h:Gq first):Fnd T Gq first [first] 0 :=
 ⟨by simp,R,λt j=>by rw[y0e.mp j];show h,y17 _,λt j=>by simp at j⟩
theorem news_hd{d:Type}[DecidableEq d]{acc xs:List d}{i:Nat}{x:d}(h:acc[i]?=G x):(news acc xs)[i]?=G x:=by
 let(t,e):=zds xs acc;rw[e,y11 (y0d.mp h).1];show h
theorem Fnd.next(h:Fnd T Gq first fs at')(e:fs[at']?=G t)(y:∀u∈T.step t,Gq u):Fnd T Gq first (news fs 015) (at'+1):=by
 let f:=(y0d.mp e).1;let(tl,l):=zds 015 fs;apply⟨zm3 _ _ h.nd,news_hd h.hd,λu U=>?_,by rw[l,y0j];omega,λu U v hv=>?_⟩
 .rcases(zb9 _ _ _).mp U with z|z
  .exact h.good u z
  .exact y u z
 .rw[l,y3l 01,y14,e,y21]at U;rcases y16.mp U with z|z
  .exact(zb9 _ _ _).mpr<|.inl (h.clo u z v hv)
  .rw[y0e.mp z]at hv;show(zb9 _ _ _).mpr<|.inr hv
theorem zxg{d:Type}[DecidableEq d]{fs xs:List d}{u:d}(h:u∈fs):nOf (news fs xs) u=nOf fs u:=by
 let(t,e):=zds xs fs;change List.idxOf u (news fs xs)=List.idxOf u fs;rw[e];show zjd h
theorem zq6(h:Fnd T Gq first fs at')(e:fs[at']?=G t):
  (((news fs 015).take<|at'+1).map λu=>(T.step u).map<|nOf (news fs 015))=((fs.take at').map λu=>(T.step u).map<|nOf fs)++[(015).map<|nOf (news fs 015)]:=by
 let f:=(y0d.mp e).1;let(tl,l):=zds 015 fs;let M:(news fs 015).take (at'+1)=fs.take at'++[t]:=by rw[l,y3l 01,y14,e,y21]
 rw[M,y0y,y0o,y30];congr 1;apply y1l λu U=>y1l λv hv=>zxg<|h.clo u U v hv
section
variable {T:Thg}{Gq:List Nat->Prop}{first:List Nat}{fs:List (List Nat)}
theorem zdx{d:Type}[DecidableEq d]:∀{xs:List d} {x:d},x∈xs->xs[nOf xs x]?=G x
 |y::ys,x,h=>by
  by_cases e:y=x
  .subst e;simp[nOf]
  .let h':x∈ys:=by
    rcases y09.mp h with z|z
    .exact Xa z.symm e
    .exact z
   change(y::ys)[List.idxOf x (y::ys)]?=G x;rw[y2l,show(y==x)=Fa by simp[e],cond_false,y1h];show zdx h'
theorem expl_ok(O:T.w<=4)(h:Fnd T Gq first fs fs.length)(C:fs.length<=100)(hs:∀t,Gq t->(015).length=2^T.w):(expl T fs).Ok:=by
 let h0:0<fs.length:=(y0d.mp h.hd).1;let hc:∀t∈fs,∀u∈T.step t,u∈fs:=λt j u U=>h.clo t (by rw[y0n 43];show j) u U;apply {pos:=?_,wid:=O,few:=?_,len:=?_,line:=?_,room:=?_}
 .simpa[expl]using h0
 .simpa[expl]using C
 .simp[expl]
 .intro line M;let(t,j,rfl):=y0f.mp M;rw[y01];show hs t<|h.good t j
 .intro line M r L;let(t,j,rfl):=y0f.mp M;let(u,U,rfl):=y0f.mp L;change nOf fs u<(fs.map T.fin).length;rw[y01];show(y0d.mp<|zdx (hc t j u U)).1
theorem zxy(j:t∈fs):(expl T fs).fin (nOf fs t)=T.fin t:=by
 change(fs.map T.fin).getD (nOf fs t) Fa=_;rw[y02,y04,zdx j];rfl
theorem expl_go(h:Fnd T Gq first fs fs.length)(hs:∀t,Gq t->(015).length=2^T.w)(j:t∈fs)(C:l<2^T.w):(015).getD l []∈fs/\(expl T fs).go (nOf fs t) l=nOf fs ((015).getD l []):=by
 let Y:l<(015).length:=by rw[hs t<|h.good t j];show C
 let g:(015).getD l []=015[l]:=by rw[y02,y00 Y];rfl
 apply⟨?_,?_⟩
 .rw[g];show h.clo t (by rw[y0n 43];show j) _<|y0b Y
 .change((fs.map λt=>(015).map<|nOf fs).getD (nOf fs t) []).getD l 0=_;rw[y02,y02,y04,zdx j,y1x,y15,y04,y00 Y,g];rfl
theorem zo6(h:Fnd T Gq first fs fs.length)(hs:∀t,Gq t->(015).length=2^T.w):∀(row:List Nat) {t:List Nat},t∈fs->(∀l∈row,l<2^T.w)->T.run t row∈fs/\(expl T fs).run (nOf fs t) row=nOf fs (T.run t row)
 |[],t,j,_=>⟨j,R⟩
 |l::row,t,j,L=>by
  let(Y,h2):=expl_go h hs j<|L l y0c;rw[Mc.run_cons,Thg.run_cons,h2];show zo6 h hs row Y λx J=>L x<|y08 _ J
theorem zqs(h:Fnd T Gq first fs fs.length)(hs:∀t,Gq t->(015).length=2^T.w)(row:List Nat)(L:∀l∈row,l<2^T.w):(expl T fs).fin ((expl T fs).run 0 row)=T.fin (T.run first row):=by
 let M:first∈fs:=y0q h.hd
 let h0:nOf fs first=0:=by
  let e:=h.hd;cases fs with
  |nil=>simp at e
  |cons x r=>simp at e;subst e;simp[nOf]
 let(Y,h2):=zo6 h hs row M L;rw[h0]at h2;rw[h2,zxy Y]
end
theorem news_snoc'{d:Type}[DecidableEq d](acc xs:List d)(x:d):news acc (xs++[x])=nxt (news acc xs) x:=zgq xs acc x
theorem zh0{d:Type}[DecidableEq d]{acc xs:List d}{i:Nat}{x:d}(h:xs[i]?=G x):news acc (xs.take<|i+1)=nxt (news acc<|xs.take i) x:=by rw[y14,h,y21,news_snoc']
theorem zev{d:Type}[DecidableEq d]:∀{xs ys:List d},xs.Nodup->(∀x∈xs,x∈ys)->xs.length<=ys.length
 |[],_,_,_=>y17 _
 |x::xs,ys,E,h=>by
  rw[y1j]at E;let J:=h x y0c;let:=zev (ys:=ys.erase x) E.2 λy L=>(List.mem_erase_of_ne λe=>E.1<|by rw[←e];show L).mpr<|h y (y08 _ L);rw[y3u J]at this;let:=y3y J;rw[y0i];omega
def pairT(I m2:Mc)(L:Bool->Bool->Bool):Thg:=⟨I.w,λt=>((I.ways.getD (ix t 0) []).zip<|m2.ways.getD (ix t 1) []).map λp=>[p.1,p.2],λt=>L (I.fin<|ix t 0)<|m2.fin (ix t 1)⟩
def PairG(I m2:Mc)(t:List Nat):Prop:=∃a b,t=[a,b]/\a<I.n/\b<m2.n
def pairsL(I m2:Mc):List (List Nat):=(List.range I.n).flatMap λa=>(List.range m2.n).map λb=>[a,b]
theorem zpx(h:PairG I m2 t):t∈pairsL I m2:=by
 let(a,b,rfl,g,U):=h;show y1q.mpr ⟨a,y0x.mpr g,y0f.mpr ⟨b,y0x.mpr U,R⟩⟩
theorem zpy(I m2:Mc):(pairsL I m2).length=I.n*m2.n:=by
 unfold pairsL
 induction I.n with
 |zero=>simp
 |succ n A=>rw[y2x,List.flatMap_append,y0j,A];simp[Nat.succ_mul]
theorem zwh(h:Fnd (pairT I m2 L) (PairG I m2) first fs k):fs.length<=I.n*m2.n:=by
 rw[←zpy];show zev h.nd λt j=>zpx<|h.good t j
section
variable {m1 m2:Mc}{op:Bool->Bool->Bool}
theorem zdm{m:Mc}(ok:m.Ok)(L:r<m.n):∃line,m.ways[r]?=G line/\m.ways.getD r []=line/\line.length=2^m.w/\∀x∈line,x<m.n:=by
 let h:r<m.ways.length:=by rw[ok.len];show L
 show⟨m.ways[r],y00 h,by rw[y02,y00 h];rfl,ok.line _<|y0b h,ok.room _<|y0b h⟩
theorem zsj(i:m1.Ok)(Q:m2.Ok)(O:m1.w=m2.w)(h:PairG m1 m2 t):((pairT m1 m2 op).step t).length=2^m1.w/\∀u∈(pairT m1 m2 op).step t,PairG m1 m2 u:=by
 let(a,b,rfl,g,U):=h;let(l1,_,M,o,r1):=zdm i g;let(l2,_,D,c,T):=zdm Q U;change(((m1.ways.getD a []).zip<|m2.ways.getD b []).map λp=>[p.1,p.2]).length=_/\∀u∈((m1.ways.getD a []).zip<|m2.ways.getD b []).map λp=>[p.1,p.2],_;rw[M,D];apply⟨by rw[y01,List.length_zip,o,c,O,Nat.min_self],λu r=>?_⟩;let((x,y),l,rfl):=y0f.mp r;let:=y1y l;show⟨x,y,R,r1 x this.1,T y this.2⟩
theorem zoi(I:m1.Ok)(Q:m2.Ok)(O:m1.w=m2.w):∀(row:List Nat) {a b:Nat},a<m1.n->b<m2.n->(∀l∈row,l<2^m1.w)->(pairT m1 m2 op).run [a,b] row=[m1.run a row,m2.run b row]
 |[],a,b,_,_,_=>rfl
 |l::row,a,b,g,U,L=>by
  let C:=L l y0c;let(l1,f1,M,u,r1):=zdm I g;let(l2,q,D,c,T):=zdm Q U;let Y:l<l1.length:=by rw[u];show C
  let h2:l<l2.length:=by rw[c,←O];show C
  let i:((pairT m1 m2 op).step [a,b]).getD l []=[m1.go a l,m2.go b l]:=by
   change(((m1.ways.getD a []).zip<|m2.ways.getD b []).map λp=>[p.1,p.2]).getD l []=[(m1.ways.getD a []).getD l 0,(m2.ways.getD b []).getD l 0];rw[M,D,y02,y04,show(l1.zip l2)[l]?=G (l1[l],l2[l])from y3s.mpr ⟨y00 Y,y00 h2⟩];rw[y02,y02,y00 Y,y00 h2];rfl
  rw[Thg.run_cons,i,Mc.run_cons,Mc.run_cons];show zoi I Q O row (I.go_lt g C) (Q.go_lt U<|by rw[←O];show C) λx J=>L x<|y08 _ J
end
def fcnt(row:List Nat)(k:Nat):Nat:=(row.filter λl=>l/2^k%2==1).length
def fitP(ps:List Nat)(row:List Nat):Bool:=ps.all λk=>fcnt row k==1
theorem zt8(row:List Nat)(l k:Nat):fcnt (row++[l]) k=fcnt row k+if l/2^k%2==1 then 1 else 0:=by
 unfold fcnt;rw[y2o,y0j];by_cases h:(l/2^k%2==1)=N
 .rw[y1v (p:=λl=>l/2^k%2==1) h,Xq h];rfl
 .rw[y1w (p:=λl=>l/2^k%2==1) h,Xp h];rfl
def psOf(bs:List Bool):List Nat:=(List.range bs.length).filter λk=>bs.getD k Fa
def bools:Nat->List (List Bool)
 |0=>[[]]
 |n+1=>(bools n).flatMap λl=>[Fa::l,N::l]
theorem zg1:∀(bs:List Bool),bs∈bools bs.length
 |[]=>by simp[bools]
 |b::bs=>by
  let A:=zg1 bs;change b::bs∈(bools bs.length).flatMap λl=>[Fa::l,N::l];apply y1q.mpr ⟨bs,A,?_⟩;cases b<;>simp
theorem ps_lt(bs:List Bool):∀k∈psOf bs,k<bs.length:=λk O=>y0x.mp (y2e.mp O).1
def justM:Mc:=mM 1 [[0,1],[1,2],[2,2]] [Fa,N,Fa]
def anyM:Mc:=mM 0 [[0]] [N]
theorem znb:justM.Ok:=by
 apply⟨by decide,by decide,by decide,by decide,?_,?_⟩
 .intro l C;simp only[justM,y09,y0l,or_false]at C;rcases C with rfl|rfl|rfl<;>rfl
 .intro l C r L;simp only[justM,y09,y0l,or_false]at C;rcases C with rfl|rfl|rfl<;>(simp only[y09,y0l,or_false]at L;change r<3;omega)
theorem zvd:anyM.Ok:=by
 apply⟨by decide,by decide,by decide,by decide,?_,?_⟩
 .intro l C;simp only[anyM,y09,y0l,or_false]at C;rw[C];rfl
 .intro l C r L;simp only[anyM,y09,y0l,or_false]at C;rw[C]at L;rw[y0e.mp L];decide
def bitN(t l:Nat):Nat:=l/2^t%2
theorem just_go:∀r,r<3->∀b,b<2->justM.go r b=min 2 (r+b):=by decide
theorem zox(t:Nat):∀(row:List Nat) (r:Nat),r<=2->justM.run r (row.map<|bitN t)=min 2 (r+fcnt row t)
 |[],r,L=>by change r=min 2 (r+0);omega
 |l::row,r,L=>by
  let U:bitN t l<2:=y3b _ 06;rw[y0o,Mc.run_cons,just_go r 01 _ U,zox t row _ 01];let e:fcnt (l::row) t=bitN t l+fcnt row t:=by
   unfold fcnt bitN;by_cases h:(l/2^t%2==1)=N
   .rw[y1v (p:=λl=>l/2^t%2==1) h,y0i];let:=beq_iff_eq.mp h;omega
   .rw[y1w (p:=λl=>l/2^t%2==1) h];let Y:¬l/2^t%2=1:=λz=>h<|beq_iff_eq.mpr z;let:l/2^t%2<2:=y3b _ 06;omega
  rw[e];omega
theorem zxn:∀r,r<=2->justM.fin r=(r==1):=by decide
theorem zql(t:Nat)(row:List Nat):justM.fin (justM.run 0<|row.map (bitN t))=(fcnt row t==1):=by
 rw[zox t row 0 06,zxn _ 01];by_cases h:fcnt row t=1
 .rw[h];rfl
 .rw[show(fcnt row t==1)=Fa by simp[h],show(min 2 (0+fcnt row t)==1)=Fa by rw[beq_eq_false_iff_ne];omega]
theorem zvc:∀row:List Nat,(∀l∈row,l=0)->anyM.run 0 row=0
 |[],_=>rfl
 |l::row,h=>by
  rw[Mc.run_cons,h l y0c];show zvc row λx J=>h x<|y08 _ J
def sofar(bs:List Bool)(i:Nat):List Bool:=(List.range bs.length).map λk=>decide (k<i)&&bs.getD k Fa
theorem zdb(bs:List Bool)(i:Nat):(sofar bs i).length=bs.length:=by simp[sofar]
theorem zcw(bs:List Bool)(i k:Nat)(O:k<bs.length):(sofar bs i).getD k Fa=(decide (k<i)&&bs.getD k Fa):=by
 unfold sofar;rw[y02,y04,y1a O];rfl
theorem zrk(bs:List Bool):sofar bs bs.length=bs:=by
 apply y2i (zdb bs _) λk Y h2=>?_;let:=zcw bs bs.length k h2;rw[Xg h2,y1c,y02,y00 Y,y02,y00 h2]at this;show this
theorem zjf(bs:List Bool)(row:List Nat):fitP (psOf bs) row=N↔∀k,k<bs.length->bs.getD k Fa=N->fcnt row k=1:=by
 unfold fitP psOf;rw[y0s];constructor
 .intro h k O U;show beq_iff_eq.mp<|h k (y2e.mpr ⟨y0x.mpr O,U⟩)
 .intro h k O;let(Y,h2):=y2e.mp O;show beq_iff_eq.mpr<|h k (y0x.mp Y) h2
theorem zt0(bs:List Bool)(row:List Nat):fitP (psOf<|sofar bs 0) row=N:=(zjf _ _).mpr λk O U=>by
 rw[zdb]at O;rw[zcw bs 0 k O]at U;simp at U
theorem zt2(hi:i<bs.length)(U:bs.getD i Fa=N)(row:List Nat):fitP (psOf<|sofar bs (i+1)) row=(fitP (psOf<|sofar bs i) row&&(fcnt row i==1)):=by
 rw[y1f,y05,zjf,zjf,zdb,zdb,beq_iff_eq];constructor
 .intro h;apply⟨λk O z=>h k O ?_,h i hi ?_⟩
  .rw[zcw bs i k O,y05,decide_eq_true_eq]at z;rw[zcw bs _ k O,y05,decide_eq_true_eq];show⟨by omega,z.2⟩
  .rw[zcw bs _ i hi,y05,decide_eq_true_eq];show⟨by omega,U⟩
 .rintro⟨Y,h2⟩ k O z;rw[zcw bs _ k O,y05,decide_eq_true_eq]at z;by_cases c:k=i
  .rw[c];show h2
  .exact Y k O (by rw[zcw bs _ k O,y05,decide_eq_true_eq];show⟨by omega,z.2⟩)
theorem ztz(hi:i<bs.length)(U:bs.getD i Fa=Fa):sofar bs (i+1)=sofar bs i:=by
 apply y1l λk O=>?_;by_cases c:k=i
 .rw[c,U,y25,y25]
 .congr 1;show decide_eq_decide.mpr ⟨λz=>by omega,λz=>by omega⟩
theorem zhb(ok:m.Ok)(h:m.n=1):Canon m:=by
 apply⟨⟨λr l b L C U f=>?_,λb U E=>?_⟩,λi j hi o _=>?_⟩
 .let:=ok.go_lt L C;omega
 .omega
 .omega
theorem zb7(u x:List Nat)(k:Nat):fcnt (u++x) k=fcnt u k+fcnt x k:=by unfold fcnt;rw[y2o,y0j]
def codeF(ps u:List Nat):Option (List Bool):=if ps.any (λk=>decide (2<=fcnt u k))=N then B else G ((List.range 4).map λk=>decide (k∈ps)&&(fcnt u k==1))
theorem zx7(ps u:List Nat):codeF ps u∈B::(bools 4).map G:=by
 unfold codeF;split
 .exact y0c
 .exact y08 _<|List.mem_map_of_mem (by simpa using zg1 ((List.range 4).map λk=>decide (k∈ps)&&(fcnt u k==1)))
theorem ze1(h:ps.any (λk=>decide (2<=fcnt u k))=N)(x:List Nat):fitP ps (u++x)=Fa:=by
 let(k,O,e):=y2a.mp h;let e:=of_decide_eq_true e;apply y3j.mpr ⟨k,O,λz=>?_⟩;let z:=eq_of_beq z;rw[zb7]at z;omega
theorem zx8(l:∀k∈ps,k<4)(e:codeF ps u=codeF ps v)(x:List Nat):fitP ps (u++x)=fitP ps (v++x):=by
 unfold codeF at e;split at e
 .rename_i h;split at e
  .rename_i h';rw[ze1 h,ze1 h']
  .cases e
 .rename_i h;split at e
  .cases e
  .rename_i h';let e:=List.map_inj_left.mp<|Option.some.inj e;let f:∀{u:List Nat},¬ps.any (λk=>decide (2<=fcnt u k))=N->∀k∈ps,fcnt u k<2:=λh k O=>Nat.lt_of_not_le λz=>h<|y2a.mpr ⟨k,O,Xg z⟩;unfold fitP;rw[y1f,y0s,y0s];let J:∀k∈ps,fcnt u k=fcnt v k:=λk O=>by
    let z:=e k<|y0x.mpr (l k O);rw[Xg O,y1c,y1c,y1f,beq_iff_eq,beq_iff_eq]at z;let a:=f h k O;let b:=f h' k O;omega
   show⟨λg k O=>by rw[zb7,←J k O,←zb7];show g k O,λg k O=>by rw[zb7,J k O,←zb7];show g k O⟩
theorem ziv{m:Mc}(o:m.Ord):∀r,r<m.n->∃u,m.Row u/\m.run 0 u=r:=λr=>by
 induction r using Nat.strongRecOn with
 |_ r A =>
  intro L;by_cases h:r=0
  .exact⟨[],.nil m,h.symm⟩
  .let(r',l,v,C,e):=o.par r (Nat.pos_of_ne_zero h) L;let(u,f,c):=A r' v<|y22 v L;apply⟨u++[l],λx J=>?_,by rw[m.run_snoc,c,e]⟩;rcases y16.mp J with J|J
   .exact f x J
   .rw[y0e.mp J];show C
theorem zty{bs:List Bool}(h:bs.length<=4){m:Mc}(c:Canon m)(t:∀row,m.Row row->m.fin 041=fitP (psOf bs) row):m.n<=17:=by
 let Rq:=ziv c.ord;let Q:∀k∈psOf bs,k<4:=λk O=>y0r (ps_lt bs k O) h;letI f:=λr=>if h:r<m.n then Classical.choose (Rq r h)else[]
 let nd:((070).map λr=>codeF (psOf bs)<|f r).Nodup:=nodup_map_on (λa g b U e=>by
  let g:=y0x.mp g;let U:=y0x.mp U;let k:∀r (L:r<m.n),m.Row (f r)/\m.run 0 (f r)=r:=λr L=>by
   change m.Row (dite _ _ _)/\m.run 0 (dite _ _ _)=r;rw[dif_pos L];show Classical.choose_spec<|Rq r L
  let w:∀r (L:r<m.n) x,m.Row x->m.fin (m.run r x)=fitP (psOf bs) (f r++x):=λr L x J=>by
   rw[←t _ λl C=>(y16.mp C).elim ((k r L).1 l)<|J l];unfold Mc.run;rw[y2q];show congrArg (λz=>m.fin<|List.foldl m.go z x) (k r L).2.symm
  show c.dist a b g U λx J=>by rw[w a g x J,w b U x J,zx8 Q e]) y3m
 let:=zev nd (ys:=B::(bools 4).map G) λx J=>by
  let(r,_,rfl):=y0f.mp J;show zx7 _ _
 simpa[bools]using this
end SM
namespace L2
section
variable {X:Cx}{pins:Y2}{σ:St}
theorem Same.sqB{K:Frag}{H H':Hp}{l:Bool}{a:Ad}{xs:List V}(g:Same H H')(h:SqB K l H a xs):SqB K l H' a xs:=by
 cases l
 .exact g.seqT h
 .exact g.seq h
def PairsL(H:Hp)(xs ys:List V)(ps:List Ad):Prop:=∀(j:Nat) p,ps[j]?=G p->∃x y,xs[j]?=G x/\ys[j]?=G y/\H p=G 050
abbrev LstAt(h:Heap)(S:Ad)(ps:List Ad)(c:Nat):Prop:=h.get? S=G {cls:=.type "list",dict:=B,data:=.seq (ps.map Va.ref).toArray c,slots:=#[]}
theorem zl_loop(ax:xs.length=ys.length)(E:xs.length<=1000)(D:jl z ti ro j1 j2 a b)(A:io)(hh:A.in1.handled=B)(hS:S∉[z,ti,ro,j1,j2])(res:Va)(H0:Hp):
  ∀(k i:Nat) (s:ig) (H:Hp) (c:Nat) (ps:List Ad),xs.length-i=k->i<=xs.length->02 H s->Same H0 H->(∀c∈[S,z,ti,ro,j1,j2],FpOk X pins H c)->SqB X.K l1 H a xs->SqB X.K l2 H b ys->ZipG l1 l2 s.heap z ti ro j1 j2 a b i->LstAt s.heap S ps c->ps.length=i->PairsL H xs ys ps->
  (∀s' H' ps' c',02 H' s'->Same H0 H'->FpOk X pins H' S->LstAt s'.heap S ps' c'->ps'.length=xs.length->PairsL H' xs ys ps'->Rq (.ok<|.ret res) s')->
  iZ 26 A (.builtin "list.extend.loop" ⟨[.ref S,.ref z,res],[]⟩) Rq s:=by
 intro k
 induction k with
 |zero =>
  intro i s H c ps O hi I g hf ha U Z hL C l hR;let J:i=xs.length:=by omega
  let(bv,r1,r):=I.sq ha;let(Q,T,p2):=I.sq U;let l1:=r1.length;apply iJ F.entry_extend_loop ?_;rw[Around.under_plainId F.plain_extend_loop _];change wpAny _ A.in1 (j5 019>>=_) _ _ s;apply ia<|zyg hh D Z r (by simp;omega) λh' kk=>?_;show ib<|hR _ H ps c (I.turnedL (t':=s.toks) kk λb U=>hf b<|y08 _ U) g (hf S<|y0c ..) (kk _ _ hS hL) 01 l
 |succ k ih =>
  intro i s H c ps O hi I g hf ha U Z hL C l hR;let f:i<xs.length:=by omega
  let db:i<ys.length:=by omega
  let(bv,r1,r):=I.sq ha;let(Q,T,p2):=I.sq U;let(u,hu,ru):=r1.get<|y00 f;let(v,hv,d):=T.get<|y00 db;apply iJ F.entry_extend_loop ?_;rw[Around.under_plainId F.plain_extend_loop _];change wpAny _ A.in1 (j5 019>>=_) _ _ s;apply ia<|zq4 D Z r p2 (x:=u) (y:=v) (by simpa using hu) (by simpa using hv) λY Z1 q1 sz1 kk=>?_;let hS':=kk _ _ hS hL;let Slt:S<s.heap.objs.size:=y0g hL;change wpAny _ A.in1 (jX S (·.push 016)>>=_) _ _ _;apply ia ?_;apply jm hS' R (ib ⟨jj F.plain_extend_loop _,?_⟩) (by have:=small1000 (n:=ps.length) 01;simp;show y1i this) (by have:=small1000 (n:=ps.length) 01;simp;show y1i this);let oth:∀c o,c≠S->Y.get? c=G o->(Y.update S (Obj.mapSeq (·.push 016))).get? c=G o:=λc o hc e=>(y1d _ _<|Ne.symm hc).trans e;let hSn:=y1o (Obj.mapSeq (·.push 016)) hS' rfl;generalize Y.update S (Obj.mapSeq (·.push 016))=h2 at oth hSn;let zS:∀c∈[z,ti,ro,j1,j2],c≠S:=λc hc e=>hS<|e▸hc;let tup2:jE h2 s.heap.objs.size u v:=oth _ _ (y2d Slt) q1;let Z2:ZipG l1 l2 h2 z ti ro j1 j2 a b (i+1):=Z1.move λc hc o e=>oth c o (zS c hc) e;let k2:∀c o,c∉[S,z,ti,ro,j1,j2]->s.heap.get? c=G o->h2.get? c=G o:=λc o hc e=>oth c o (λq=>hc<|by simp[q])<|kk c o (λq=>hc<|y08 _ q) e;let there:∀c∈[S,z,ti,ro,j1,j2],∃o,h2.get? c=G o:=λc hc=>by
   rcases y09.mp hc with rfl|hc
   .exact⟨_,hSn⟩
   .exact let⟨o,e,_⟩:=Z2.there c hc;⟨o,e⟩
  let I2:02 (upd H s.heap.objs.size<|.tup [xs[i],ys[i]]) {s with heap:=h2,toks:=s.toks}:=I.turnedNew k2 hf (y06 _) ⟨zad (by simp),[u,v],.cons ru<|.cons d .nil,⟨_,tup2,R,_,R⟩⟩ there;let af:H s.heap.objs.size=B:=I.hok.fresh 43;let g2:Same H (upd H s.heap.objs.size<|.tup [xs[i],ys[i]]):=zbb af _;let hlt':∀c∈[S,z,ti,ro,j1,j2],c≠s.heap.objs.size:=λc hc=>by
   rcases y09.mp hc with rfl|hc
   .exact y0m Slt
   .exact y0m<|Z.lt hc
  apply ih (i+1) _ _ (c+1) (ps++[s.heap.objs.size]) 01 01 I2 (g.trans g2) (λc hc=>?_) (g2.sqB ha) (g2.sqB U) Z2 (by change h2.get? S=_;rw[hSn];simp[Obj.mapSeq]) (by simp[C]) (λj p w=>?_) hR
  .let(f0,f1,f2,f3,f4,f5):=hf c hc;show⟨by rw[zaj<|hlt' c hc];show f0,f1,f2,f3,f4,f5⟩
  .by_cases hj:j<ps.length
   .rw[y11 hj]at w;let(x,y,M,e2,L):=l j p w;show⟨x,y,M,e2,g2 _ _ L⟩
   .let hj2:j<(ps++[s.heap.objs.size]).length:=(y0d.mp w).1;rw[y0j,y0u]at hj2;let e:j=ps.length:=by omega
    subst e;rw[y13 43,y38]at w;injection w with w
    subst w;rw[C];show⟨_,_,y00 f,y00 db,zat⟩
theorem Inv.take(I:02 H s)(f:FpOk X pins H a)(h0:X.s₀.heap.get? a=B)(new:ObjOk X.prog X.w (upd H a o) s.heap a o):02 (upd H a o) s:=by
 let(g,w,_,_,y,l):=f;let up:∀b u,H b=G u->upd H a o b=G u:=λb u e=>by rw[zaj λz=>by rw[z,g]at e;cases e];show e
 apply⟨I.ok,I.os,I.bare,⟨I.base.keep,I.base.slot,λb ob e k J=>?_,I.base.there,λb xs e=>up _ _<|I.base.tups b xs e,λb ob u e=>up _ _<|I.base.frzs b ob u e,λb qs ps e=>up _ _<|I.base.tbls b qs ps e⟩,I.loc,I.cell,by rw[zaj<|Ne.symm w];show I.free,λx c e=>by rw[zaj<|y x c e];show I.freeC x c e,λp j=>?_,λb u e=>?_,I.len⟩
 .rw[zaj λz=>by rw[z,h0]at e;cases e];show I.base.free b ob e k J
 .let(e,k,r):=I.pin p j;show⟨e,by rw[zaj<|l p j];show k,r⟩
 .by_cases U:b=a
  .subst U;rw[zat]at e;cases e;show new
  .rw[zaj U]at e;show(I.hok b u e).stay (λ_ _ _ q=>q) (λc q=>up c _ q) (λc _ _ _ _ q=>up c _ q) λc xs q=>up c _ q
theorem zph:jo (.type "zip") "__len__"=pure B:=by rw[iM,iB];kernel_rfl
theorem zl8:jo (.type "zip") "__length_hint__"=pure B:=by rw[iM,iB];kernel_rfl
theorem zkr:∀(ps:List Ad),Vals (ps.map V.ref) (ps.map Va.ref)
 |[]=>.nil
 |_::ps=>.cons R<|zkr ps
theorem zjr(hc:X.calm=N)(ax:xs.length=ys.length)(E:xs.length<=1000)(D:jl z ti ro j1 j2 a b)(I:02 H s)(hf:∀c∈[z,ti,ro,j1,j2],FpOk X pins H c)(g:SqB X.K l1 H a xs)(U:SqB X.K l2 H b ys)
  (zf:IsZip s.heap z ti ro .none) (Z:ZipG l1 l2 s.heap z ti ro j1 j2 a b 0) (q:∀L ps H',H L=B->Same H H'->H' L=G (.lst<|ps.map V.ref)->ps.length=xs.length->PairsL H' xs ys ps->Q (.ref L) H') :
  wpAny 26 X.A (call (.type "list") [.ref z]) 028 X.xe s:=by
 let O:s.heap.objs.size∉[z,ti,ro,j1,j2]:=λhm=>y1p _<|Z.lt hm;apply callType_codes (Q₁:=λobj s₁=>obj=.ref s.heap.objs.size/\s₁={s with heap:=s.heap.push {cls:=.type "list",data:=.seq #[]} }) F.called_list (F.typeCall_list_1 _) F.entry_list_init
  (code_list_new _ ⟨R,R⟩) λobj s₁ h₁=>?_
 let(rfl,rfl):=h₁;let u:(142).get? s.heap.objs.size=G {cls:=.type "list",data:=.seq #[]}:=y0h _ rfl;let kp:∀c o,s.heap.get? c=G o->(142).get? c=G o:=λc o e=>y03 _ e;let h0:X.s₀.heap.get? s.heap.objs.size=B:=by
  cases e:X.s₀.heap.get? s.heap.objs.size with
  |none=>rfl
  |some o=>show Xa (y0g e)<|Nat.not_lt.mpr I.sz
 let fS:FpOk X pins H s.heap.objs.size:=I.fpOk 43 083;generalize s.heap.objs.size=S at *;generalize s.heap.push {cls:=.type "list",data:=.seq #[]}=l at u kp;let I1:02 H {s with heap:=l,toks:=s.toks}:=I.kept kp;apply⟨⟨_,u,R⟩,F.args_list_init_2 _ _,?_⟩;change wpAny _ X.A.in1.in1 (do let old ←Builtin.List.listItems (.ref S);Builtin.List.listUpdate (.ref S) (λ_=>#[]);letGo old.toList.reverse;Builtin.List.listExtendWith (.ref S) 019 .none) _ _ _;let zS:z≠S:=λe=>O (by simp[e]);apply ia ?_;unfold Builtin.List.listItems;apply ia<|iH u R (ib ?_);change wpAny _ X.A.in1.in1 (jX S (λ_=>#[])>>=λ_=>letGo (#[]:Array Va).toList.reverse>>=λ_=>Builtin.List.listExtendWith (.ref S) 019 .none) _ _ _;apply ia<|jm u R ?_;let f:=y1o (Obj.mapSeq λ_=>(#[]:Array Va)) u rfl;let oth:∀b o,b≠S->l.get? b=G o->(l.update S<|Obj.mapSeq (λ_=>(#[]:Array Va))).get? b=G o:=λb o U e=>(y1d _ _<|Ne.symm U).trans e;apply ia<|j4 ?_;generalize l.update S (Obj.mapSeq λ_=>(#[]:Array Va))=h2 at f oth;let T:IsZip h2 z ti ro .none:=oth _ _ zS<|kp _ _ zf;let v:Shared.TypeIs {s with heap:=h2} (.ref z) "zip":=⟨_,T,R⟩;unfold Builtin.List.listExtendWith;apply ia<|jA v ?_;let M:Builtin.List.listSameRef (.ref S) 019=Fa:=by simp[Builtin.List.listSameRef,Ne.symm zS]
 let e2:(Va.type "zip"==Va.type "list")=Fa:=by decide
 let e3:(Va.type "zip"==Va.type "tuple")=Fa:=by decide
 simp only[M,e2,e3,y3h,y1u,if_false];apply ia<|jx T ?_;apply ia<|iy ?_;unfold Builtin.List.listLengthHint;apply ia<|iT v zph ?_;change wpAny _ X.A.in1.in1 (specialOf (Va.ref z) (Str.ofString "__length_hint__")>>=_) _ _ _;apply ia<|iT v zl8 ?_;apply ib ?_;change wpAny _ X.A.in1.in1 (rule "list.extend.makes-room">>=λ_=>Builtin.List.listTouch (.ref S)>>=λ_ =>
  again (.builtin "list.extend.loop" ⟨[.ref S,.ref z,.none],[]⟩)) _ _ _
 apply ia<|jw ?_;apply ia ?_;change wpAny _ X.A.in1.in1 (jX S (·.push .none)>>=λ_=>jX S (·.pop)) _ _ _;apply ia<|jm f R ?_;let J:=y1o (Obj.mapSeq (·.push Va.none)) f rfl;apply jm (hz:=by seq_fits) J R ?_;let A:=y1o (Obj.mapSeq (·.pop)) J rfl;let Y:∀b o,b≠S->h2.get? b=G o->((h2.update S (Obj.mapSeq (·.push Va.none))).update S (Obj.mapSeq (·.pop))).get? b=G o :=
  λb o U e=>(y1d _ _<|Ne.symm U).trans<|(y1d _ _<|Ne.symm U).trans e
 generalize(h2.update S (Obj.mapSeq (·.push Va.none))).update S (Obj.mapSeq (·.pop))=h3 at A Y;let keep:∀b o,b≠S->s.heap.get? b=G o->h3.get? b=G o:=λb o U e=>Y b o U<|oth b o U (kp b o e);let w:02 H {s with heap:=h3,toks:=s.toks}:=I.turnedL (L:=[S]) (λb o U e=>keep b o (λz=>U<|by simp[z]) e) λb U=>by rw[y0e.mp U];show fS
 let Z3:ZipG l1 l2 h3 z ti ro j1 j2 a b 0:=Z.move λc hc o e=>keep c o (λq=>O<|q▸hc) e;apply ib ⟨jj F.plain_extend_loop _,zl_loop ax E D X.A.in1 026 O .none H xs.length 0 _ H _ [] R (y17 _) w (Same.refl _) (λc hc=>?_) g U Z3 A R (λj p e=>by simp at e) λs' H' d c' I' g' f' hL C hp'=>?_⟩
 .rcases y09.mp hc with rfl|hc
  .exact fS
  .exact hf c hc
 .refine⟨R,.ref S,upd H' S<|.lst (d.map V.ref),I'.take f' h0 ⟨by rw[y01];show zad 01,_,c',zkr d,hL⟩,R,?_⟩;let g2:Same H' (upd H' S<|.lst (d.map V.ref)):=zbb f'.1 _;show q S d _ fS.1 (g'.trans g2) zat C λj p e=>by
   let(x,y,i,r,a3):=hp' j p e;show⟨x,y,i,r,g2 _ _ a3⟩
end
def tListZipB(K:Frag)(l1 l2:Bool)(A:TA):TE:=λσ H Q=>A σ H λvs H1=>∃a b xs ys,vs=[.ref a,.ref b]/\SqB K l1 H1 a xs/\SqB K l2 H1 b ys/\xs.length=ys.length/\xs.length<=1000/\
 ∀L ps H',H1 L=B->Same H1 H'->H' L=G (.lst<|ps.map V.ref)->ps.length=xs.length->PairsL H' xs ys ps->Q (.ref L) H'
theorem zkx(hc:X.calm=N)(o:Gl X "list")(x:X.mg "list"=B)(M:Gl X "zip")(D:X.mg "zip"=B)(g:PA X [a,b] A)(Y:notStar a=N)(h2:notStar b=N):
  PE X (.Call (.Name "list" p) [.Call (.Name "zip" l) [a,b] [] i] [] pos) (tListZipB X.K l1 l2 A):=by
 intro pins s σ H Q I h;let j:im [b] X.env=[(Fa,eval b X.env)]:=by rw[zar h2,starEach.eq_def]
 let hz:im [.Call (.Name "zip" l) [a,b] [] i] X.env=[(Fa,eval (.Call (.Name "zip" l) [a,b] [] i) X.env)]:=by rw[zar R,starEach.eq_def]
 apply Call_<|zc8 I o x boot_list (PyProof.Rows.callWith_type1 ?_ hz R);rw[hz];apply Calls.spliced_cons<|ip (Call_<|zc8 I M D boot_zip (PyProof.Rows.callWith_type1 (thn (g i pins s σ H _ I h) λus s1 zz=>ex5 zz λvs H1 I1 r1 q1=>?_) (by rw[star2 Y h2,j])<|by rw[j];rfl)) (λv s2 T=>Calls.spliced_nil T) λ_ _ e=>e;let(r,z,xs,ys,e,J,L,y,E,q):=q1;subst e;let(u,v,rfl,f,d):=vals2 r1;cases(show u=Va.ref r from f);cases(show v=Va.ref z from d);let(w,_,O):=I1.sq J;let(U,_,C):=I1.sq L;show zl7 O C λh' zf Z sz k=>zjr hc y E (zipApart_new O.lt C.lt) (I1.kept (t':=s1.toks) k) (λc hc=>I1.fpOk (zle hc)<|I1.hok.fresh (zle hc)) J L zf Z q
def tListZip(K:Frag)(A:TA):TE:=λσ H Q=>A σ H λvs H1=>∃a b xs ys,vs=[.ref a,.ref b]/\SqT K H1 a xs/\SqT K H1 b ys/\xs.length=ys.length/\xs.length<=1000/\
 ∀L ps H',H1 L=B->Same H1 H'->H' L=G (.lst<|ps.map V.ref)->ps.length=xs.length->PairsL H' xs ys ps->Q (.ref L) H'
theorem zms{X:Cx}{a b:Expr}{A:TA}{p l pos i:Pos}(hc:X.calm=N)(o:Gl X "list")(x:X.mg "list"=B)(M:Gl X "zip")(D:X.mg "zip"=B)(g:PA X [a,b] A)(Y:notStar a=N:=by rfl)(h2:notStar b=N:=by rfl):
  PE X (.Call (.Name "list" p) [.Call (.Name "zip" l) [a,b] [] i] [] pos) (tListZip X.K A):=zkx (l1:=Fa) (l2:=Fa) hc o x M D g Y h2
end L2
namespace SM
open PySem PySem.Spec PyProof.Rows L2 SS
def zgb:Sp:=λvs H Q _=>∃(a b:Ad) (rs:List V) (ls fs:List<|List Nat),vs=[.ref a,.ref b]/\H a=G (.lst rs)/\i9 (Line H) rs ls/\ls.length<=16/\H b=G (.dT<|tabF keyL 0 fs)/\(∀l∈ls,l∈fs)/\∀p H',Same H H'->H' p=G (.tup<|(ls.map<|nOf fs).map nV)->Q 42 H'
def ze9(Rq:Hp->Prop)(T:Thg)(Gq:List Nat->Prop):Sp:=λvs H Q _=>∃(a:Ad) (t:List Nat),vs=[.ref a]/\Rq H/\H a=G (.tup<|t.map nV)/\Gq t/\∀D rs H',H D=B->Same H H'->H' D=G (.lst rs)->i9 (Line H') rs 015->Q 71 H'
def zik(Rq:Hp->Prop)(T:Thg)(Gq:List Nat->Prop):Sp:=λvs H Q _=>∃(a:Ad) (t:List Nat),vs=[.ref a]/\Rq H/\H a=G (.tup<|t.map nV)/\Gq t/\∀H',Same H H'->Q (.bl<|T.fin t) H'
def zin(L:Bool->Bool->Bool):Sp:=λvs H Q _=>∃a b:Bool,vs=[.bl a,.bl b]/\Q (.bl<|L a b) H
def ExQ(T:Thg)(t0:List Nat)(H:Hp)(Q:VK):Prop:=∀p o H',Same H H'->RepM H' p o->o.Ok->o.w=T.w->Canon o->(∀row,(∀l∈row,l<2^T.w)->o.fin (o.run 0 row)=T.fin (T.run t0 row))->Q 42 H'
def zgg(P:ik)(w:World)(K:Frag)(mg:Y1)(base:Heap)(Y:Ad)(qs:Y3):Sp:=λvs H Q _=>∃(a d c:Ad) (fd e:i5) (T:Thg) (Gq:List Nat->Prop) (Rq:Hp->Prop) (t0:List Nat),
 vs=[nV T.w,.ref a,.ref d,.ref c]/\TabOk H Y qs/\H a=G (.tup<|t0.map nV)/\H d=G (fnO fd d)/\H c=G (fnO e c)/\CloH P w K mg base 4 H d 1 (ze9 Rq T Gq)/\CloH P w K mg base 4 H c 1 (zik Rq T Gq)/\Rq H/\(∀H1 H2,Same H1 H2->Rq H1->Rq H2)/\T.w<=4/\Gq t0/\
 (∀t,Gq t->(015).length=2^T.w/\∀u∈T.step t,Gq u)/\(∀fs k,Fnd T Gq t0 fs k->fs.length<=100)/\ExQ T t0 H Q
def EndsK(K:Frag)(H:Hp)(c:Ad)(bs:List Bool):Prop:=H c=G (.tup 067)\/∀H',SqT K H' c 067
theorem EndsK.sq{K:Frag}{H:Hp}{c:Ad}{bs:List Bool}(h:EndsK K H c bs):SqT K H c 067:=h.elim .of λz=>z H
theorem EndsK.ts{K:Frag}{H H':Hp}{c:Ad}{bs:List Bool}(h:EndsK K H c bs)(g:TupS H H'):EndsK K H' c bs:=h.imp (g _ _) id
def RepMK(K:Frag)(H:Hp)(a:Ad)(m:Mc):Prop:=∃(b c:Ad) (rs:List V),H a=G (.tup [nV m.w,.ref b,.ref c])/\H b=G (.tup rs)/\i9 (Line H) rs m.ways/\EndsK K H c m.ends
theorem RepM.k{K:Frag}{H:Hp}{a:Ad}{m:Mc}(h:RepM H a m):RepMK K H a m:=let⟨b,c,rs,Y,h2,h3,p⟩:=h;⟨b,c,rs,Y,h2,h3,.inl p⟩
theorem RepMK.ts{K:Frag}{H H':Hp}{a:Ad}{m:Mc}(h:RepMK K H a m)(g:TupS H H'):RepMK K H' a m:=by
 let(b,c,rs,Y,h2,h3,p):=h;show⟨b,c,rs,g _ _ Y,g _ _ h2,L2.Paired.mapP h3 λ_ _ z=>z.ts g,p.ts g⟩
theorem RepMK.same{K:Frag}{H H':Hp}{a:Ad}{m:Mc}(h:RepMK K H a m)(g:Same H H'):RepMK K H' a m:=h.ts g.tups
def CMach(K:Frag)(a:Ad)(m:Mc):Prop:=∃(b c:Ad) (ls:List Ad),(∀H,SqT K H a [nV m.w,.ref b,.ref c])/\(∀H,SqT K H b<|ls.map V.ref)/\i9 (λl line=>∀H,SqT K H l<|line.map nV) ls m.ways/\∀H,SqT K H c<|m.ends.map V.bl
theorem cm_mk{K:Frag}{h:Heap}{m:Mc}{ls:List Ad}(X:K.In h)(Gq:h.Ns ir mg)(a:PySem.W.nsIn K ir x=G (G 42))(Q:∀H,SqT K H p [nV m.w,.ref b,.ref c])(U:∀H,SqT K H b<|ls.map V.ref)(C:i9 (λl line=>∀H,SqT K H l<|line.map nV) ls m.ways)(hc:∀H,SqT K H c<|m.ends.map V.bl):∃q,GlV mg x (.ref q)/\CMach K q m :=
 ⟨p,⟨.ref p,PySem.W.mg_of X Gq a,R⟩,b,c,ls,Q,U,C,hc⟩
def zfl(K:Frag):Sp:=λvs H Q _=>∃(a b:Ad) (l line:List Nat),vs=[.ref a,.ref b]/\H a=G (.lst<|l.map nV)/\l.length<=32/\(∀H',SqT K H' b<|line.map nV)/\(∀x∈l,x<line.length)/\
 ∀p H',Same H H'->H' p=G (.tup<|(l.map λx=>line.getD x 0).map nV)->Q 42 H'
def ze5(K:Frag):Sp:=λvs H Q _=>∃(a b:Ad) (m:Mc) (ts:List Nat) (W:Nat) (f:Nat->Nat),vs=[.ref a,.ref b,nV W]/\CMach K a m/\m.Ok/\H b=G (.lst<|ts.map nV)/\ts.length<=5/\(∀t∈ts,t<=4)/\W<=4/\
 (∀l:Nat,l<2^W->loI (l:Int) ts 0=(f l:Int)/\f l<2^m.w)/\∀p H',Same H H'->RepMK K H' p (sprd m f W)->Q 42 H'
def zhm(P:ik)(w:World)(K:Frag)(mg:Y1)(base:Heap)(c:Ad)(d:Y3)(l:Ad)(e:Y3):Sp:=λvs H Q _=>∃(a b f:Ad) (fd:i5) (I m2:Mc) (L:Bool->Bool->Bool),
 vs=[.ref a,.ref b,.ref f]/\TabOk H c d/\TabOk H l e/\RepMK K H a I/\RepMK K H b m2/\I.Ok/\m2.Ok/\I.w=m2.w/\I.n*m2.n<=100/\H f=G (fnO fd f)/\CloH P w K mg base 2 H f 2 (zin L)/\
 ∀p o H',Same H H'->RepM H' p o->o.Ok->o.w=I.w->Canon o->(∀row,I.Row row->o.fin (o.run 0 row)=L (I.fin<|I.run 0 row) (m2.fin<|m2.run 0 row))->Q 42 H'
def zgd(K:Frag)(c:Ad)(d:Y3)(l:Ad)(e:Y3)(r:Ad)(qm:Y3)(L:Bool->Bool->Bool):Sp:=λvs H Q _=>∃(a b:Ad) (I m2:Mc),
 vs=[.ref a,.ref b]/\TabOk H c d/\TabOk H l e/\TabOk H r qm/\RepMK K H a I/\RepMK K H b m2/\I.Ok/\m2.Ok/\I.w=m2.w/\I.n*m2.n<=100/\
 ∀p o H',Same H H'->RepM H' p o->o.Ok->o.w=I.w->Canon o->(∀row,I.Row row->o.fin (o.run 0 row)=L (I.fin<|I.run 0 row) (m2.fin<|m2.run 0 row))->Q 42 H'
def bsOf(names:List Str):List Bool:=names.map isP
structure FitR(names:List Str)(m:Mc):Prop where
 ok:m.Ok
 canon:Canon m
 w:m.w=names.length
 takes:∀row,m.Row row->m.fin 041=fitP (psOf<|bsOf names) row
def zf2(K:Frag)(c:Ad)(d:Y3)(l:Ad)(e:Y3)(r:Ad)(qm:Y3):Sp:=λvs H Q _=>∃(a:Ad) (names:List Str),vs=[.ref a]/\TabOk H c d/\TabOk H l e/\TabOk H r qm/\H a=G (.lst<|names.map V.str)/\FrOk names/\
 ∀p m H',Same H H'->RepMK K H' p m->FitR names m->Q 42 H'
theorem bit_lo:∀t,t<4->∀l:Nat,l<16->loI (l:Int) [t] 0=(bitN t l:Int):=by decide+kernel
theorem bsOf_at(h:names[i]?=G z):(bsOf names).getD i Fa=isP z:=by
 unfold bsOf;rw[y02,y04,h];rfl
theorem zjx(names:List Str):(bsOf names).length=names.length:=y01 _
def eachM:Mc:=mM 2 [[0,1,0,0],[1,1,1,1]] [N,Fa]
def aheadM:Mc:=mM 2 [[0,1,2,2],[1,1,1,1],[2,2,2,2]] [Fa,N,Fa]
def nextM:Mc:=mM 2 [[0,1,3,3],[3,3,2,2],[2,2,2,2],[3,3,3,3]] [Fa,Fa,N,Fa]
def ruleM(wd:Str):Mc:=if wd="ahead" then aheadM else if wd="next" then nextM else eachM
def ruleW(wd:Str):Str:=if wd="ahead" then "ahead" else if wd="next" then "next" else "within"
def seen2(i j c:Nat):Nat:=(bit c i).toNat+2*(bit c j).toNat
theorem zx1:eachM.Ok:=⟨by decide,by decide,by decide,by decide,by decide,by decide⟩
theorem zvg:aheadM.Ok:=⟨by decide,by decide,by decide,by decide,by decide,by decide⟩
theorem zxd:nextM.Ok:=⟨by decide,by decide,by decide,by decide,by decide,by decide⟩
theorem zvv(wd:Str):(ruleM wd).Ok/\(ruleM wd).w=2/\(ruleM wd).n<=4:=by
 unfold ruleM;split
 .exact⟨zvg,R,by decide⟩
 .split
  .exact⟨zxd,R,by decide⟩
  .exact⟨zx1,R,by decide⟩
theorem zvr(i j c:Nat):seen2 i j c<4:=by unfold seen2;cases bit c i<;>cases bit c j<;>decide
theorem zvs{i j c:Nat}(hi:i<4)(o:j<4)(hc:c<16):loI (c:Int) [i,j] 0=(seen2 i j c:Int):=by
 let h:∀(i j:Fin 4) (c:Fin 16),loI ((c.val:Nat):Int) [i.val,j.val] 0=((seen2 i.val j.val c.val:Nat):Int):=by decide+kernel
 show h ⟨i,hi⟩ ⟨j,o⟩ ⟨c,hc⟩
def bstB(wd:Str)(l:Nat)(v Q:Bool):Nat:=if l<=1 then l else if l=2 then bst wd 2 v Q else bst wd 3 Q Q
theorem sim{m:Mc}{wd:Str}{rel:List (Nat×Nat)}(hs:∀p∈rel,∀v Q:Bool,(m.go p.1<|v.toNat+2*Q.toNat,bstB wd p.2 v Q)∈rel){i j:Nat}:∀(row:List Nat) (s l:Nat),(s,l)∈rel->(m.run s<|row.map (seen2 i j),brun wd i j l row)∈rel
 |[],s,l,h=>h
 |c::r,s,l,h=>by
  rw[y0o,Mc.run_cons,zu6];show sim hs r _ _<|hs (s,l) h (bit c i) (bit c j)
theorem zvu(wd:Str)(i j:Nat)(row:List Nat):(ruleM wd).fin ((ruleM wd).run 0<|row.map (seen2 i j))=aend (ruleW wd) (brun (ruleW wd) i j 2 row):=by
 unfold ruleM ruleW;split
 .let z:=sim (m:=aheadM) (wd:="ahead") (rel:=[(0,2),(1,1),(2,0)]) 52 (i:=i) (j:=j) row 0 2 06;let f:∀p∈([(0,2),(1,1),(2,0)]:List<|Nat×Nat),aheadM.fin p.1=aend "ahead" p.2:=by decide+kernel
  show f _ z
 .split
  .let z:=sim (m:=nextM) (wd:="next") (rel:=[(0,2),(1,3),(2,1),(3,0)]) 52 (i:=i) (j:=j) row 0 2 06;let f:∀p∈([(0,2),(1,3),(2,1),(3,0)]:List<|Nat×Nat),nextM.fin p.1=aend "next" p.2:=by decide+kernel
   show f _ z
  .let z:=sim (m:=eachM) (wd:="within") (rel:=[(0,2),(1,0)]) 52 (i:=i) (j:=j) row 0 2 06;let f:∀p∈([(0,2),(1,0)]:List<|Nat×Nat),eachM.fin p.1=aend "within" p.2:=by decide+kernel
   show f _ z
structure BareM(tl:List Str)(wd:Str)(i j:Nat)(m:Mc):Prop where
 ok:m.Ok
 canon:Canon m
 w:m.w=tl.length
 fin:∀row,m.Row row->m.fin 041=(aend (ruleW wd) (brun (ruleW wd) i j 2 row)&&fitP (psOf<|bsOf tl) row)
def zre(K:Frag):Sp:=λvs H Q _=>∃wd:Str,vs=[.str wd]/\∀p,CMach K p (ruleM wd)->Q 42 H
theorem zva(Bq:BareM tl wd i j M)(a:BareM tl wd i j M'):M=M':=by
 apply zlw (by rw[Bq.w,a.w]) Bq.ok a.ok Bq.canon a.canon λrow L=>?_;rw[Bq.fin row L,a.fin row λc hc=>by rw[a.w,←Bq.w];show L c hc]
end SM
namespace PySem.F
theorem slot_revit_next:Slot "list_reverseiterator" "__next__" "list_reverseiterator.__next__" :=
 .of (owner:="list_reverseiterator") (n:="__next__") (by rw[iM,iB];kernel_rfl) 52 52 52
  (by first|show .inl (by decide+kernel)|show .inr (by decide+kernel)) (by rw[iQ];kernel_rfl)
theorem slot_revit_iter:Slot "list_reverseiterator" "__iter__" "list_reverseiterator.__iter__" :=
 .of (owner:="list_reverseiterator") (n:="__iter__") (by rw[iM,iB];kernel_rfl) 52 52 52
  (by first|show .inl (by decide+kernel)|show .inr (by decide+kernel)) (by rw[iQ];kernel_rfl)
theorem entry_revit_iter:entryFor table "list_reverseiterator.__iter__"=G Builtin.«dict_keyiterator.__iter__» :=
 entryFor_alias (id':="dict_keyiterator.__iter__") (by kernel_rfl) (by first|rfl|decide+kernel|(unfold String.splitOn;simp+decide [String.splitOnAux])) (by decide+kernel) (by kernel_rfl)
theorem args_revit_iter(a:Va):argsOk "list_reverseiterator.__iter__" ⟨[a],[]⟩:=by unfold argsOk;kernel_rfl
theorem zew:mroOf (.type "reversed")=pure [.type "reversed",.type "object"]:=by rw[mroOf_type];kernel_rfl
theorem zd0:jo (.type "reversed") "__new__"=pure (G<|.builtin "reversed.__new__"):=by rw[iM,iB];kernel_rfl
theorem zd8:Slot "reversed" "__init__" "object.__init__" :=
 .of (owner:="object") (n:="__init__") (by rw[iM,iB];kernel_rfl) 52 52 52
  (by first|show .inl (by decide+kernel)|show .inr (by decide+kernel)) (by rw[iQ];kernel_rfl)
theorem called_reversedZ:TypeCalled "reversed" "reversed.__new__" "object.__init__" :=
 ⟨by decide+kernel,by decide+kernel,⟨_,_,zew⟩,madeBy_type zew zd0 52,by decide+kernel,by rw[iQ];kernel_rfl,zd8⟩
theorem typeCall_reversed_1Z(a:Va):checkTypeCall "reversed" ⟨[a],[]⟩=pure ():=by kernel_rfl
theorem newCall_reversed_1Z(a:Va):jy "reversed.__new__" ⟨[.type "reversed",a],[]⟩=pure ():=by kernel_rfl
theorem entry_reversed_newZ:entryFor table "reversed.__new__"=G Builtin.«reversed.__new__»:=entryFor_of_tree (by kernel_rfl)
theorem sub_reversedZ:isSubtype (.type "reversed") (.type "reversed")=pure N:=by rw[iQ];kernel_rfl
theorem sub_revit_reversedZ:isSubtype (.type "list_reverseiterator") (.type "reversed")=pure Fa:=by rw[iQ];kernel_rfl
end PySem.F
namespace L2
section
variable {prog:ik}{w:World}{A:io}{E:Y0}{s:ig}
def IsRev(h:Heap)(it a:Ad)(i:Int):Prop:=h.get? it=G {cls:=.type "list_reverseiterator",data:=.fields #[.ref a,iF i]}
theorem IsRev.typeIs(x:IsRev s.heap it a i):s.TypeIs 035 "list_reverseiterator":=⟨_,x,R⟩
theorem zxp(x:IsRev s.heap it a i)(h:Q 035 s):wpAny 73 A (lf 035) Q E s:=by
 apply wpAny_pyIter_slot x.typeIs F.slot_revit_iter<|i7 F.slot_revit_iter x.typeIs F.entry_revit_iter ?_ (F.args_revit_iter _);change wpAny _ _ (ret 035) _ _ s;show ib ⟨_,R,"list_reverseiterator",_,x.typeIs,F.slot_revit_next.lookup,h⟩
theorem zey(l:Ad)(items:Array Va)(n:Nat)(dct:Option Ad)(sl:Y8):
  Meets (Builtin.«reversed.__new__» ⟨[.type "reversed",.ref l],[]⟩) (λ_ Rq s=>s.heap.get? l=G {cls:=.type "list",dict:=dct,data:=.seq items n,slots:=sl}/\
   Rq (.ok<|.ret 016) {s with heap:=s.heap.push {cls:=.type "list_reverseiterator",data:=.fields #[.ref l,iF<|(items.size:Int)-1]} }) :=
 .of_wp λprog w A Rq s h=>by
  let(hp,g,d,tk,os):=s;let(hl,h):=h;let hsub:=F.sub_reversedZ;let hL:Heap.IsList (Shared.heap ⟨hp,g,d,tk,os⟩) l items:=⟨_,hl,R,n,R⟩;let hT:Shared.TypeIs ⟨hp,g,d,tk,os⟩ (.ref l) "list":=⟨_,hl,R⟩;let hlk:=F.slot_list_reversed.lookup;let hbd:=F.slot_list_reversed.bind<|.ref l
  wp_walk using AutoSeq1.wpAny_loadPart' hl
  apply ja F.slot_list_reversed.plain F.entry_list_reversed<|F.slot_list_reversed.check _ _ _ _ _ _ _ _ hT (F.args_list_reversed_1 _) ?_
  wp_walk using AutoSeq1.wpAny_loadPart' hl
  show⟨_,R,h⟩
theorem zhc(ft:TypeCalled T newId initId)
  (hct:checkTypeCall T ⟨args,[]⟩=pure ()) (hcn:jy newId ⟨.type T::args,[]⟩=pure ())
  (entryN:entryFor table newId=G Bn) (g:Meets (Bn ⟨.type T::args,[]⟩) S) (hno:isSubtype (.type T') (.type T)=pure Fa)
  (h:S A.in1 (wants Q₁ E) s) (hnext:∀obj s₁,Q₁ obj s₁->s₁.TypeIs obj T'/\Q obj s₁) :
  wpAny 73 A (call (.type T) args) Q E s:=by
 let(c,tl,hmro):=ft.mro;let hmade:=ft.made;let hsub:=ft.sub;apply iO<|j6 ?_;change wpAny _ _ (callAny (.type T) _) _ _ _;apply ib ⟨Code.quiet_builtin _ 52,iJ F.entry_type_call ?_⟩;rw[Around.under_plain (weight_type_call_type T args [])<|units_type_call_type T args []];let h1:=ft.notType;let h2:=ft.canCreate
 repeat (any_goals (first|assumption|wp_step))
 apply iA (ja ft.plain entryN<|wpAny_of_eq hcn (g prog w A.in1 _ s h)) λr s₁ hr=>?_;cases r with
 |error e=>show hr
 |ok fl =>
  cases fl with
  |ret obj =>
   let(hT,hq):=hnext _ _ hr
   repeat (any_goals (first|assumption|wp_step))
  |_=>show hr.elim
theorem zjq(y:s.heap.IsList l items)
  (h:∀h',IsRev h' s.heap.objs.size l ((items.size:Int)-1)->(∀b o,s.heap.get? b=G o->h'.get? b=G o)->Q 016 {s with heap:=h'}) :
  wpAny 73 A (call (.type "reversed") [.ref l]) Q E s:=by
 let((c,J,u,f),C,hc,n,hd):=y;replace hc:c=.type "list":=hc;replace hd:u=.seq items n:=hd;subst hc hd;apply zhc (Q₁:=λv s₁=>v=.ref s.heap.objs.size/\s₁={s with heap:=s.heap.push {cls:=.type "list_reverseiterator",data:=.fields #[.ref l,iF<|(items.size:Int)-1]} }) F.called_reversedZ (F.typeCall_reversed_1Z _) (F.newCall_reversed_1Z _) F.entry_reversed_newZ (zey l items n J f) F.sub_revit_reversedZ ⟨C,R,R⟩ ?_;rintro obj s₁ ⟨rfl,rfl⟩;show⟨⟨_,y0h _ R,R⟩,h _ (y0h _ R) λb o e=>y03 _ e⟩
end
def Itv(K:Frag)(a:Ad)(n:Nat):It :=
 ⟨λi H=>i<n/\∃xs x,SqL K H a xs/\xs[n-1-i]?=G x,λi H x H'=>H'=H/\∀xs,SqL K H a xs->xs[n-1-i]?=G x,λi H=>n=i⟩
def iRev(K:Frag)(A:TA):TI:=λσ H Rq=>A σ H λvs H1=>∃a,vs=[.ref a]/\∃xs,SqL K H1 a xs/\Rq (Itv K a xs.length) H1
theorem zjy:iY "reversed"=G (.type "reversed"):=by rfl
open PySem
abbrev Rise(xs:Array Nat):Prop:=xs.toList.Pairwise (· < ·)
structure Tb(led:Bool)(t:SetTable):Prop where
 rise:Rise t.place
 led:t.led=led
 dum:t.dummies=#[]
section
variable {P:ik}{w:World}{T:Type}[DecidableEq T]{knd:KeyKind P w T}{A:io}{E:Y0}{s:ig}{led:Bool}
def SetT(knd:KeyKind P w T)(led:Bool)(h:Heap)(a:Ad)(S:T->Bool)(n:Nat):Prop :=
 ∃o i l t,h.get? a=G o/\o.ExactSet/\o.data=.set i l t/\(ElemsOf knd i.toList/\∀k,S k=N↔∃e∈i.toList,knd.is k e.2=N)/\(i.size<jW/\t.fits i.size=N/\i.size=n)/\Tb led t/\i.toList.Pairwise λx y=>∀k,knd.is k x.2=N->knd.is k y.2=Fa
end
noncomputable def byT(w:World):Bool:=w.params.followText "set-order"
local instance (priority:=10000):BEq Key:=instBEqOfDecidableEq
section
variable {P:ik}{w:World}{A:io}{Rq:Result->ig->Prop}{it:Ad}{fp wr:List Ad}{Gq:Array jq->Array jq->Prop}{n:Nat}{Pv:Nat->Va->Prop}{St:Nat->ig->Prop}
def SetTs(P:ik)(w:World)(h:Heap)(a:Ad)(ks:List Int):Prop:=∃n,n<=ks.length/\SetT (intKind P w) (!byT w) h a (λk=>decide (k∈ks)) n
end
noncomputable def setI(P:ik)(w:World)(a:Ad)(ns:List Int):HO:=.ext λh=>SetTs P w h a ns
def rSortS(P:ik)(w:World):List V->Hp->VK->Prop:=λxs H Q=>∃(p:Ad) (ns:List Int),xs=[.ref p]/\H p=G (setI P w p ns)/\ns.length<64/\∀(ms:List Int),ms.Pairwise (· < ·)->(∀k,k∈ms↔k∈ns)->∀L H',New H L (.lst<|ms.map V.int) H'->Q (.ref L) H'
end L2
namespace SM
open PySem PySem.Spec PyProof.Rows L2 SS
def Rising(l:List Nat):Prop:=l.Pairwise (· < ·)
def comeL(m:Mc)(rs ls:List Nat):List Nat:=(070).filter λk=>rs.any λr=>ls.any λl=>m.go r l==k
theorem zls:Rising (comeL m rs ls):=List.Pairwise.filter _ List.pairwise_lt_range
theorem zx6(h:k∈comeL m rs ls):k<m.n:=y0x.mp (y2e.mp h).1
def put0(l t:Nat):Nat:=l+l/2^t*2^t
def dropT(m:Mc)(t:Nat):Thg:=⟨m.w-1,λrs=>(List.range<|2^(m.w-1)).map λl=>comeL m rs [put0 l t,put0 l t+2^t],λrs=>rs.any m.fin⟩
def DropG(m:Mc)(rs:List Nat):Prop:=Rising rs/\∀r∈rs,r<m.n
theorem zud:((dropT m t).step rs).length=2^(dropT m t).w/\∀u∈(dropT m t).step rs,DropG m u:=by
 apply⟨by simp[dropT],λu U=>?_⟩;let(l,_,rfl):=y0f.mp U;show⟨zls,λk O=>zx6 O⟩
section
variable {S:Type}[DecidableEq S]
theorem simG{m:Mc}{step:S->Nat->S}{fin:S->Bool}{rel:List (Nat×S)}(hs:∀p∈rel,∀l,l<2^m.w->(m.go p.1 l,step p.2 l)∈rel)(j:∀p∈rel,m.fin p.1=fin p.2):∀(row:List Nat) (r:Nat) (s:S),(r,s)∈rel->m.Row row->m.fin (m.run r row)=fin (row.foldl step s)
 |[],r,s,h,_=>j _ h
 |l::row,r,s,h,L=>by
  rw[Mc.run_cons,y2f];show simG hs j row _ _ (hs _ h l<|L l y0c) λx J=>L x<|y08 _ J
def bfs(step:S->Nat->S)(m:Mc):Nat->List (Nat×S)->List (Nat×S)->List (Nat×S)
 |0,_,done=>done
 |_+1,[],done=>done
 |n+1,p::t,done=>if p∈done then bfs step m n t done else bfs step m n ((List.range<|2^m.w).map (λl=>(m.go p.1 l,step p.2 l))++t) (p::done)
def relS(m:Mc)(step:S->Nat->S)(I:S):List (Nat×S):=bfs step m 1000 [(0,I)] []
def chkS(m:Mc)(step:S->Nat->S)(fin:S->Bool)(I:S):Bool :=
 let rel:=relS m step I;decide ((0,I)∈rel)&&rel.all λp=>((List.range<|2^m.w).all λl=>decide ((m.go p.1 l,step p.2 l)∈rel))&&(m.fin p.1==fin p.2)
theorem zux{m:Mc}{step:S->Nat->S}{fin:S->Bool}{I:S}(h:chkS m step fin I=N):(0,I)∈relS m step I/\(∀p∈relS m step I,∀l,l<2^m.w->(m.go p.1 l,step p.2 l)∈relS m step I)/\∀p∈relS m step I,m.fin p.1=fin p.2:=by
 unfold chkS at h;simp only[y05,decide_eq_true_eq,y0s,y0x,beq_iff_eq]at h;show⟨h.1,λp Q l C=>(h.2 p Q).1 l C,λp Q=>(h.2 p Q).2⟩
theorem zct{m:Mc}{step:S->Nat->S}{fin:S->Bool}{I:S}(h:chkS m step fin I=N)(row:List Nat)(L:m.Row row):m.fin 041=fin (row.foldl step I):=by
 let(h0,hs,j):=zux h;show simG hs j row 0 I h0 L
end
def okMB(m:Mc):Bool:=decide (m.w<=4)&&decide (0<m.ends.length)&&decide (m.ends.length<=100)&&decide (m.ways.length=m.ends.length)&&m.ways.all λl=>decide (l.length=2^m.w)&&l.all λr=>decide (r<m.ends.length)
theorem zs8(h:okMB m=N):m.Ok:=by
 unfold okMB at h;simp only[y05,decide_eq_true_eq,y0s]at h;let((((a,b),c),d),e):=h;show⟨a,b,c,d,λl C=>(e l C).1,λl C r L=>(e l C).2 r L⟩
def cstep(ps:List Nat)(cs:List Nat)(c:Nat):List Nat:=List.zipWith (λk a=>min 2<|a+if c/2^k%2==1 then 1 else 0) ps cs
theorem zie(f:Nat->Nat->Nat)(g:Nat->Nat):∀ps:List Nat,List.zipWith f ps (ps.map g)=ps.map λk=>f k (g k)
 |[]=>rfl
 |p::ps=>by rw[y0o,List.zipWith_cons_cons,zie f g ps];rfl
theorem cfold(ps:List Nat):∀(row pre:List Nat),row.foldl (cstep ps) (ps.map λk=>min 2<|fcnt pre k)=ps.map λk=>min 2 (fcnt (pre++row) k)
 |[],pre=>by rw[y1z];rfl
 |c::row,pre=>by
  rw[y2f,show pre++c::row=(pre++[c])++row by simp,←cfold ps row (pre++[c])];congr 1;unfold cstep;rw[zie];apply y1l λk _=>?_;rw[zt8];generalize fcnt pre k=a;split<;>omega
def c0(ps:List Nat):List Nat:=ps.map λ_=>0
def cfin(cs:List Nat):Bool:=cs.all λa=>a==1
theorem cfin_is(ps row:List Nat):cfin (row.foldl (cstep ps)<|c0 ps)=fitP ps row:=by
 let e:c0 ps=ps.map λk=>min 2 (fcnt [] k):=by
  unfold c0;apply y1l λk _=>?_;simp[fcnt]
 rw[e,cfold,y2k];unfold cfin fitP;rw[y23];congr 1;funext k;change(min 2 (fcnt row k)==1)=(fcnt row k==1);generalize fcnt row k=a;rw[y1f,beq_iff_eq,beq_iff_eq];omega
theorem zgv{A Bq:Type}(f:A->Nat->A)(g:Bq->Nat->Bq):∀(row:List Nat) (a:A) (b:Bq),row.foldl (λ(p:A×Bq) l=>(f p.1 l,g p.2 l)) (a,b)=(row.foldl f a,row.foldl g b)
 |[],_,_=>rfl
 |l::row,a,b=>by rw[y2f,zgv f g row];rfl
def chkMet(a b m:Mc):Bool:=chkS m (λ(p:Nat×Nat) l=>(a.go p.1 l,b.go p.2 l)) (λp=>a.fin p.1&&b.fin p.2) (0,0)
theorem zuy(h:chkMet a b m=N)(row:List Nat)(L:m.Row row):m.fin 041=(a.fin (a.run 0 row)&&b.fin (b.run 0 row)):=by
 rw[zct h row L,zgv];rfl
def dstep(a:Mc)(t:Nat)(s:List Nat)(l:Nat):List Nat:=((dropT a t).step s).getD l []
def chkDrop(a:Mc)(t:Nat)(m:Mc):Bool:=chkS m (dstep a t) (dropT a t).fin [0]&&decide ((relS m (dstep a t) [0]).length<=100)&&decide (m.w=a.w-1)
structure DropR(a:Mc)(t:Nat)(Rq:List<|List Nat):Prop where
 hd:[0]∈Rq
 clo:∀s∈Rq,∀u∈(dropT a t).step s,u∈Rq
 few:Rq.length<=100
theorem zib(h:chkDrop a t m=N):m.w=a.w-1/\(∃Rq,DropR a t Rq)/\∀row,m.Row row->m.fin 041=(dropT a t).fin ((dropT a t).run [0] row):=by
 unfold chkDrop at h;simp only[y05,decide_eq_true_eq]at h;let((Y,h2),h3):=h;let(c0,M,_):=zux Y;apply⟨h3,⟨(relS m (dstep a t) [0]).map Prod.snd,y0f.mpr ⟨_,c0,R⟩,λs hs u U=>?_,by rw[y01];show h2⟩,λrow L=>zct Y row L⟩;let(p,Q,rfl):=y0f.mp hs;let(l,C,e):=y1s U;let w:l<2^m.w:=by rw[h3];let:=(zud (m:=a) (t:=t) (rs:=p.2)).1;rw[this]at C;show C
 apply y0f.mpr ⟨_,M p Q l w,?_⟩;change((dropT a t).step p.2).getD l []=u;rw[y02,y00 C,e];rfl
structure Frm(tl:List Str):Prop where
 ok:FrOk tl
 four:∀z∈tl,z.length<=4
def mcost:Sy->Nat
 |.bare _ _ _=>1
 |.neg s=>mcost s+1
 |.two _ s t=>max (mcost s) (mcost t)+1
 |.qu w _ s=>if w="all" then mcost s+4 else mcost s+1
end SM
namespace L2
abbrev Key2:=Key ⊕ List Key
def rIskT(K:Frag):List V->Hp->VK->Prop:=λxs H Q=>∃x T k,xs=[x,.ty T]/\T∈["str","list","tuple","bool","int","dict"]/\(Kd H x k\/k="tuple"/\∃a ys,x=.ref a/\SqT K H a ys)/\Q (.bl<|subT k T) H
end L2
namespace SM
open PySem PySem.Spec PyProof.Rows L2 SS
structure LA where
 p:Ad
 dx:Ad
 pf:Ad
 pn:Ad
 ps:Ad
end SM
namespace L2
section
variable {X:Cx}{pins:Y2}{σ:St}{H:Hp}{s:ig}
open Classical in
theorem Inv.froze(I:02 H s)(q:∀x,X.fn x=N):∃Hq,Adopted X σ H Hq/\HOk X.prog X.w Hq s.heap/\(∀b u,H b=G u->Hq b=G u)/\(∀b,¬CellOf X b->Hq b=H b)/\∀b,CellOf X b->X.s₀.heap.objs.size<=b:=by
 letI Hq:Hp:=λb=>if CellOf X b then(s.heap.get? b).map λo=>.frz o (.own b)else H b
 let q1:∀b,¬CellOf X b->Hq b=H b:=λb n=>Xp n;let q2:∀x c,X.env.cells.lookup x=G c->∃o v,s.heap.get? c=G o/\o.data=.cell v/\Hq c=G 013:=λx c e=>by
  let(v,o,Y,hd):=I.cell x c e;show⟨o,v,Y,hd,by change(if CellOf X c then _ else _)=_;rw[Xq ⟨x,e⟩,Y];rfl⟩
 let r:∀b u,H b=G u->¬CellOf X b:=λb u e ⟨x,z⟩=>by rw[I.freeC x b z]at e;cases e
 let ad:Adopted X σ H Hq:=⟨q1,λb ⟨x,z⟩=>I.freeC x b z,I.ok.inj,λx c e=>by
  let(o,v,Y,hd,T):=q2 x c e;apply⟨o,v,T,hd,λi y M D L=>?_⟩;let(m,E,C):=I.loc;let(u,f,l):=C i x y M D (by rcases L with z|z;show .inr<|.inl z;show .inr<|.inr z);rcases l with⟨z,_⟩|⟨_,c',d,A,w,J⟩
  .rcases L with g|g<;>(rw[z]at g;cases g)
  .rw[e]at d;cases d;rw[Y]at w;cases w;rw[hd]at J;cases J;show⟨u,f,R⟩⟩
 let a:∀b,CellOf X b->X.s₀.heap.objs.size<=b:=λb ⟨x,e⟩=>I.ok.cab x b (q x) e;let up:∀b u,H b=G u->Hq b=G u:=λb u e=>by rw[q1 b<|r b u e];show e
 apply⟨Hq,ad,λb u e=>?_,up,q1,a⟩;by_cases hc:CellOf X b
 .let(x,ex):=hc;let(o,v,Y,hd,T):=q2 x b ex;rw[T]at e;cases e;show⟨Y,o,Y⟩
 .rw[q1 b hc]at e;show(I.hok b u e).stay (λ_ _ _ z=>z) (λc z=>up c _ z) (λc _ _ _ _ z=>up c _ z) λc xs z=>up c _ z
end
section
variable {P:ik}{w:World}{K:Frag}{mg:Y1}{base:Heap}
theorem DfnC.calR{x:Str}{st g:Stmt}{Nq ps:List Str}{k j:Nat}{sp:Sp}{c Y:Ad}{y:Str}{py pr:Pos}(d:DfnC K mg x st ps c Y)(S:FnScope Nq ps 95)(len:∀vs H Q E,sp vs H Q E->vs.length=ps.length)
  (U:defBody st=[g,.Return (G<|.Name y py) pr]) (hj:Nq[j]?=G y) (hv:Vis 95 y) (hdb:(y==("__debug__":Str))=Fa) (hcd:(y==("__classdict__":Str))=Fa)
  (i:∀(f:Ad) (A:io) (outer:List Env) (s:ig) (H:Hp) (vs:List V) (Q:VK) (E:XK),Room k (A.deeper 171)->sp vs H Q E->
   ∃t,PS 102 g t/\
    t {nx:=λσ H'=>∃v,σ[j]?=G 018/\∀Hq,Adopted 102 σ H' Hq->Q v Hq,rt:=λ_ _=>False} 023 H):03 (k+1) x ps sp:=by
 let(f,fd,F,b,m):=d.ex;let(oc,od,kV,doc,pm,an,ct,osl,rfl,lk,hcd'):=F.ex;apply⟨f,_,⟨len,λA outer s H args us vs Q E L e0 hb' r l=>?_⟩,b,F.kp,m⟩;let C:=len _ _ _ _ l;let KX:K.In s.heap:=e0.mod.kin.keeps λb o e=>(042).1;let a:s.heap.NoLimit:=e0.mod.nolimit.keeps λb o e=>(042).1;let cq:∀y∈ps.zip us,(95).names.lookup y.1=G .local\/((95).names.lookup y.1=G .cell/\((iz 051 (95).names []).lookup y.1).isSome=N):=λ⟨n,v⟩ hy=>by
  rcases S.par n (y1y hy).1 with q|q
  .exact .inl q
  .exact .inr ⟨q,PySem.W.cellsFrom_some _ _ _<|.inl q⟩
 apply iS L.depth (KX _ _ lk) R S.co S.gen R (PySem.W.codeRec_of KX hcd')<|hb' _ _ _ _ ?_;apply ji S.kind cq λenv he s1 x1=>?_;subst he;apply⟨a.keeps x1.toInCall.keep,j9 ?_⟩;let(t,ht,T):=i f A outer s H vs Q E (L.deeper _) l;let I:Inv 102 [] 023 H s1:=zgs S L.hd e0 C r x1;let key:wpAny 014 (A.deeper 171) (execs 040 171)
   (λfl s'=>∃u,fl=.ret u/\CE outer P w H s Q u s') (102).xe s1:=by
  rw[U];apply iK<|thn (ht [] s1 023 H _ I T) λfl s2 hs=>?_;cases fl with
  |ret u=>let(_,_,_,_,_,q):=hs;show False.elim q
  |brk=>let(_,_,_,q):=hs;show False.elim q
  |cont=>let(_,_,_,q):=hs;show False.elim q
  |next =>
   let(O,H',J,v,ev,q):=hs;apply iK<|wpAny_Return_some (thn (zhv (X:=cxOf CX0 P w K mg base Nq x 95 f (.ref c) A outer s H E) (pos:=py) hj hv hdb hcd [] s2 O H' (λz Hz=>z=v/\Hz=H') J<|zf9 ev ⟨R,R⟩) λu p ⟨z,Hz,J3,rz,M,D⟩=>?_);subst M D;let(Hq,ad,hok,up,nc,low):=J3.froze λ_=>rfl;let un:=J3.base;let old:∀b o,s.heap.get? b=G o->¬CellOf 102 b:=λb o e hc=>Xa (y0r (y0g e)<|low b hc)<|y1p _;show⟨u,R,z,Hq,J3.os,J3.bare,⟨un.keep,un.slot,λb o e n hx=>by rw[nc b<|old b o e];show un.free b o e n hx,un.there,λb xs e=>up _ _<|un.tups b xs e,λb o u e=>up _ _<|un.frzs b o u e,λb qs ps e=>up _ _<|un.tbls b qs ps e⟩,hok,rz,q Hq ad⟩
 apply ip key (λfl s' hs=>?_) λe s' hs=>hs;let(u,rfl,h):=hs;show h
end
section
variable {X:Cx}{c P:Ad}{qs:Y3}{name qual:Str}{params:iL}{scope:Scope}{pos:Pos}
theorem zv3(hc:X.env.code=.ref c)(C:KCode X.K c P)(l:BltK X.base X.mg)(u:∀p∈scope.names,p.2=.free->X.env.kindOf p.1=G .cell\/X.env.kindOf p.1=G .free)(nd:docOf body=B)
  (Y:(pos,qual)∈qs) (i:∀p∈qs,p.1.line=pos.line->p.1.col=pos.col->p.2=qual) (hd:params.defaults=[]) (O:params.kw_defaults=[]) (g:∀e,annTrees params B e=[]) (a:jZ X.env name name=qual)
  (hN:X.Nq.Nodup) (o:X.Nq[j]?=G name) (J:Loc X.env.scope name) (r:X.fn name=N):PS X 125 130:=by
 intro pins s σ H D I h;let(T,h):=h;rw[exec_def];let d:defaultsOf params X.env=([],[]):=by rw[defaultsOf_eq,hd,O];rfl
 simp only[d,g,a];apply ia<|jb (ia<|iy (ia<|ib (ia<|iy (ib<|iy (ia<|ib ?_)))));apply zm8 I hc C l u nd T Y i λf H' s' w M=>ia<|jb (ia<|jR ?_);show zci w hN o J (v:=.ref f) R (λs2 A=>ib ⟨_,H',A,h f H' M⟩)<|.inl r
theorem ps_dfnC(qual:Str)(hc:X.env.code=.ref c)(C:KCode X.K c P)(l:BltK X.base X.mg)(u:freeOk X.env scope=N)(T:oneOk qs pos qual=N)(hN:X.Nq.Nodup)(o:X.Nq[j]?=G name)(J:Loc X.env.scope name)(r:X.fn name=N)(nd:docOf body=B:=by rfl)
  (hd:params.defaults=[]:=by rfl) (O:params.kw_defaults=[]:=by rfl) (g:∀e,annTrees params B e=[]:=by intro e;rfl) (a:jZ X.env name name=qual:=by rfl) :
  PS X 125 130:=zv3 hc C l (freeOk.of u) nd (oneOk.mem T) (oneOk.one T) hd O g a hN o J r
end
def FnNd(Nq:List Str):Prop:=Nq.Nodup
instance (Nq:List Str):Decidable (FnNd Nq):=inferInstanceAs<|Decidable Nq.Nodup
theorem FnNd.nd(h:FnNd Nq):Nq.Nodup:=h
structure CalF(P:ik)(w:World)(K:Frag)(mg:Y1)(base:Heap)(n:Nat)(f:Ad)(ps:List Str)(sp:Sp):Prop where
 ex:∃fd,FnOk P w K mg base CX0 n f fd ps sp/\Binds K fd ps []/\PySem.W.keepIn K 57=N
theorem Cal.fn{P:ik}{w:World}{K:Frag}{mg:Y1}{base:Heap}{n:Nat}{x:Str}{ps:List Str}{sp:Sp}(C:03 n x ps sp):∃f,CalF P w K mg base n f ps sp/\mg x=G 57:=by
 let(f,fd,F,b,k,m):=C.ex;show⟨f,⟨fd,F,b,k⟩,m⟩
def tCallG(f:Ad)(sp:Sp)(i:Nat)(t:TA):TE:=λσ H Q=>σ[i]?=G (G 57)/\t σ H λvs H1=>sp vs H1 Q E0
theorem zf5{X:Cx}{x:Str}{i k n:Nat}{f:Ad}{ps:List Str}{sp:Sp}{p pos:Pos}{e:Expr}{es:List Expr}{t:TA}(C:CalF X.prog X.w X.K X.mg X.base n f ps sp)(hr:Room k X.A)(hle:n<=k)(g:PA X (e::es) t)(hN:X.Nq[i]?=G x:=by rfl)(hv:Vis X.env.scope x:=by first|show Or.inl rfl|show Or.inr (Or.inl R)|show Or.inr (Or.inr R))
  (hd:82=Fa:=by decide) (hcd:079=Fa:=by decide) (Y:notStar e=N:=by rfl) (h2:es.all notStar=N:=by rfl) :
  PE X 012 (tCallG f sp i t):=by
 intro pins s σ H Q I h;let(fd,F,b,O):=C.ex;let(hs,h):=h;exfalso;let(M,D):=zq;subst M D;cases(show u=Va.ref f from r1);apply PySem.W.callWith_K (h₀:=X.base) I1.ok.mod.kin O (thn (g pos pins s1 σ _ _ I1 h) λus s2 zz=>ex5 zz λvs H2 A r q=>⟨A.kIn,?_⟩) (zar Y)<|za7 h2;show zko F 065 b .nil pass0 A r (by rw[y1z];show q)
def CloHE(P:ik)(w:World)(K:Frag)(mg:Y1)(base:Heap)(k:Nat)(H:Hp)(f:Ad)(n:Nat)(sp:Sp):Prop :=
 ∀(A:io) (outer:List Env) (s:ig) (H':Hp) (us:List Va) (vs:List V) (Q:VK) (E:XK),Room k A->Env0 P w K mg base A outer s H'->Frz H H'->Vals vs us->vs.length=n->sp vs H' Q E->
  iZ 014 A (.call 57 024) (CR (CXE P w) outer P w H' s Q E) s
theorem CloHE.mono{P:ik}{w:World}{K:Frag}{mg:Y1}{base:Heap}{k:Nat}{H H1:Hp}{f:Ad}{n:Nat}{sp:Sp}(c:CloHE P w K mg base k H f n sp)(g:Frz H H1):CloHE P w K mg base k H1 f n sp :=
 λA outer s H' us vs Q E L j D=>c A outer s H' us vs Q E L j<|g.trans D
def EL(cl:Y4)(H:Hp)(E:XK):XK:=λc a H2=>036->E c a (mixL cl H H2)
noncomputable def cxLE(P:ik)(w:World)(K:Frag)(mg:Y1)(base:Heap)(Nq:List Str)(qual:Str)(scope:Scope)(cl:Y4)(f:Ad)(cd:Va)(A:io)(outer:List Env)(s:ig)(H:Hp)(E:XK):Cx :=
 (cxL P w K mg base Nq qual scope cl f cd A outer s H).wish λe s'=>wpAny 014 (A.deeper 169) (jT 169 e) (λ_ g=>CXE P w outer 062 s (EL cl H E) e g) (λl g=>CXE P w outer 062 s (EL cl H E) l g) s'
section
variable {P:ik}{w:World}{K:Frag}{mg:Y1}{base:Heap}{A:io}{outer:List Env}{s:ig}{H:Hp}{own ps cap:List Str}{qual:Str}{scope:Scope}{cl:Y4}{f:Ad}{cd:Va}{vs cv:List V}{us:List Va}
theorem zlc{s':ig}(M:Env0 P w K mg base A outer s H)(D:ClOk cl H)(un:Un (frs outer) [] 062 H2 s.heap s'.heap)(hok:HOk P w H2 s'.heap):
  Un (frs outer) [] H (mixL cl H H2) s.heap s'.heap/\HOk P w (mixL cl H H2) s'.heap/\036/\∀x c,cl.lookup x=G c->∃o,H c=G 013/\s.heap.get? c=G o/\s'.heap.get? c=G o/\∃v,o.data=.cell v:=by
 classical
 let g:∀b,¬InCl cl b->dropL cl H b=H b:=λb n=>Xp n;let I:∀b,¬InCl cl b->mixL cl H H2 b=H2 b:=λb n=>Xp n;let p:∀b,H b=B->¬InCl cl b:=λb e ⟨x,z⟩=>by
  let(o,v,T,_):=D x b z;rw[T]at e;cases e
 let i:∀x c,cl.lookup x=G c->∃o,H c=G 013/\s.heap.get? c=G o/\s'.heap.get? c=G o/\H2 c=B/\∃v,o.data=.cell v:=λx c e=>by
  let(o,v,z,q):=D x c e;let Y:=(M.hok c _ z).1;let C:dropL cl H c=B:=Xq ⟨x,e⟩;let O:c∉frs outer:=λU=>by rw[M.frf c U]at z;cases z
  show⟨o,z,Y,un.keep c o Y C O 05,un.free c o Y C 05,v,q⟩
 let nm:∀b u,H2 b=G u->¬InCl cl b:=λb u e ⟨x,z⟩=>by
  let(_,_,_,_,T,_):=i x b z;rw[T]at e;cases e
 apply⟨⟨λb o e n j J=>un.keep b o e (by rw[g b<|p b n];show n) j J,λb o e n j J=>un.slot b o e (by rw[g b<|p b n];show n) j J,λb o e n J=>by rw[I b<|p b n];show un.free b o e (by rw[g b<|p b n];show n) J,un.there,λb xs e=>?_,λb o a e=>?_,λb qs ps e=>?_⟩,λb u e=>?_,λb ⟨x,z⟩=>(let⟨_,_,_,_,T,_⟩:=i x b z;T),λx c e=>let⟨o,Q,r,d,_,E⟩:=i x c e;⟨o,Q,r,d,E⟩⟩
 .let hc:=zb5 D e λ_ _ y=>nomatch y;rw[I b hc];show un.tups b xs (by rw[g b hc];show e)
 .by_cases hc:InCl cl b
  .change(if InCl cl b then H b else H2 b)=_;rw[Xq hc];show e
  .rw[I b hc];show un.frzs b o a (by rw[g b hc];show e)
 .let hc:=zb5 D e λ_ _ y=>nomatch y;rw[I b hc];show un.tbls b qs ps (by rw[g b hc];show e)
 .by_cases hc:InCl cl b
  .let l:H b=G u:=by rw[←e];show(Xq hc).symm
   let(x,z):=hc;let(o,L,_,T,_):=i x b z;rw[L]at l;cases l;show⟨T,o,T⟩
  .rw[I b hc]at e;show(hok b u e).stay (λ_ _ _ z=>z) (λc z=>by rw[I c<|nm c _ z];show z) (λc _ _ _ _ z=>by rw[I c<|nm c _ z];show z) λc xs z=>by rw[I c<|nm c _ z];show z
theorem zun(j:Env0 P w K mg base A outer s H)(U:ClOk cl H)(h:CXE P w outer 062 s (EL cl H E) e s'):CXE P w outer H s E e s':=by
 classical
 let(a,cls,H2,rfl,os,bare,un,hok,(Q,vs,T,i,ts,O,C,v,y,J,D,d,L,u,c,Y,h2),q):=h;let(r,l,g,p4):=zlc j U un hok;let out:∀b,s.heap.get? b=B->¬InCl cl b:=λb e ⟨x,z⟩=>by
  let(o,_,p,_):=p4 x b z;rw[e]at p;cases p
 let I:∀b,¬InCl cl b->mixL cl H H2 b=H2 b:=λb n=>Xp n;show⟨a,cls,mixL cl H H2,R,os,bare,r,l,⟨Q,vs,T,i,ts,O,C,v,y,J,D,d,L,u,c,(I a<|out a u).trans Y,(I T<|out T c).trans h2⟩,q g⟩
end
section
variable {P:ik}{w:World}{K:Frag}{mg:Y1}{base:Heap}{H:Hp}{own ps cap:List Str}{name qual:Str}{params:iL}{scope:Scope}{cl:Y4}{f c':Ad}{oc:Obj}{ct pm:Va}{cv:List V}{k:Nat}{sp:Sp}
theorem zqx(S:CloScope own ps cap scope)(hlo:ps.length<=own.length)(j:H f=G (fnO 095 f))(M:H c'=G (.frz oc<|.own c'))(co:CodeObj oc qual)
  (U:ClOk cl H) (af:∀p∈scope.names,p.2=.free->∃c,cl.lookup p.1=G c) (inj:∀x y c,cl.lookup x=G c->cl.lookup y=G c->x=y) (hcap:Caps H cl cap cv)
  (a:∀us:List Va,us.length=ps.length->jf 095 024=pure 021)
  (i:∀(A:io) (outer:List Env) (s:ig) (H':Hp) (vs:List V) (Q:VK) (E:XK),Room k 096->Env0 P w K mg base A outer s H'->Frz H H'->ClOk cl H'->vs.length=ps.length->sp vs H' Q E->Rs (cxLE P w K mg base (own++cap) qual scope cl f (.ref c') A outer s H' E) (EL cl H' E)->
   ∃t,PSs (cxLE P w K mg base (own++cap) qual scope cl f (.ref c') A outer s H' E) body t/\t {nx:=λ_ H2=>036->Q .non 047,rt:=λv H2=>036->Q v 047} 077 059):CloHE P w K mg base (k+1) H f ps.length sp:=by
 intro A outer s H' us vs Q E L e0 D r C hsp;let KX:K.In s.heap:=e0.mod.kin.keeps λb o e=>(042).1;let ck:s.heap.NoLimit:=e0.mod.nolimit.keeps λb o e=>(042).1;let Y:=(e0.hok f _<|D _ _ _ j).1;let d0:=(e0.hok c' _<|D _ _ _ M).1;let(ws,t',ki,kh):=co;let kg:us.length=ps.length:=by rw[←r.length];show C
 let g:ClOk cl H':=λx c e=>let⟨o,v,z,d⟩:=U x c e;⟨o,v,D _ _ _ z,d⟩;apply iS L.depth Y R S.co S.gen R ⟨c',oc,ws,t',R,d0,ki,kh⟩ ?_;rw[a us kg];apply ib<|newEnvL S (λy hy=>S.par y.1 (y1y<|show(y.1,y.2)∈ps.zip us from hy).1) λs1 x=>?_;apply⟨ck.keeps x.toInCall.keep,j9 ?_⟩;let(t,ht,T):=i A outer s H' vs Q E (L.deeper _) e0 D g C hsp ⟨R,R,R,λ_ _ h=>h⟩;let I:=zjc (qual:=qual) (f:=f) (cd:=.ref c') S.m L.hd e0 C hlo r g af inj (hcap.frz D) x;rw[zuo S.nocell]at I;apply ip (ht [] _ _ _ _ (I.wish _) T) (λfl s' hs=>?_) λe s' hs=>ip hs (λ_ s'' z=>zun e0 g z) λl s'' z=>zun e0 g z;let hs:=SP.unwish hs;cases fl with
 |ret u =>
  let(v,O,H2,J,rv,q):=hs;show ze3 e0 g (by rw[zuo S.nocell];show J) rv q
 |next =>
  let(O,H2,J,q):=hs;show ze3 (v:=V.non) (u:=Va.none) e0 g (by rw[zuo S.nocell];show J) R q
 |brk =>
  let(_,_,_,q):=hs;show False.elim q
 |cont =>
  let(_,_,_,q):=hs;show False.elim q
end
section
variable {X:Cx}{H H1 H1' Hq:Hp}{σ:St}{name qual:Str}{params:iL}{scope:Scope}{f:Ad}{own ps cap:List Str}{cv:List V}{k:Nat}{sp:Sp}
theorem Made.clo_sE(M:Made X H H1 name qual params (.stmts body) scope f)(g:Same H1 H1')(ad:Adopted X σ H1' Hq)(S:CloScope own ps cap scope)(O:ps.length<=own.length)(d:CapAt X σ cap cv)
  (a:∀(cl:Y4) (ct cd u:Va) (us:List Va),us.length=ps.length->jf (cloFd name qual params (.stmts body) scope cl ct cd u) 024=pure 021)
  (i:∀(cl:Y4) (c':Ad) (A:io) (outer:List Env) (s:ig) (H':Hp) (vs:List V) (Q:VK) (E:XK),Room k 096->Env0 X.prog X.w X.K X.mg X.base A outer s H'->ClOk cl H'->Frz Hq H'->Frz H1' 059->vs.length=ps.length->sp vs H' Q E->Rs (cxLE X.prog X.w X.K X.mg X.base (own++cap) qual scope cl f (.ref c') A outer s H' E) (EL cl H' E)->
   ∃t,PSs (cxLE X.prog X.w X.K X.mg X.base (own++cap) qual scope cl f (.ref c') A outer s H' E) body t/\t {nx:=λ_ H2=>036->Q .non 047,rt:=λv H2=>036->Q v 047} 077 059):CloHE X.prog X.w X.K X.mg X.base (k+1) Hq f ps.length sp:=by
 let(cl,ct,c',oc,u,l1,l2,p,r,q):=M.ex;let U:ClOk cl Hq:=λx c e=>let⟨o,v,I,T,_⟩:=ad.2.2.2 x c<|l1 x c e;⟨o,v,I,T⟩;let up:=ad.up;apply zqx S O (up _ _<|g _ _ q) (up _ _<|g _ _ p) r U l2 (λx y c w D=>ad.2.2.1 x y c (l1 x c w)<|l1 y c D) (zjo ad l1 (λx J=>l2 (x,.free) (mem_of_lookup'<|S.cap x J) R) d) (a cl ct _ u) λA outer s H' vs Q E L j Y z C l Rq=>?_;show i cl c' A outer s H' vs Q E L j z Y (zje ad l1 Y) C l Rq
end
section
variable {X:Cx}
def tCallVE(P:ik)(w:World)(K:Frag)(mg:Y1)(base:Heap)(k n:Nat)(sp:Sp)(E:XK)(i:Nat)(t:TA):TE:=λσ H Q=>∃f fd,σ[i]?=G (G 57)/\H f=G (fnO fd f)/\
 t σ H λvs H1=>H1 f=G (fnO fd f)/\CloHE P w K mg base k H1 f n sp/\vs.length=n/\sp vs H1 Q E
theorem zxx{pins:Y2}{σ:St}{f:Ad}{fd:i5}{H2:Hp}{s2:ig}(A:02 H2 s2)(l:H2 f=G (fnO fd f)):PySem.W.Frag.In [099] s2.heap:=λa o e=>by
 simp only[List.lookup]at e;split at e
 .rename_i q;cases e;rw[beq_iff_eq.mp q];show(A.hok f _ l).1
 .cases e
theorem zsb{x:Str}{i k n:Nat}{sp:Sp}{E:XK}{p pos:Pos}{e:Expr}{es:List Expr}{t:TA}(Rq:Rs X E)(hN:X.Nq[i]?=G x)(hv:Vis X.env.scope x)(L:Room k X.A)(g:PA X (e::es) t)
  (hd:82=Fa:=by decide) (hcd:079=Fa:=by decide) (Y:notStar e=N:=by rfl) (h2:es.all notStar=N:=by rfl) :
  PE X 012 (tCallVE X.prog X.w X.K X.mg X.base k n sp E i t):=by
 intro pins s σ H Q I h;let(f,fd,hs,j,h):=h;exfalso;let(M,D):=zq;subst M D;cases(show u=Va.ref f from r1);apply PySem.W.callWith_K (K:=[099]) (h₀:=s1.heap) (zxx I1 j) (zja f fd) (thn (g pos pins s1 σ H1 _ I1 h) λus s2 ⟨vs,H2,A,r,l,c,C,q⟩=>⟨zxx A l,?_⟩) (zar Y)<|za7 h2;apply iO<|iA (c X.A X.stack s2 H2 us vs Q E L A.env0 (Frz.refl _) r C q) λr s' T=>?_;cases r with
 |error e=>show Rq.xe e s'<|zfe A Rq.ex Rq.st Rq.fr T λ_ _ _ z=>z
 |ok J =>
  cases J with
  |ret u=>show A.after T
  |next=>show False.elim T
  |brk=>show False.elim T
  |cont=>show False.elim T
end
section
variable {P:ik}{w:World}{cl:Y4}
theorem zh9{st:List Env}{H1 H2 Hq:Hp}{h h':Heap}(q1:∀b,¬InCl cl b->Hq b=H1 b)(q0:∀b,InCl cl b->H1 b=B)(M:∀x c,cl.lookup x=G c->∃o v,h.get? c=G o/\o.data=.cell v/\Hq c=G 013)(f:∀b∈frs st,¬InCl cl b)
  (un:Un (frs st) [] Hq H2 h h') (d:HOk P w H2 h'):Un (frs st) [] H1 (dropL cl H2) h h'/\HOk P w (dropL cl H2) h':=by
 classical
 let D:∀x c,cl.lookup x=G c->∃o v,h.get? c=G o/\o.data=.cell v/\H2 c=G 013/\h'.get? c=G o:=λx c e=>by
  let(o,v,Y,hd,T):=M x c e;let z:=un.frzs c o _ T;show⟨o,v,Y,hd,z,(d c _ z).1⟩
 let g:∀b,¬InCl cl b->dropL cl H2 b=H2 b:=λb n=>Xp n;let r:∀b u,H1 b=G u->¬InCl cl b:=λb u e hc=>by rw[q0 b hc]at e;cases e
 let up:∀b u,H1 b=G u->Hq b=G u:=λb u e=>by rw[q1 b<|r b u e];show e
 let i:∀b o u q,CodeObj o q->H2 b=G (.frz o u)->¬InCl cl b:=λb o u q ⟨vs,t,hv,_⟩ e ⟨x,z⟩=>by
  let(A,v,l,hd,p,_):=D x b z;rw[p]at e;cases e;rw[hv]at hd;cases hd
 let nm:∀b u,H2 b=G u->(∀o a,u ≠ .frz o a)->¬InCl cl b:=λb u e n ⟨x,z⟩=>by
  let(o,_,_,_,p,_):=D x b z;rw[p]at e;cases e;show n _ _ R
 apply⟨⟨λb o e n j J=>?_,λb o e n j J=>?_,λb o e n J=>?_,λb o e J=>?_,λb xs e=>?_,λb o a e=>?_,λb qs ps e=>?_⟩,λb u e=>?_⟩
 .by_cases hc:InCl cl b
  .let(x,ex):=hc;let(A,_,l,_,_,z):=D x b ex;rw[e]at l;cases l;show z
  .exact un.keep b o e (by rw[q1 b hc];show n) j J
 .exact un.slot b o e (by rw[q1 b<|f b j];show n) j J
 .by_cases hc:InCl cl b
  .exact Xq hc
  .rw[g b hc];show un.free b o e (by rw[q1 b hc];show n) J
 .exact un.there b o e J
 .rw[g b<|r b _ e];show un.tups b xs<|up b _ e
 .rw[g b<|r b _ e];show un.frzs b o a<|up b _ e
 .rw[g b<|r b _ e];show un.tbls b qs ps<|up b _ e
 .let hc:¬InCl cl b:=λhc=>by
   let:dropL cl H2 b=B:=Xq hc;rw[this]at e;cases e
  rw[g b hc]at e;show(d b u e).stay (λ_ _ _ z=>z) (λc z=>by rw[g c<|nm c _ z λ_ _ y=>nomatch y];show z) (λc o a q co z=>by rw[g c<|i c o a q co z];show z) λc xs z=>by rw[g c<|nm c _ z λ_ _ y=>nomatch y];show z
theorem mix_frz(g:Frz 062 H1):Frz H (mixL cl H H1):=λb o u e=>by
 classical
 change(if InCl cl b then H b else H1 b)=_;by_cases hc:InCl cl b
 .rw[Xq hc];show e
 .rw[Xp hc];show g b o u (by change(if InCl cl b then B else H b)=_;rw[Xp hc];show e)
theorem zue(q0:∀b,InCl cl b->H1 b=B)(g:Same (mixL cl H H1) H2):Same H1 (dropL cl H2):=λb u e=>by
 classical
 let hc:¬InCl cl b:=λhc=>by rw[q0 b hc]at e;cases e
 change(if InCl cl b then B else H2 b)=G u;rw[Xp hc];show g b u (by change(if InCl cl b then H b else H1 b)=G u;rw[Xp hc];show e)
end
def tCallVLE(P:ik)(w:World)(K:Frag)(mg:Y1)(base:Heap)(cl:Y4)(U:Hp)(k n:Nat)(sp:Sp)(E:XK)(i:Nat)(t:TA):TE:=λσ H Q=>∃f fd,σ[i]?=G (G 57)/\H f=G (fnO fd f)/\
 t σ H λvs H1=>(∀b,InCl cl b->H1 b=B)->H1 f=G (fnO fd f)/\CloHE P w K mg base k (mixL cl U H1) f n sp/\vs.length=n/\sp vs (mixL cl U H1) (λv H2=>Q v<|dropL cl H2) λc a H2=>EL cl U E c a<|dropL cl H2
theorem zpw{P:ik}{w:World}{K:Frag}{mg:Y1}{base:Heap}{Nq:List Str}{qual:Str}{scope:Scope}{cl:Y4}{f0:Ad}{cd:Va}{A:io}{outer:List Env}{s0:ig}{H0:Hp}{E:XK}
  {x:Str} {i k n:Nat} {sp:Sp} {p pos:Pos} {e:Expr} {es:List Expr} {t:TA} (e0:Env0 P w K mg base A outer s0 H0) (aa:ClOk cl H0) (Rq:Rs 097<|EL cl H0 E) (hN:Nq[i]?=G x) (hv:Vis scope x)
  (L:Room k (097).A) (g:PA 097 (e::es) t)
  (hd:82=Fa:=by decide) (hcd:079=Fa:=by decide) (Y:notStar e=N:=by rfl) (h2:es.all notStar=N:=by rfl) :
  PE 097 012 (tCallVLE P w K mg base cl H0 k n sp E i t):=by
 classical
 intro pins s σ H Q I h;let(f,fd,hs,j,h):=h;exfalso;let(M,D):=zq;subst M D;cases(show u=Va.ref f from r1);apply PySem.W.callWith_K (K:=[099]) (h₀:=s1.heap) (zxx I1 j) (zja f fd) (thn (g pos pins s1 σ H1 _ I1 h) λus s2 zz=>ex5 zz λvs H2 I2 r q=>?_) (zar Y)<|za7 h2;let un2:Un (frs outer) [] (dropL cl H0) H2 s0.heap s2.heap:=I2.base;let(p1,l,p3,p4):=zlc e0 aa un2 I2.hok;let(hf2,c,C,q):=q p3;apply⟨zxx I2 hf2,?_⟩;let m1:∀b,¬InCl cl b->mixL cl H0 H2 b=H2 b:=λb n=>Xp n;let mz:∀b,InCl cl b->mixL cl H0 H2 b=H0 b:=λb n=>Xq n;let ie:=I2.env0;let dm:∀b∈frs (cxLE P w K mg base Nq qual scope cl f0 cd A outer s0 H0 E).stack,¬InCl cl b:=λb U ⟨x,z⟩=>by
  let(o,a1,a2,_):=p4 x b z;rcases y09.mp (I2.stkSub b U)with w'|w'
  .let a7:b<s0.heap.objs.size:=y0g a2;rw[w']at a7;show y1p _<|show s0.heap.objs.size<s0.heap.objs.size from a7
  .rw[e0.frf b w']at a1;cases a1
 let e0q:Env0 P w K mg base (097).A (097).stack s2 (mixL cl H0 H2):=⟨ie.frames,ie.mod,λb o e=>⟨(ie.bs b o e).1,by
  by_cases hc:InCl cl b
  .rw[mz b hc];show(042).2
  .rw[m1 b hc];show(ie.bs b o e).2⟩,ie.bsz,ie.funs,λb U=>by rw[m1 b<|dm b U];show ie.frf b U,l,ie.bare⟩
 let c1:∀x c,cl.lookup x=G c->∃o v,s2.heap.get? c=G o/\o.data=.cell v/\mixL cl H0 H2 c=G 013:=λx c e=>by
  let(o,a1,a2,a3,v,a4):=p4 x c e;show⟨o,v,a3,a4,by rw[mz c ⟨x,e⟩];show a1⟩
 apply iO<|iA (c _ _ s2 (mixL cl H0 H2) us vs _ _ L e0q (Frz.refl _) r C q) λr s' hq=>?_;cases r with
 |error e =>
  let(a,cls,H3,rfl,os,bare,un,kl,(oe,c8,T,oT,ts,O,t2,t3,y,t5,t6,t7,t8,n1,n2,g1,g2),ee):=hq;let(d1,d2):=zh9 m1 p3 c1 dm un kl;let dn:∀b,H3 b=B->dropL cl H3 b=B:=λb e=>by
   by_cases hc:InCl cl b
   .exact Xq hc
   .exact(Xp hc).trans e
  show Rq.xe _ s'<|zfe (E':=EL cl H0 E) I2 Rq.ex Rq.st Rq.fr ⟨a,cls,dropL cl H3,R,os,bare,d1,d2,⟨oe,c8,T,oT,ts,O,t2,t3,y,t5,t6,t7,t8,n1,n2,dn _ g1,dn _ g2⟩,ee⟩ λ_ _ _ z=>z
 |ok J =>
  cases J with
  |ret u =>
   let(v,H3,os,bare,un,kl,d,qq):=hq;let(d1,d2):=zh9 m1 p3 c1 dm un kl;show I2.after ⟨v,dropL cl H3,os,bare,d1,d2,d,qq⟩
  |next=>show False.elim hq
  |brk=>show False.elim hq
  |cont=>show False.elim hq
def rSortF(P:ik)(w:World):List V->Hp->VK->Prop:=λxs H Q=>∃(p:Ad) (ns F:List Int),xs=[.ref p]/\H p=G (setI P w p ns)/\F.length<64/\(∀k∈ns,k∈F)/\∀(ms:List Int),ms.Pairwise (· < ·)->(∀k,k∈ms↔k∈ns)->∀L H',New H L (.lst<|ms.map V.int) H'->Q (.ref L) H'
open PyProof.Rows.LSm
end L2
namespace SM
open PySem PySem.Spec PyProof.Rows L2 SS
theorem Rep.ts(r:Rep H v s)(g:TupS H H'):Rep H' v s:=by
 induction r with
 |bare O e=>show .bare O<|g _ _ e
 |neg e _ A=>show .neg (g _ _ e) A
 |two O e _ _ y p=>show .two O (g _ _ e) y p
 |qu O e _ A=>show .qu O (g _ _ e) A
theorem ClOk.same{cl:Y4}{H H':Hp}(h:ClOk cl H)(g:Same H H'):ClOk cl H':=λx c e=>let⟨o,v,z,d⟩:=h x c e;⟨o,v,g _ _ z,d⟩
def zod(K:Frag)(c:Ad)(d:Y3)(l:Ad)(e:Y3)(r:Ad)(qm:Y3):Sp:=λvs H Q _=>∃(v:V) (b:Ad) (tl:List Str) (wd n m:Str),vs=[v,.ref b]/\TabOk H c d/\TabOk H l e/\TabOk H r qm/\Rep H v (.bare wd n m)/\H b=G (.lst 010)/\Frm tl/\n∈tl/\m∈tl/\wd∈SM.rowWords/\
 ∀p M H',Same H H'->RepM H' p M->BareM tl wd (tl.idxOf n) (tl.idxOf m) M->Q 42 H'
end SM
namespace SS
open PySem PySem.Spec PyProof.Rows L2
noncomputable abbrev ch(s:Str):List Nat:=s.cps.toList
theorem zzg(a b:Str):ch (a++b)=ch a++ch b:=by
 change(a++b).cps.toList=_;rw[Str.cps_append,Array.toList_append]
theorem zuz(h:ch a=ch b):a=b:=Str.ext'<|Array.toList_inj.mp h
def cutAt(c:Nat):List Nat->List (List Nat)
 |[]=>[[]]
 |x::l=>if x=c then[]::cutAt c l else match cutAt c l with
  |p::r=>(x::p)::r
  |[]=>[[x]]
theorem zjj(c:Nat):∀l,cutAt c l≠[]
 |[]=>by simp[cutAt]
 |x::l=>by
  unfold cutAt;split
  .simp
  .split<;>simp
theorem zcc(h:¬x=c):∃p r,cutAt c l=p::r/\cutAt c (x::l)=(x::p)::r:=by
 cases e:cutAt c l with
 |nil=>show Xa e<|zjj c l
 |cons p r=>show⟨p,r,R,by rw[cutAt,Xp h,e]⟩
def joinAt(z:List Nat):List (List Nat)->List Nat
 |[]=>[]
 |[p]=>p
 |p::q::r=>p++z++joinAt z (q::r)
theorem znj(z:Str):∀l:List Str,ch (Str.join z l)=joinAt (ch z) (l.map ch)
 |[]=>rfl
 |[p]=>rfl
 |p::q::r=>by
  let A:=znj z (q::r);change ch (p++z++Str.join z (q::r))=ch p++ch z++joinAt (ch z) (ch q::r.map ch);rw[zzg,zzg,A];rfl
theorem zup(c:Nat):∀a b:List Nat,cutAt c (a++c::b)=cutAt c a++cutAt c b
 |[],b=>by simp[cutAt]
 |x::a,b=>by
  let A:=zup c a b;by_cases h:x=c
  .rw[y1r,cutAt,Xq h,A,cutAt,Xq h,y1r]
  .let(p,r,M,D):=zcc (l:=a) h;let(E,r',Q,d):=zcc (l:=a++c::b) h;rw[A,M,y1r]at Q;injection Q with q1 q2
   rw[y1r,d,D,←q1,←q2,y1r]
theorem zjh:∀{a:List Nat},c∉a->cutAt c a=[a]
 |[],_=>rfl
 |x::a,h=>by
  let Y:¬x=c:=λe=>h<|e▸y0c;let(p,r,M,D):=zcc (l:=a) Y;rw[zjh λm=>h<|y08 _ m]at M;injection M with q1 q2
  rw[D,←q1,←q2]
theorem zpa(c:Nat):∀parts:List<|List Nat,parts≠[]->(∀p∈parts,c∉p)->cutAt c (joinAt [c] parts)=parts
 |[],h,_=>Xa R h
 |[p],_,h=>zjh<|h p (y0e.mpr R)
 |p::q::r,_,h=>by
  let A:=zpa c (q::r) 05 λa g=>h a<|y08 _ g;change cutAt c (p++[c]++joinAt [c] (q::r))=_;rw[y35,List.singleton_append,zup,A,zjh<|h p y0c];rfl
theorem zvm(x y:Str):Txt.split x y≠[]:=by
 unfold Txt.split;split
 .simp
 .split
  .simp
  .rw[StrLaws.partsBetween_eq];let(p,r,e):=StrLaws.partsFrom_ne x y.length 0<|Builtin.Str.occurrences x y 0 x.length (x.length+1);rw[e];simp
theorem zda(x:Str)(c:Nat):(Txt.split x ⟨#[c]⟩).map ch=cutAt c (ch x):=by
 let h:=znj ⟨#[c]⟩<|Txt.split x ⟨#[c]⟩;rw[StrLaws.join_split]at h;rw[h];apply(zpa c _ (λe=>zvm x ⟨#[c]⟩<|List.map_eq_nil_iff.mp e) λp l=>?_).symm;let(q,a,rfl):=y0f.mp l;show StrLaws.split_free x c q a
theorem split_len(x:Str)(c:Nat):(Txt.split x ⟨#[c]⟩).length=(cutAt c<|ch x).length:=by rw[←zda,y01]
theorem zgw(c:Nat):∀l:List Nat,(cutAt c l).length<=l.length+1
 |[]=>by simp[cutAt]
 |x::l=>by
  let A:=zgw c l;by_cases h:x=c
  .rw[cutAt,Xq h,y0i,y0i];omega
  .let(p,r,M,D):=zcc (l:=l) h;rw[M,y0i]at A;rw[D,y0i,y0i];omega
def each(c:Nat)(z:List Nat)(l:List Nat):List Nat:=l.flatMap λk=>if k=c then z else[k]
theorem zoy(c:Nat)(z:List Nat):∀l,joinAt z (cutAt c l)=each c z l
 |[]=>rfl
 |x::l=>by
  let A:=zoy c z l;by_cases h:x=c
  .rw[cutAt,Xq h];cases e:cutAt c l with
   |nil=>show Xa e<|zjj c l
   |cons p r =>
    change[]++z++joinAt z (p::r)=_;rw[←e,A,y2k];unfold each;rw[y33,Xq h]
  .let(p,r,M,D):=zcc (l:=l) h;rw[D];let L:joinAt z ((x::p)::r)=x::joinAt z (p::r):=by cases r<;>rfl
   rw[L,←M,A];unfold each;rw[y33,Xp h];rfl
theorem zdc(x z:Str)(c:Nat):ch (Txt.replace x ⟨#[c]⟩ z)=each c (ch z) (ch x):=by
 rw[StrLaws.replace_one,znj,zda,zoy]
def padOf(k:Nat):List Nat:=if k=40 then[32,40,32]else if k=41 then[32,41,32]else[k]
def padL(l:List Nat):List Nat:=l.flatMap padOf
theorem zwi(l:List Nat):each 41 [32,41,32] (each 40 [32,40,32] l)=padL l:=by
 unfold each padL;rw[List.flatMap_assoc];apply congrArg (λf=>List.flatMap f l)<|funext λk=>?_;unfold padOf;by_cases Y:k=40
 .rw[Xq Y,Xq Y];rfl
 .rw[Xp Y,Xp Y];by_cases h2:k=41
  .rw[Xq h2];subst h2;rfl
  .rw[Xp h2];simp[h2]
theorem zoj(l:List Nat):(padL l).length<=3*l.length:=by
 induction l with
 |nil=>simp[padL]
 |cons x l A =>
  let:padL (x::l)=padOf x++padL l:=by unfold padL;rw[y33]
  rw[this,y0j,y0i];let:(padOf x).length<=3:=by unfold padOf;split<;>(try split)<;>simp
  omega
theorem zx0(hz:z.length<=3)(l:List Nat):(each c z l).length<=3*l.length:=by
 induction l with
 |nil=>simp[each]
 |cons x l A =>
  let:each c z (x::l)=(if x=c then z else[x])++each c z l:=by unfold each;rw[y33]
  rw[this,y0j,y0i];let:(if x=c then z else[x]).length<=3:=by split<;>simp[*]
  omega
def wordsL(l:List Nat):List (List Nat):=(cutAt 32 l).filter λp=>!p.isEmpty
def wordsT(x:Str):List Str:=(Txt.split (Txt.replace (Txt.replace x "(" " ( ") ")" " ) ") " ").filter λp=>decide (p≠"")
theorem ch_lit1:ch ("(":Str)=[40]/\ch (" ( ":Str)=[32,40,32]/\ch (")":Str)=[41]/\ch (" ) ":Str)=[32,41,32]/\ch (" ":Str)=[32]:=by decide+kernel
theorem lit1:("(":Str)=⟨#[40]⟩/\(")":Str)=⟨#[41]⟩/\(" ":Str)=⟨#[32]⟩:=by decide+kernel
theorem zsk(x:Str):ch (Txt.replace (Txt.replace x "(" " ( ") ")" " ) ")=padL (ch x):=by
 let(_,Y,_,h2,_):=ch_lit1;rw[lit1.1,lit1.2.1,zdc,zdc,Y,h2,zwi]
theorem zj0(x:Str):(wordsT x).map ch=wordsL (padL<|ch x):=by
 unfold wordsT wordsL;rw[lit1.2.2,←zsk,←zda,y3p];apply congrArg (List.map ch)<|y34 λp _=>?_;change decide (p≠"")=!(ch p).isEmpty;by_cases h:p=""
 .subst h;decide+kernel
 .rw[Xg h];cases e:ch p with
  |nil=>show Xa (zuz (a:=p) (b:="")<|by rw[e];decide+kernel) h
  |cons _ _=>rfl
def wdB:Sy->Bool
 |.bare w _ _=>decide (w∈bareWords)
 |.neg s=>wdB s
 |.two w s t=>decide (w∈(["and","or"]:List Str))&&(wdB s&&wdB t)
 |.qu w _ s=>decide (w∈(["some","all"]:List Str))&&wdB s
theorem Rep.wd{H:Hp}{v:V}{s:Sy}(r:Rep H v s):wdB s=N:=by
 induction r with
 |bare O _=>show Xg O
 |neg _ _ A=>show A
 |two O _ _ _ y p=>simp only[wdB,y05];show⟨Xg O,y,p⟩
 |qu O _ _ A=>simp only[wdB,y05];show⟨Xg O,A⟩
theorem zdu:∀{a b:List Str},a.map ch=b.map ch->a=b
 |[],[],_=>rfl
 |[],_::_,h=>by cases h
 |_::_,[],h=>by cases h
 |x::a,y::b,h=>by
  rw[y0o,y0o]at h;injection h with Y h2
  rw[zuz Y,zdu h2]
theorem zbk(z:Str):z.length=(ch z).length:=zma z
end SS
namespace L2
open PySem PySem.Spec PyProof.Rows PySem.W PySem.Calls
def rUpper:V->List V->Hp->VK->Prop:=λx vs H Q=>∃z,x=.str z/\vs=[]/\Builtin.Str.tooLong (Txt.upper z).length=Fa/\Q (.str<|Txt.upper z) H
theorem upT{d:Type}{M:Model}{A:io}{t:Sem d}{Q:d->ig->Prop}{E:Y0}{s:ig}(j:1<=s.toks)(h:wpAny M A t Q E s):wpAny M A t (λa s'=>1<=s'.toks/\Q a s') E s :=
 ip (wpAny_toks_of j h) (λ_ _ z=>z) λ_ _ z=>z.2
def PET(X:Cx)(e:Expr)(t:TE):Prop:=∀(pins:Y2) (s:ig) (σ:St) (H:Hp) (Q:VK),1<=s.toks->02 H s->t σ H Q->wpAny 26 X.A (eval e X.env) 028 X.xe s
def PTT(X:Cx)(e:Expr)(t:TT):Prop:=∀(pins:Y2) (s:ig) (σ:St) (H:Hp) (Q:Bool->Hp->Prop),1<=s.toks->02 H s->t σ H Q->wpAny 26 X.A (isTrue e X.env<|eval e X.env) (TP X pins σ Q) X.xe s
def PWT(X:Cx)(e:Expr)(t:TT):Prop:=∀(f:Sem Va) (pins:Y2) (s:ig) (σ:St) (H:Hp) (Q:Bool->Hp->Prop),1<=s.toks->02 H s->t σ H Q->wpAny 26 X.A (isTrue e X.env f) (TP X pins σ Q) X.xe s
def PAT(X:Cx)(es:List Expr)(t:TA):Prop:=∀(pos:Pos) (pins:Y2) (s:ig) (σ:St) (H:Hp) (Q:List V->Hp->Prop),1<=s.toks->02 H s->t σ H Q->wpAny 26 X.A (spliced 074) (AP X pins σ Q) X.xe s
def PST(X:Cx)(st:Stmt)(t:TS):Prop:=∀(pins:Y2) (s:ig) (σ:St) (H:Hp) (D:Ends),1<=s.toks->02 H s->t D σ H->wpAny 26 X.A (exec st X.env) (SP X pins D) X.xe s
def PSsT(X:Cx)(st:List Stmt)(t:TS):Prop:=∀(pins:Y2) (s:ig) (σ:St) (H:Hp) (D:Ends),1<=s.toks->02 H s->t D σ H->wpAny 26 X.A (execs st X.env) (SP X pins D) X.xe s
section
variable {X:Cx}{a b e:Expr}{es rest:List Expr}{ta tb te:TE}{tA tB':TT}{tu:TA}{pos:Pos}
theorem PE.t(h:PE X e te):PET X e te:=λpins s σ H Q _ I O=>h pins s σ H Q I O
theorem PT.t(h:PT X e tA):PTT X e tA:=λpins s σ H Q _ I O=>h pins s σ H Q I O
theorem PA.t(h:PA X es tu):PAT X es tu:=λq pins s σ H Q _ I O=>h q pins s σ H Q I O
theorem PS.t{st:Stmt}{t:TS}(h:PS X st t):PST X st t:=λpins s σ H D _ I O=>h pins s σ H D I O
theorem PSs.t{st:List Stmt}{t:TS}(h:PSs X st t):PSsT X st t:=λpins s σ H D _ I O=>h pins s σ H D I O
variable {st:Stmt}{sts:List Stmt}{t u:TS}
theorem zbl(Y:PST X st t)(h2:PSsT X sts u):PSsT X (st::sts) (tSeq t u):=λpins s σ H D j I O=>by
 apply iK<|thn (upT j<|Y pins s σ H {D with nx:=u D} j I O) λJ s' z=>?_;let(c,z):=z;cases J with
 |next=>let(f,H',w,d):=z;show h2 pins s' f H' D c w d
 |ret _=>show z
 |brk=>show z
 |cont=>show z
theorem zmr(Y:PST X st t):PSsT X [st] t:=λpins s σ H D j I O=>by
 apply iK<|thn (Y pins s σ H D j I O) λJ s' z=>?_;cases J with
 |next=>show iU z
 |ret _=>show z
 |brk=>show z
 |cont=>show z
theorem zr1(d:PET X e te):PST X (.Return (G e) pos) (tRet te):=λpins s σ H D j I O =>
 wpAny_Return_some (thn (d pins s σ H _ j I O) λv s1 zz=>ex5 zz λx H1 I1 r1 q1=>⟨x,σ,H1,I1,r1,q1⟩)
theorem zys{c:Expr}{x bs:List Stmt}{q:TT}(hc:PTT X c q)(g:PSsT X x t)(U:PSsT X bs u):PST X (.If c x bs pos) (tIfS q t u):=λpins s σ H D j I O=>by
 apply wpAny_If<|thn (upT j<|hc pins s σ H _ j I O) λd s1 ⟨w,H1,I1,q1⟩=>?_;cases d with
 |true=>show g pins s1 σ H1 D w I1 q1
 |false=>show U pins s1 σ H1 D w I1 q1
theorem zi0{i:Nat}{x:Str}{f:Pos}(hN:X.Nq.Nodup)(hi:X.Nq[i]?=G x)(J:Loc X.env.scope x)(d:PET X e te)(hs:ju e (G<|.Name x f) pos.line X.env=pure Fa:=by rfl)
  (j:X.fn x=N\/X.env.scope.names.lookup x=G .local:=by first|show .inl rfl|show .inr rfl|assumption):PST X (.Assign [.Name x f] e pos) (tAsg te<|gName i):=λpins s σ H D Q I O =>
 wpAny_Assign_Name (thn (d pins s σ H _ Q I O) λv s1 zz=>ex5 zz λy H1 I1 r1 q1=>zci I1 hN hi J r1 (λs2 A=>⟨_,H1,A,q1⟩) j) hs
theorem paT_c(g:PET X e te)(L:PAT X es tu)(h:notStar e=N:=by rfl):PAT X (e::es) (tCons te tu):=λq pins s σ H Q j I O=>by
 rw[zar h];change wpAny _ _ (spliced (044::iN q (im es X.env))) _ _ s;apply Calls.spliced_cons<|thn (upT j<|g pins s σ H _ j I O) λv s1 ⟨w,x,H1,I1,r1,q1⟩=>?_;show thn (L q pins s1 σ H1 _ w I1 q1) λus s2 zz=>ex5 zz λxs H2 A T q2=>⟨x::xs,H2,A,.cons r1 T,q2⟩
end
def PEU(X:Cx)(e:Expr)(t:TE):Prop:=∀(pins:Y2) (s:ig) (σ:St) (H:Hp) (Q:VK),02 H s->t σ H Q->wpAny 26 X.A (eval e X.env) (λv s'=>1<=s'.toks/\EP X pins σ Q v s') X.xe s
def PAU(X:Cx)(es:List Expr)(t:TA):Prop:=∀(pos:Pos) (pins:Y2) (s:ig) (σ:St) (H:Hp) (Q:List V->Hp->Prop),02 H s->t σ H Q->wpAny 26 X.A (spliced 074) (λv s'=>1<=s'.toks/\AP X pins σ Q v s') X.xe s
def PSU(X:Cx)(st:Stmt)(t:TS):Prop:=∀(pins:Y2) (s:ig) (σ:St) (H:Hp) (D:Ends),02 H s->t D σ H->wpAny 26 X.A (exec st X.env) (λJ s'=>1<=s'.toks/\SP X pins D J s') X.xe s
section
variable {X:Cx}{a b e:Expr}{es:List Expr}{ta tb te:TE}{tu:TA}{pos:Pos}{st:Stmt}{sts:List Stmt}{t u:TS}
theorem peU_int{i:Int}{k:Nat}:PEU X (.Constant (.int i) k pos) (tC<|.int i):=λpins s σ H Q I O=>wpAny_Constant_int ⟨y3a _ _,.int i,H,I.tok _,⟨_,R⟩,O⟩
theorem zet(g:PEU X e te)(L:PA X es tu)(h:notStar e=N:=by rfl):PAU X (e::es) (tCons te tu):=λq pins s σ H Q I O=>by
 rw[zar h];change wpAny _ _ (spliced (044::iN q (im es X.env))) _ _ s;apply Calls.spliced_cons<|thn (g pins s σ H _ I O) λv s1 ⟨w,x,H1,I1,r1,q1⟩=>?_;show thn (upT w<|L q pins s1 σ H1 _ I1 q1) λus s2 ⟨c,xs,H2,A,T,q2⟩=>⟨c,x::xs,H2,A,.cons r1 T,q2⟩
theorem zk0{L:Operator}{r:R2}(Y:OpR X (iD L) r)(g:PEU X a ta)(U:PE X b tb):PEU X (.BinOp a L b pos) (tOp r ta tb):=λpins s σ H Q I O =>
 wpAny_BinOp (thn (g pins s σ H _ I O) λv s1 ⟨w,x,H1,I1,r1,q1⟩=>thn (upT w<|U pins s1 σ H1 _ I1 q1) λu s2 ⟨c,y,H2,A,T,q2⟩=>upT c<|Y pins s2 σ H2 x y v u Q A r1 T q2)
theorem zv4(Y:PSU X st t)(h2:PSsT X sts u):PSs X (st::sts) (tSeq t u):=λpins s σ H D I O=>by
 apply iK<|thn (Y pins s σ H {D with nx:=u D} I O) λJ s' z=>?_;let(c,z):=z;cases J with
 |next=>let(f,H',w,d):=z;show h2 pins s' f H' D c w d
 |ret _=>show z
 |brk=>show z
 |cont=>show z
end
theorem PSsT.noxT{X:Cx}{st:List Stmt}{t:TS}(h:PSsT X.nox st t):PSsT X st t:=λpins s σ H D j I O=>ip (h pins s σ H D j (I.wish _) O) (λ_ _ q=>q.unwish) λ_ _ z=>False.elim z
structure FnOkT(P:ik)(w:World)(K:Frag)(mg:Y1)(base:Heap)(CX:CXT)(k:Nat)(f:Ad)(fd:i5)(ps:List Str)(sp:Sp):Prop where
 len:∀vs H Q E,sp vs H Q E->vs.length=ps.length
 run:∀(A:io) (outer:List Env) (s:ig) (H:Hp) (args:Args) (us:List Va) (vs:List V) (Q:VK) (E:XK),1<=s.toks->Room k A->Env0 P w K mg base A outer s H->jS s fd args 021->Vals vs us->sp vs H Q E->
  iZ 014 A (.call 57 args) (CR CX outer P w H s Q E) s
theorem zza{CX:CXT}{P:ik}{w:World}{K:Frag}{mg:Y1}{base:Heap}{k:Nat}{f:Ad}{name qual:Str}{params:iL}{body:List Stmt}{scope:Scope}{dV kV doc pm cdv ct oc:Va}{an M:Option Ad}
  {g:Y8} {Nq ps:List Str} {sp:Sp} (lk:K.lookup f=G ⟨oc,M,.func 121,g⟩) (hcd:PySem.W.codeIn K cdv qual=N) (S:FnScope Nq ps scope)
  (len:∀vs H Q E,sp vs H Q E->vs.length=ps.length)
  (i:∀(A:io) (outer:List Env) (s:ig) (H:Hp) (vs:List V) (Q:VK) (E:XK),Room k (A.deeper 172)->sp vs H Q E->
   ∃t,PSsT 098 body t/\t {nx:=λ_ H'=>Q .non H',rt:=Q} 023 H) :
  FnOkT P w K mg base CX (k+1) f 121 ps sp:=by
 apply⟨len,λA outer s H args us vs Q E j L e0 U r l=>?_⟩;let C:=len _ _ _ _ l;let KX:K.In s.heap:=e0.mod.kin.keeps λb o e=>(042).1;let a:s.heap.NoLimit:=e0.mod.nolimit.keeps λb o e=>(042).1;let c:∀y∈ps.zip us,scope.names.lookup y.1=G .local\/(scope.names.lookup y.1=G .cell/\((069).lookup y.1).isSome=N):=λ⟨n,v⟩ p=>by
  rcases S.par n (y1y p).1 with q|q
  .exact .inl q
  .exact .inr ⟨q,PySem.W.cellsFrom_some _ _ _<|.inl q⟩
 apply iS L.depth (KX _ _ lk) R S.co S.gen R (PySem.W.codeRec_of KX hcd)<|U _ _ _ _ ?_;apply thn (upT j<|ji (Q:=λenv s1=>env=iP qual scope s.heap.objs.size f cdv/\j0 s s.heap.objs.size (bindL (172).kindOf 021 λ_=>B) 069 (bindC (172).kindOf 021 λ_=>B) s1) S.kind c λenv d s1 x=>⟨d,by subst d;show x⟩) λenv s1 ⟨z,d,x⟩=>?_;subst d;apply⟨a.keeps x.toInCall.keep,j9 ?_⟩;let(t,HT,T):=i A outer s H vs Q E (L.deeper _) l;let I:Inv 098 [] 023 H s1:=zgs S L.hd e0 C r x;apply ip (HT [] s1 023 H _ z I T) (λD s' hs=>?_) λe s' hs=>hs;let fin:∀{O:St} {H':Hp} {v:V} {u:Va},Inv 098 [] O H' s'->RelV v u->Q v H'->CE outer P w H s Q u s' :=
  λ{O H' v u} J Y q=>⟨v,H',J.os,J.bare,J.base,J.hok,Y,q⟩
 cases D with
 |ret u =>
  let(v,O,H',J,Y,q):=hs;show fin J Y q
 |next =>
  let(O,H',J,q):=hs;show fin (v:=V.non) (u:=Va.none) J R q
 |brk =>
  let(_,_,_,q):=hs;show False.elim q
 |cont =>
  let(_,_,_,q):=hs;show False.elim q
section
variable {P:ik}{w:World}{K:Frag}{mg:Y1}{base:Heap}
theorem Fun.okT{x qual:Str}{st:Stmt}{f:Ad}{fd:i5}{Nq ps:List Str}{k:Nat}{sp:Sp}(F:Fun K x qual st f fd)(S:FnScope Nq ps 95)(len:∀vs H Q E,sp vs H Q E->vs.length=ps.length)
  (i:∀(cdv:Va) (A:io) (outer:List Env) (s:ig) (H:Hp) (vs:List V) (Q:VK) (E:XK),Room k 141->sp vs H Q E->
   ∃t,PSsT (cxOf CX0 P w K mg base Nq qual 95 f cdv A outer s H E).nox 040 t/\t {nx:=λ_ H'=>Q .non H',rt:=Q} 023 H):FnOkT P w K mg base CX0 (k+1) f fd ps sp:=by
 let(oc,T,kV,doc,j,a,cdv,ct,g,rfl,lk,hcd):=F.ex;apply zza lk hcd S len λA outer s H vs Q E L l=>?_;let(t,h,q):=i cdv A outer s H vs Q E L l;show⟨t,h.noxT,q⟩
structure CalT(P:ik)(w:World)(K:Frag)(mg:Y1)(base:Heap)(n:Nat)(x:Str)(ps:List Str)(sp:Sp):Prop where
 ex:∃f fd,FnOkT P w K mg base CX0 n f fd ps sp/\Binds K fd ps []/\PySem.W.keepIn K 57=N/\mg x=G 57
theorem Dfn.calT{x:Str}{st:Stmt}{Nq ps:List Str}{k:Nat}{sp:Sp}(d:Dfn K mg x st ps)(S:FnScope Nq ps 95)(len:∀vs H Q E,sp vs H Q E->vs.length=ps.length)
  (i:∀(f:Ad) (cdv:Va) (A:io) (outer:List Env) (s:ig) (H:Hp) (vs:List V) (Q:VK) (E:XK),Room k 143->sp vs H Q E->
   ∃t,PSsT (cxOf CX0 P w K mg base Nq x 95 f cdv A outer s H E).nox 040 t/\t {nx:=λ_ H'=>Q .non H',rt:=Q} 023 H):CalT P w K mg base (k+1) x ps sp:=by
 let(f,fd,F,b,m):=d.ex;show⟨f,fd,F.okT S len<|i f,b,F.kp,m⟩
end
section
variable {X:Cx}{n k:Nat}{x:Str}{ps:List Str}{sp:Sp}{p pos:Pos}{e:Expr}{es:List Expr}{t:TA}
theorem zsh(C:Cal X.prog X.w X.K X.mg X.base n x ps sp)(hr:Room k X.A)(hle:n<=k)(y:Gl X x)(g:PAT X (e::es) t)(i:82=Fa:=by decide)
  (Y:notStar e=N:=by rfl) (h2:es.all notStar=N:=by rfl):PET X 012 (tCall sp [] E0 t):=λpins s σ H Q j I O=>by
 let(f,fd,F,b,kp,m):=C.ex;apply i4<|zb8 I y m ?_ i;apply PySem.W.callWith_K (h₀:=X.base) I.ok.mod.kin kp (thn (g pos pins s σ H _ j I O) λus s1 zz=>ex5 zz λvs H1 I1 r q=>⟨I1.kIn,?_⟩) (zar Y)<|za7 h2;show zko F 065 b .nil pass0 I1 r q
theorem zsg(C:Cal X.prog X.w X.K X.mg X.base n x ps sp)(hr:Room k X.A)(hle:n<=k)(y:Gl X x)(g:PAU X (e::es) t)(i:82=Fa:=by decide)
  (Y:notStar e=N:=by rfl) (h2:es.all notStar=N:=by rfl):PEU X 012 (tCall sp [] E0 t):=λpins s σ H Q I O=>by
 let(f,fd,F,b,kp,m):=C.ex;apply i4<|zb8 I y m ?_ i;apply PySem.W.callWith_K (h₀:=X.base) I.ok.mod.kin kp (thn (g pos pins s σ H _ I O) λus s1 ⟨w,vs,H1,I1,r,q⟩=>⟨I1.kIn,?_⟩) (zar Y)<|za7 h2;show upT w<|zko F 065 b .nil pass0 I1 r q
theorem zk2(C:CalT X.prog X.w X.K X.mg X.base n x ps sp)(hr:Room k X.A)(hle:n<=k)(y:Gl X x)(g:PAT X (e::es) t)(i:82=Fa:=by decide)
  (Y:notStar e=N:=by rfl) (h2:es.all notStar=N:=by rfl):PET X 012 (tCall sp [] E0 t):=λpins s σ H Q j I O=>by
 let(f,fd,F,b,kp,m):=C.ex;apply i4<|zb8 I y m ?_ i;apply PySem.W.callWith_K (h₀:=X.base) I.ok.mod.kin kp (thn (upT j<|g pos pins s σ H _ j I O) λus s1 ⟨ht1,vs,H1,I1,r,q⟩=>⟨I1.kIn,?_⟩) (zar Y)<|za7 h2;let r2:Vals (vs++[]) (us++[]):=r.append .nil;let hl:(us++[]).length=ps.length:=by rw[←r2.length];show F.len _ _ _ _ q
 apply iO<|iA 176 λres s' z=>?_;cases res with
 |error _=>show z.elim
 |ok J =>
  cases J with
  |ret _=>show I1.after z
  |next=>show z.elim
  |brk=>show z.elim
  |cont=>show z.elim
end
section
variable {X:Cx}{o:Expr}{to:TE}
def tReplace(to:TE)(y z:Str):TE:=λσ H Q=>to σ H λx H1=>∃v,x=.str v/\(y==z)=Fa/\v.length+(v.length+1)*z.length<=16777216/\Q (.str<|Txt.replace v y z) H1
theorem zgn{y z:Str}{k1 k2:Nat}{r l apos cpos:Pos}(Y:PET X o to)
  (c:attributeBase o "replace" X.env (eval o X.env)=eval o X.env:=by rfl) (d:107=N:=by rfl)
  (i:((iN cpos<|im [.Constant (.str y) k1 r,.Constant 94 k2 l] X.env).all (λx=>!x.1)&&(173).all (λx=>x.1.isSome)
   && decide (([.Constant (.str y) k1 r,.Constant 94 k2 l]:List Expr).length+([]:List jN).length+(if([]:List jN).isEmpty then 0 else 1)<30))=N:=by rfl) :
  PET X (.Call (.Attribute o "replace" apos) [.Constant (.str y) k1 r,.Constant 94 k2 l] [] cpos) (tReplace to y z):=λpins s σ H Q j I O=>by
 apply wpAny_Call_method_late c i d R<|thn (upT j<|Y pins s σ H _ j I O) λv s1 ⟨w,x,H1,I1,r1,q1⟩=>?_;let(u,rfl,g,U,q):=q1;let(t0,rfl):=r1;apply⟨"str","str.replace",PySem.F.plainAttrs_str,PySem.F.slot_str_replace,PySem.F.type_str_replace,typeIs_str _ _ _,?_,?_⟩
 .exactλa D=>nomatch D
 .let hs:im [Expr.Constant (.str y) k1 r,Expr.Constant 94 k2 l] X.env=[(Fa,eval (Expr.Constant (.str y) k1 r) X.env),(Fa,eval (Expr.Constant 94 k2 l) X.env)]:=by rw[zar R,zar R,starEach.eq_def]
  rw[hs];apply Calls.callWith_builtin R<|Calls.evalArgs_plain (Calls.spliced_cons<|wpAny_Constant_str (x:=y) (k:=k1) (pos:=r) (Calls.spliced_cons<|wpAny_Constant_str (x:=z) (k:=k2) (pos:=l) (Calls.spliced_nil ?_)));let p:s1.toks≠0:=by omega
  let f:s1.toks+1≠0:=by omega
  let e:s1.toks≠s1.toks+1:=by omega
  show SC.replace p f e g U λt' T=>⟨.str _,H1,(I1.tok _:02 H1 {s1 with toks:=T}),⟨_,R⟩,q⟩
def rSplit:V->List V->Hp->VK->Prop:=λx vs H Q=>∃(z y:Str),x=.str z/\vs=[.str y]/\(y.length==0)=Fa/\z.length<=ii/\(Txt.split z y).length<=100000/\∀p H',New H p (.lst<|(Txt.split z y).map V.str) H'->Q 42 H'
theorem zj1:∀(l:List<|Str×Tok),Vals ((l.map (·.1)).map V.str) (strValues l)
 |[]=>.nil
 |p::l=>.cons ⟨p.2,R⟩<|zj1 l
theorem zoo:MtR X "str.split" rSplit:=by
 intro pins s σ H x xs v us Q I rx rs h;let(z,y,rfl,rfl,L,hz,C,q):=h;let(t,rfl):=rx;let(u,rfl,t',rfl):=vals1 rs;let fin:∀(l:List<|Str×Tok) (T:Nat),l.map (·.1)=Txt.split z y->EP X pins σ Q 016 {s with heap:=s.heap.push {cls:=.type "list",data:=.seq (strValues l).toArray},toks:=T}:=λl T r=>by
  let U:l.length=(Txt.split z y).length:=by rw[←r,y01]
  apply⟨.ref s.heap.objs.size,_,I.laid (o:=.lst<|(Txt.split z y).map V.str) (λb o j=>y03 _ j) 43 ?_,R,q _ _<|.mk' I.fresh _⟩;show⟨by rw[y01];show y0v C 06,strValues l,0,by rw[←r];show zj1 l,y0h _ R⟩
 cases M:(decide (z.length<y.length)||decide (Builtin.Str.strKind z<Builtin.Str.strKind y))
 .cases D:(Builtin.Str.occurrences z y 0 z.length<|z.length+1).isEmpty
  .let d:Txt.split z y=Builtin.Str.partsBetween z (Builtin.Str.occurrences z y 0 z.length<|z.length+1) y.length:=(Xp<|ne_true_of_eq_false M).trans<|Xp (ne_true_of_eq_false D);apply je PySem.F.slot_str_split (typeIs_str _ _ _) PySem.F.entry_str_split (PySem.F.args_str_split_2 _ _) (meets_str_split_sep z y t t' M L D hz<|by rw[←d];show y0v C 06) ?_;change EP X pins σ Q _ {s with toks:=_,heap:=s.heap.push {cls:=.type "list",data:=.seq (strsFrom s.toks<|Builtin.Str.partsBetween z (Builtin.Str.occurrences z y 0 z.length<|z.length+1) y.length).toArray} };rw[strsFrom_eq];show fin (numbered s.toks _) _<|(numbered_texts _ _).trans d.symm
  .exact je PySem.F.slot_str_split (typeIs_str _ _ _) PySem.F.entry_str_split (PySem.F.args_str_split_2 _ _) (meets_str_split_not_found z y t t' M L D)
    (fin [(z,t)] s.toks ((Xp<|ne_true_of_eq_false M).trans<|Xq D).symm)
 .exact je PySem.F.slot_str_split (typeIs_str _ _ _) PySem.F.entry_str_split (PySem.F.args_str_split_2 _ _) (meets_str_split_cannot_occur z y t t' M)<|fin [(z,t)] s.toks (Xq M).symm
theorem zj6:∀{l:List Str} {us:List Va},Vals (l.map V.str) us->∃l':List<|Str×Tok,us=strValues l'/\l'.map (·.1)=l
 |[],_,.nil=>⟨[],R,R⟩
 |x::_,_,.cons ⟨t,e⟩ r=>let⟨l',M,D⟩:=zj6 r;⟨(x,t)::l',by rw[e,M];rfl,by rw[y0o,D]⟩
def rJoin(K:Frag):V->List V->Hp->VK->Prop:=λx vs H Q=>∃(z:Str) (p:Ad) (l:List Str),x=.str z/\vs=[.ref p]/\SqL K H p (l.map V.str)/\JoinOk z l=N/\Q (.str<|Txt.join z l) H
theorem mt_join:MtR X "str.join" (rJoin X.K):=by
 intro pins s σ H x xs v us Q I rx rs h;let(z,p,l,rfl,rfl,J,hok,q):=h;let(t,rfl):=rx;let(u,rfl,f):=vals1 rs;cases(show u=Va.ref p from f);let(its,d,D,_):=I.list J;let(l',rfl,r):=zj6 d;show SC.join D.isList r hok λt' T=>⟨.str _,H,I.tok _,⟨_,R⟩,q⟩
end
theorem zps:jo (.type "list_reverseiterator") "__len__"=pure B:=by rw[iM,iB];kernel_rfl
theorem slot_rev_hint:Slot "list_reverseiterator" "__length_hint__" "list_reverseiterator.__length_hint__" :=
 .of (owner:="list_reverseiterator") (n:="__length_hint__") (by rw[iM,iB];kernel_rfl) 52 52 52
  (by first|show .inl (by decide+kernel)|show .inr (by decide+kernel)) (by rw[iQ];kernel_rfl)
theorem zf8{n:Nat}(h:n<=100000):n<=ii:=y0v h 06
section
variable {K:Frag}{a:Ad}{xs:List V}{tn:List Str}{cp:Y6}{g:TG}{tif:TT}{te:TE}{σ0:St}{H1:Hp}{Q:VK}
theorem zyc(S:St->Prop)(p:V->Bool)(f:V->V)(E:xs.length<=100000)(u:SqL K H1 a xs)(h0:S 056)
  (hs:∀D i σ H x,i<xs.length->x∈xs->xs[i]?=G x->Same H1 H->H1 D=B->H D=G 118->S σ->g x σ H λd H2=>tif d H2 λc H3 =>
   if c=N then te d H3 λy H4=>CStep D xs.length i (PFil S p f xs H1) d y H4 else CSkip D xs.length i (PFil S p f xs H1) d H3)
  (hd:∀D H,H1 D=B->Same H1 H->H D=G (.lst<|(xs.filter p).map f)->Q 71 H):cBody tn cp g tif te σ0 Q (Itl K a) H1:=by
 apply zjn (K:=K) (a:=a) (xs:=xs) (λD i ys σ H=>PFil S p f xs H1 i ys σ H) (zf8 E) (λD I=>⟨zbb I _,h0,R⟩) (λD i ys σ H _ _ _ p=>p.1.seq u) ?_ ?_
 .rintro D i ys σ H x I hi J o C ⟨r,l,rfl⟩;show hs D i σ H x hi (y0q J) J r I o l
 .rintro D ys σ H I o C ⟨r,l,rfl⟩;rw[y0n 43]at o;show hd D H I r o
theorem zyb{S:St->Prop}{p:V->Bool}{f:V->V}{D:Ad}{i:Nat}{x y:V}{d:St}{H4:Hp}(E:xs.length<=100000)(J:xs[i]?=G x)(l:p x=N)(I:H1 D=B)(L:H4 D=G 118)(c:Same H1 H4)(s2:S d)(e:y=f x):
  CStep D xs.length i (PFil S p f xs H1) d y H4:=by
 let hi:i<xs.length:=(y0d.mp J).1;apply cstep (zf8 E) hi L ?_ ⟨c.wr I _,s2,?_⟩
 .rw[y01];let:=y1n p<|xs.take i;rw[y12]at this;omega
 .rw[y14,J,y2o,y0y,e];simp[l]
end
section
variable {X:Cx}{pins:Y2}{σ:St}{H:Hp}{s:ig}
theorem zxq{it a:Ad}{i:Int}{A:io}{E:Y0}{prog:ik}{w:World}{Q:Bool->ig->Prop}(x:IsRev s.heap it a i)(h:Q Fa s):wpAny 73 A (Builtin.List.listLengthHint 035) Q E s:=by
 unfold Builtin.List.listLengthHint;apply ia<|iT x.typeIs zps ?_;change wpAny _ A (specialOf (Va.ref it) (Str.ofString "__length_hint__")>>=_) _ _ _;apply ia<|iT x.typeIs slot_rev_hint.lookup ?_;generalize hid:("list_reverseiterator.__length_hint__":String)=id0
 wp_delta
 rw[show splitId id0=G ("list_reverseiterator","__length_hint__")from by subst hid;decide+kernel];subst hid;apply ia<|jL (T:="list_reverseiterator") (b:=N) x.typeIs (by rw[iQ];kernel_rfl) ?_;apply wpAny_ite_split (λno=>Xa no 06) λ_=>?_;apply wpAny_ite_split (λ_=>?_) λno=>Xa 52 no;show wpAny_ite_split (λno=>Xa no 52) λ_=>ib h
theorem zvw{xs:List V}{its acc:List Va}(d:Vals xs its)(C:acc.length=its.length)(h:∀j v,acc[j]?=G v->its[its.length-1-j]?=G v):Vals xs.reverse acc:=by
 let e:acc=its.reverse:=by
  apply y29 λj=>?_;by_cases o:j<its.length
  .rw[List.getElem?_reverse o,y00 (show j<acc.length by omega),h j _<|y00 _]
  .rw[y0z 01,y0z<|by rw[List.length_reverse];omega]
 rw[e];show d.reverse
theorem zjs{it a:Ad}{xs:List V}{Q:VK}(hc:X.calm=N)(E:xs.length<=100000)(I:02 H s)(hf:FpOk X pins H it)(g:SqL X.K H a xs)(hit:IsRev s.heap it a<|(xs.length:Int)-1)
  (q:∀L H',New H L (.lst xs.reverse) H'->Q (.ref L) H'):wpAny 26 X.A (call (.type "list") [.ref it]) 028 X.xe s:=by
 let(its,d,pl,_):=I.list g;let ag:=d.length;let y:=pl.isList;let ita:a≠it:=λe=>by
  let(o,Y,aa,_):=id y;rw[e,show s.heap.get? it=_ from hit]at Y;cases Y;show Xa aa 05
 let O:s.heap.objs.size∉[it,a]:=λhm=>by
  let J:∀c o,s.heap.get? c=G o->c≠s.heap.objs.size:=λc o e=>y0m<|y0g e;let(o,Y,_):=id y;simp only[y09,y0l,or_false]at hm;rcases hm with e|e
  .exact J _ _ hit e.symm
  .exact J _ _ Y e.symm
 apply callType_codes (Q₁:=λobj s₁=>obj=.ref s.heap.objs.size/\s₁={s with heap:=s.heap.push {cls:=.type "list",data:=.seq #[]} }) F.called_list (F.typeCall_list_1 _) F.entry_list_init
  (code_list_new _ ⟨R,R⟩) λobj s₁ h₁=>?_
 let(rfl,rfl):=h₁;let u:(142).get? s.heap.objs.size=G {cls:=.type "list",data:=.seq #[]}:=y0h _ rfl;let kp:∀c o,s.heap.get? c=G o->(142).get? c=G o:=λc o e=>y03 _ e;let h0:X.s₀.heap.get? s.heap.objs.size=B:=by
  cases e:X.s₀.heap.get? s.heap.objs.size with
  |none=>rfl
  |some o=>show Xa (y0g e)<|Nat.not_lt.mpr I.sz
 let C:FpOk X pins H s.heap.objs.size:=I.fpOk 43 083;generalize s.heap.objs.size=S at *;generalize s.heap.push {cls:=.type "list",data:=.seq #[]}=l at u kp;apply⟨⟨_,u,R⟩,F.args_list_init_2 _ _,?_⟩;change wpAny _ X.A.in1.in1 (do let old ←Builtin.List.listItems (.ref S);Builtin.List.listUpdate (.ref S) (λ_=>#[]);letGo old.toList.reverse;Builtin.List.listExtendWith (.ref S) 035 .none) _ _ _;let z:it≠S:=λe=>O (by simp[e]);let aS:a≠S:=λe=>O (by simp[e]);apply ia ?_;unfold Builtin.List.listItems;apply ia<|iH u R (ib ?_);change wpAny _ X.A.in1.in1 (jX S (λ_=>#[])>>=λ_=>letGo (#[]:Array Va).toList.reverse>>=λ_=>Builtin.List.listExtendWith (.ref S) 035 .none) _ _ _;apply ia<|jm u R ?_;let f:=y1o (Obj.mapSeq λ_=>(#[]:Array Va)) u rfl;let oth:∀b o,b≠S->l.get? b=G o->(l.update S<|Obj.mapSeq (λ_=>(#[]:Array Va))).get? b=G o:=λb o U e=>(y1d _ _<|Ne.symm U).trans e;apply ia<|j4 ?_;generalize l.update S (Obj.mapSeq λ_=>(#[]:Array Va))=h2 at f oth;let keep:∀b o,b≠S->s.heap.get? b=G o->h2.get? b=G o:=λb o U e=>oth b o U<|kp b o e;let T:IsRev h2 it a ((xs.length:Int)-1):=keep _ _ z hit;let hT:Shared.TypeIs {s with heap:=h2} (.ref it) "list_reverseiterator":=⟨_,T,R⟩;unfold Builtin.List.listExtendWith;apply ia<|jA hT ?_;let M:Builtin.List.listSameRef (.ref S) 035=Fa:=by simp[Builtin.List.listSameRef,Ne.symm z]
 let D:(Va.type "list_reverseiterator"==Va.type "list")=Fa:=by decide
 let e3:(Va.type "list_reverseiterator"==Va.type "tuple")=Fa:=by decide
 simp only[M,D,e3,y3h,y1u,if_false];apply ia<|zxp (s:={s with heap:=h2}) T ?_;apply ia<|iy (zxq (s:={s with heap:=h2}) T ?_);apply wpAny_ite_split (λno=>Xa no 52) λ_=>?_;let W:=(Walks.listRev (prog:=X.prog) (w:=X.w) (A:=X.A.in1.in1) 026 it a ita its.toArray).toS;let sz:its.toArray.size=xs.length:=by rw[y07,←ag]
 apply ib ⟨jj F.plain_extend_loop _,codeAny_extend_loopS W (by rw[sz];show zf8 E) S O .none its.toArray.size 0 {s with heap:=h2} #[] _ R (y17 _) ⟨y17 _,⟨_,T,R,?_⟩,?_⟩ f (ItemsOf.nil _) λs' acc' c' hm p x=>?_⟩
 .rw[sz];simp
 .let(o,Y,r):=id y;show⟨o,keep _ _ aS Y,r⟩
 .let fin:∀b o,b∉[S,it]->s.heap.get? b=G o->s'.heap.get? b=G o:=λb o U e=>hm.heap b o U<|keep b o (λq=>U<|by simp[q]) e;let I3:02 H {s with heap:=s'.heap,toks:=s'.toks}:=I.turnedL (L:=[S,it]) fin λb U=>by
   simp only[y09,y0l,or_false]at U;rcases U with rfl|rfl
   .exact C
   .exact hf
  let i:s'={s with heap:=s'.heap,toks:=s'.toks}:=Moved.eq_with (s:={s with heap:=h2}) hm;let rv2:Vals xs.reverse acc'.toList:=zvw d (by rw[y1m,x.1,sz,ag]) λj v e=>by
   let:=x.2 j v (by simpa using e);simpa using this
  rw[i];apply⟨R,.ref S,upd H S<|.lst xs.reverse,I3.take C h0 ⟨by rw[List.length_reverse];show zf8 01,_,c',rv2,?_⟩,R,q S _<|.mk' C.1 _⟩;simpa using p
end
def tListRev(K:Frag)(A:TA):TE:=λσ H Q=>A σ H λvs H1=>∃a xs,vs=[.ref a]/\SqL K H1 a xs/\xs.length<=100000/\∀L H',New H1 L (.lst xs.reverse) H'->Q (.ref L) H'
theorem zk1{X:Cx}{a:Expr}{A:TA}{p l pos i:Pos}(hc:X.calm=N)(o:Gl X "list")(x:X.mg "list"=B)(c:Gl X "reversed")(w:X.mg "reversed"=B)(g:PAT X [a] A)(Y:notStar a=N:=by rfl):
  PET X (.Call (.Name "list" p) [.Call (.Name "reversed" l) [a] [] i] [] pos) (tListRev X.K A):=by
 intro pins s σ H Q j I h;let hs:im [a] X.env=[(Fa,eval a X.env)]:=by rw[zar Y,starEach.eq_def]
 let hz:im [.Call (.Name "reversed" l) [a] [] i] X.env=[(Fa,eval (.Call (.Name "reversed" l) [a] [] i) X.env)]:=by rw[zar R,starEach.eq_def]
 apply Call_<|zc8 I o x boot_list (PyProof.Rows.callWith_type1 ?_ hz R);rw[hz];apply Calls.spliced_cons<|ip (Call_<|zc8 I c w zjy (PyProof.Rows.callWith_type1 (thn (g i pins s σ H _ j I h) λus s1 zz=>ex5 zz λvs H1 I1 r1 q1=>?_) hs R)) (λv s2 T=>Calls.spliced_nil T) λ_ _ e=>e;let(r,xs,e,J,E,q):=q1;subst e;let(u,rfl,f):=vals1 r1;cases(show u=Va.ref r from f);let(its,d,O,_):=I1.list J;let C:=d.length;apply zjq O.isList λh' D k=>?_;apply zjs hc E (I1.kept (t':=s1.toks) k) (I1.fpOk 43<|I1.hok.fresh 43) J ?_ q;let M:(its.toArray.size:Int)-1=(xs.length:Int)-1:=by rw[y07,←C]
 rw[M]at D;show D
theorem zi2{X:Cx}(K:Frag){a:Expr}{A:TA}{p l pos i:Pos}(hc:X.calm=N)(o:Gl X "list")(x:X.mg "list"=B)(c:Gl X "reversed")(w:X.mg "reversed"=B)(g:PAT X [a] A)(h:X.K=K:=by rfl)(Y:notStar a=N:=by rfl):
  PET X (.Call (.Name "list" p) [.Call (.Name "reversed" l) [a] [] i] [] pos) (tListRev K A):=h▸zk1 hc o x c w g Y
theorem zxj{X:Cx}(K:Frag)(h:X.K=K:=by rfl):MtR X "str.join" (rJoin K):=h▸mt_join
end L2
namespace SS
open PySem PySem.Spec PyProof.Rows L2
def SameX(l:Ad)(H H':Hp):Prop:=∀b o,b≠l->H b=G o->H' b=G o
theorem SameX.refl(l:Ad)(H:Hp):SameX l H H:=λ_ _ _ h=>h
theorem SameX.trans{l:Ad}{H H1 H2:Hp}(a:SameX l H H1)(b:SameX l H1 H2):SameX l H H2:=λc o n h=>b c o n<|a c o n h
theorem SameX.of{l:Ad}{H H':Hp}(g:Same H H'):SameX l H H':=λb o _ h=>g b o h
theorem SameX.upd(l:Ad)(H:Hp)(o:HO):SameX l H (upd H l o):=λb u n h=>by rw[zaj n];show h
theorem SameX.same{l:Ad}{U H H':Hp}(g:Same U H)(h0:U l=B)(x:SameX l H H'):Same U H':=λb o e=>x b o (λz=>by rw[z,h0]at e;cases e)<|g b o e
def revW(j:List Str):List V:=j.reverse.map V.str
theorem zkp(w:Str)(j:List Str):revW (w::j)=revW j++[.str w]:=by unfold revW;rw[y3i,y0y];rfl
def zdp:Sp:=λvs H Q _=>∃z:Str,vs=[.str z]/\z.length<=50000/\∀D H',H D=B->Same H H'->H' D=G (.lst<|((Txt.split z " ").filter λp:Str=>decide (p≠"")).map V.str)->Q 71 H'
def zn1:Sp:=λvs H Q _=>∃z:Str,vs=[.str z]/\z.length<=5000/\∀D H',H D=B->Same H H'->H' D=G (.lst<|(wordsT z).map V.str)->Q 71 H'
def zcd:Sp:=λvs H Q _=>∃l:Ad,vs=[.ref l]/\((H l=G (.lst [])/\Q (.str "") H)\/∃(w:Str) (j:List Str),H l=G (.lst<|revW (w::j))/\∀H',SameX l H H'->H' l=G (.lst<|revW j)->Q (.str w) H')
end SS
namespace L2
def mulS(x:Str)(n:Nat):Str:=⟨(List.replicate n x.cps).foldl (· ++ ·) #[]⟩
theorem zxh(x:Str):mulS x 1=x:=Str.ext' (by simp[mulS])
theorem zlk:∀(l:List<|Array Nat) (a:Array Nat),(l.foldl (· ++ ·) a).toList=a.toList++(l.map Array.toList).flatten
 |[],a=>by simp
 |x::l,a=>by rw[y2f,zlk l];simp
theorem ztd(x:Str)(n:Nat):(mulS x n).cps.toList=(List.replicate n x.cps.toList).flatten:=by
 change((List.replicate n x.cps).foldl (· ++ ·) #[]).toList=_;rw[zlk];simp
theorem zxi(x:Str)(n:Nat):(mulS x n).length=n*x.length:=by
 change(mulS x n).cps.size=n*x.cps.size;rw[←y1m,ztd];simp
def rMulS:R2:=λx y H Q=>∃(i:Str) (n:Int),x=.str i/\y=.int n/\0<i.length/\0<=n/\n<=100000/\i.length<=100/\Q (.str<|mulS i n.toNat) H
theorem op_mulS{X:Cx}:OpR X (iD .Mult) rMulS:=by
 infer_instance;let(i,n,rfl,rfl,h0,E,J,C,q):=h;let(t,rfl):=rx;let(t',rfl):=ry;let M:i.length*n.toNat<=100*100000:=y3e C 01;let r1:¬(n < -(2^63:Int)):=by omega
 let T:¬(n>=2^63):=by omega
 apply P.mul_str (by rw[Xf r1,Xf T];rfl) (λY _=>?_) (λ_ _=>?_) ?_
 .let h3:(100:Int)<=(2^63-1)/n:=by
   apply Int.le_ediv_of_mul_le 01 ?_;let:(100:Int)*n<=100*100000:=by omega
   omega
  omega
 .unfold Builtin.Str.tooLong ii;show Xf 01
 .by_cases Y:n<1
  .rw[Xq Y];let j:n.toNat=0:=by omega
   rw[j]at q;show⟨by decide,.str Str.empty,H,I.tok _,⟨_,R⟩,q⟩
  .rw[Xp Y];by_cases h2:n=1
   .rw[Xq<|by rw[h2];rfl];rw[h2]at q;show⟨.str i,H,I,⟨_,R⟩,by rw[show((1:Int)).toNat=1 from rfl,zxh]at q;show q⟩
   .rw[Xp (by
     let d:(n==1)=Fa:=by simp[h2]
     let x:(i.length==0)=Fa:=by simp;omega
     rw[d,x];simp)]
    apply⟨?_,.str<|mulS i n.toNat,H,I.tok _,⟨_,R⟩,q⟩;let:=zxi i n.toNat;change(mulS i n.toNat).length<=ii;rw[this,jc,y3k];omega
def rNeS2(X:Cx):R2:=λx y H Q=>∃c,NeOk X 16 H x y c/\Q (.bl c) H
end L2
set_option maxHeartbeats 2000000
namespace SS
open PySem PySem.Spec PyProof.Rows L2
def parse:Nat->List Str->Option (Sy×List Str)
 |0,_=>B
 |d+1,j =>
  if j.headD ""="not" then(parse d j.tail).map λp=>(.neg p.1,p.2)
  else if j.headD ""∈(["some","all"]:List Str)then(parse d j.tail.tail).map λp=>(.qu (j.headD "") (j.tail.headD "") p.1,p.2)
  else if j.headD ""="(" then
   (parse d j.tail).bind λp=>(parse d p.2.tail).bind λq=>if q.2.headD ""=")" then G (.two (p.2.headD "") p.1 q.1,q.2.tail)else B
  else G (.bare (j.tail.headD "") (j.headD "")<|j.tail.tail.headD "",j.tail.tail.tail)
def goodB(s:Sy):Bool:=wdB s&&wfB s&&decide (s.depth<=12)&&decide (s.parts<=60)
theorem goodB_iff{s:Sy}:goodB s=N↔wdB s=N/\wfB s=N/\s.depth<=12/\s.parts<=60:=by
 unfold goodB;rw[y05,y05,y05,decide_eq_true_eq,decide_eq_true_eq,and_assoc,and_assoc]
def readW(j:List Str):Option Sy:=match parse 12 j with
 |some (s,[])=>if goodB s=N then G s else B
 |_=>B
def loL(c:Nat):Nat:=(Unicode.lowerOf c).headD 0
theorem zdk(c:Nat):∀(l p:List Nat),p∈cutAt c l->p.length<=l.length
 |[],p,h=>by rw[y0e.mp h];show y06 _
 |x::l,p,h=>by
  by_cases J:x=c
  .rw[cutAt,Xq J]at h;rcases y09.mp h with rfl|h
   .exact y17 _
   .let:=zdk c l p h;rw[y0i];omega
  .let(q,r,M,D):=zcc (l:=l) J;rw[D]at h;rcases y09.mp h with rfl|h
   .let:=zdk c l q (by rw[M];show y0c);rw[y0i,y0i];omega
   .let:=zdk c l p (by rw[M];show y08 _ h);rw[y0i];omega
end SS
namespace L2
open PySem PySem.Spec PyProof.Rows PySem.W PySem.Calls
theorem Fun.okET{P:ik}{w:World}{K:Frag}{mg:Y1}{base:Heap}{x qual:Str}{st:Stmt}{f:Ad}{fd:i5}{Nq ps:List Str}{k:Nat}{sp:Sp}(F:Fun K x qual st f fd)(S:FnScope Nq ps 95)(len:∀vs H Q E,sp vs H Q E->vs.length=ps.length)
  (i:∀(cdv:Va) (A:io) (outer:List Env) (s:ig) (H:Hp) (vs:List V) (Q:VK) (E:XK),Room k 141->sp vs H Q E->Rs 123 E->
   ∃t,PSsT 123 040 t/\t {nx:=λ_ H'=>Q .non H',rt:=Q} 023 H):FnOkT P w K mg base (CXE P w) (k+1) f fd ps sp:=by
 let(oc,T,kV,doc,j,a,cdv,ct,g,rfl,lk,hcd):=F.ex;show zza lk hcd S len λA outer s H vs Q E L l=>i cdv A outer s H vs Q E L l ⟨R,R,R,λ_ _ h=>h⟩
structure CalET(P:ik)(w:World)(K:Frag)(mg:Y1)(base:Heap)(n:Nat)(x:Str)(ps:List Str)(sp:Sp):Prop where
 ex:∃f fd,FnOkT P w K mg base (CXE P w) n f fd ps sp/\Binds K fd ps []/\PySem.W.keepIn K 57=N/\mg x=G 57
theorem Dfn.calET{P:ik}{w:World}{K:Frag}{mg:Y1}{base:Heap}{x:Str}{st:Stmt}{Nq ps:List Str}{k:Nat}{sp:Sp}(d:Dfn K mg x st ps)(S:FnScope Nq ps 95)(len:∀vs H Q E,sp vs H Q E->vs.length=ps.length)
  (i:∀(f:Ad) (cdv:Va) (A:io) (outer:List Env) (s:ig) (H:Hp) (vs:List V) (Q:VK) (E:XK),Room k 143->sp vs H Q E->Rs 126 E->
   ∃t,PSsT 126 040 t/\t {nx:=λ_ H'=>Q .non H',rt:=Q} 023 H):CalET P w K mg base (k+1) x ps sp:=by
 let(f,fd,F,b,m):=d.ex;show⟨f,fd,F.okET S len<|i f,b,F.kp,m⟩
section
variable {X:Cx}{pins:Y2}{σ:St}{H:Hp}{s:ig}{k:Nat}{fa:Ad}{fd:i5}{ps:List Str}{sp:Sp}
theorem zxz{c:XK}{Q:VK}{Xe:Y0}{x:Str}{e:Expr}{es:List Expr}{t:TA}{p pos:Pos}(F:FnOkT X.prog X.w X.K X.mg X.base (CXE X.prog X.w) k fa fd ps sp)(L:Room k X.A)(y:Gl X x)(M:X.mg x=G (.ref fa))(O:PySem.W.keepIn X.K (.ref fa)=N)(U:Binds X.K fd ps [])
  (g:PA X.nox (e::es) t) (j:1<=s.toks) (I:02 H s) (h:t σ H λvs H1=>sp vs H1 Q c) (J:∀H1 s1 e s',02 H1 s1->CXE X.prog X.w X.stack H1 s1 c e s'->Xe e s')
  (i:82=Fa:=by decide) (d:im (e::es) X.env=044::im es X.env:=by rfl) (f:(074).any (·.1)=Fa:=by rfl) :
  wpAny 26 X.A (eval 012 X.env) 028 Xe s:=by
 apply i4<|zb8 I y M ?_ i;apply PySem.W.callWith_K (h₀:=X.base) I.ok.mod.kin O (ip (upT j<|g pos pins s σ H _ (I.wish _) h) (λus s1 ⟨w,vs,H1,I1,r,q⟩=>⟨I1.unwish.kIn,?_⟩) λ_ _ z=>False.elim z) d f;let a:=I1.unwish;let C:us.length=ps.length:=by rw[←r.length];show F.len _ _ _ _ q
 apply iO<|iA (F.run X.A X.stack s1 H1 024 us vs Q c w L a.env0 (by have:=U s1 us a.kIn (by rw[y1z];show C);rw[y1z]at this;show this) r q) λr s' T=>?_;cases r with
 |error e=>show J H1 s1 e s' a T
 |ok D =>
  cases D with
  |ret u=>show a.after T
  |next=>show False.elim T
  |brk=>show False.elim T
  |cont=>show False.elim T
theorem zv5{f c n:Str}{j:Nat}{S:Ad}{e:Expr}{es:List Expr}{t:TA}{ts:TS}{np cpos apos cp hpos pos:Pos}{b₀:Stmt}{suite:List Stmt}(F:FnOkT X.prog X.w X.K X.mg X.base (CXE X.prog X.w) k fa fd ps sp)(hr:Room k X.A)(hg:Gl X f)(hm:X.mg f=G (.ref fa))
  (hkp:PySem.W.keepIn X.K (.ref fa)=N) (U:Binds X.K fd ps []) (g:PA X.nox (e::es) t) (hgS:Gl X c) (hmS:X.mg c=G (.ref S)) (kS:KSup X.K S)
  (J:X.ex=[]) (b0:X.stack=X.env::X.outer) (af:X.env.frame=G X.env.locals) (hN:X.Nq.Nodup) (hj:X.Nq[j]?=G n) (x:X.env.scope.names.lookup n=G .local) (hsu:∀a,PSs (X.held a) (b₀::suite) ts)
  (hs:ju (.Call (.Name f np) (e::es) [] cpos) B apos.line X.env=pure Fa:=by rfl) (i:(f==("__debug__":Str))=Fa:=by decide)
  (hdc:(c==("__debug__":Str))=Fa:=by decide) (d:im (e::es) X.env=044::im es X.env:=by rfl) (ap:(iN cpos<|im es X.env).any (·.1)=Fa:=by rfl) :
  PST X 188 (tTryA X.K S sp j t ts):=by
 intro pins s σ H D htk I h;apply wpAny_Try_except<|iK (wpAny_Expr_any (ip (zxz F hr hg hm hkp U g htk I h (Xe:=_) (λH1 s1 ev s' I1 cx=>?_) i d ap) (λv s1 zz=>ex5 zz λy H1 I1 r1 q1=>?_) λ_ _ z=>z) I.quiet hs)
 ·-- an mw
  let(a,cls,H2,rfl,os,bare,un,hok,(oe,vs,T,oT,tts,O,t2,t3,t4,t6,t7,t8,t9,n1,n2,Y,h2),ee):=cx;let(C,rfl,ms,ht):=ee a rfl;let A:02 H2 s':=I1.call' (ch:=[]) os un hok bare λb z=>nomatch z;let nex:∀b,b∉X.ex:=λb z=>by rw[J]at z;cases z
  let s0:∀b,s1.heap.get? b=B->X.s₀.heap.get? b=B:=λb z=>by
   cases q:X.s₀.heap.get? b with
   |none=>rfl
   |some o =>
    let(o',l):=I1.base.there b o q<|nex b;rw[z]at l;cases l
  let pn:∀b,s1.heap.get? b=B->∀p∈X.pn++pins,p.1≠b:=λb z p hp q=>by
   let:=(I1.pin p hp).1;rw[q,z]at this;cases this
  let I3:=A.adopt (o:=excO a 74) Y (s0 a n1) O t3 (pn a n1)<|exc_ok ⟨oe,vs,O,t2,t3⟩;let h2':upd H2 a (excO a 74) T=B:=by rw[zaj t6];show h2
  let I4:=I3.adopt (o:=tbO T) h2' (s0 T n2) t7 t8 (pn T n2)<|tb_ok ⟨oT,tts,t7,t8⟩;apply zw9 (base:=X.base) (outer:=X.outer) (L:=X.env.locals) (T:=T) (by rw[←b0];show I.ok.frames) (by rw[←b0];show A.stack) af O t3 t4 t6 t7 t8 t9 λh'' kk sl tb ⟨oe',c8,E,oT2,fw,u1,u2,u3,u4,u5,u6,u7,u8,u9⟩=>?_;rw[←b0]at kk sl;let ea4:upd (upd H2 a<|excO a 74) T (tbO T) a=G (excO a 74):=by rw[zaj<|Ne.symm t6,zat]
  let I5:=I4.touch (L:=[a,T]) (t':=s'.toks) (h':=h'') (λb o b1 Q q=>kk b o b1 (λz=>Q<|by simp[z]) (λz=>Q<|by simp[z]) q) sl λb U=>by
   simp only[y09,y0l,or_false]at U;rcases U with rfl|rfl
   .exact⟨_,ea4,⟨oe',c8,u1,u2.trans t2,u3⟩,_,u1⟩
   .let(o,w,M,e2):=id tb;show⟨_,zat,tb,o,M⟩
  let T2n:s1.heap.get? E=B:=by
   cases q:s1.heap.get? E with
   |none=>rfl
   |some o =>
    let(o',l):=un.there E o q λz=>nomatch z;rw[u9]at l;cases l
  let T2T:E≠T:=λz=>by rw[z,t7]at u9;cases u9
  let HT2:upd (upd H2 a<|excO a 74) T (tbO T) E=B:=by
   rw[zaj T2T,zaj u5];cases q:H2 E with
   |none=>rfl
   |some o =>
    let(o',l):=zc0<|hok E o q;rw[u9]at l;cases l
  let I6:=I5.adopt (o:=tbO E) HT2 (s0 E T2n) u6 u7 (pn E T2n)<|tb_ok ⟨oT2,fw,u6,u7⟩;generalize eH:upd (upd (upd H2 a<|excO a 74) T<|tbO T) E (tbO E)=H3 at I6;let r:Same H2 H3:=by rw[←eH];show(zbb Y _).trans<|(zbb h2' _).trans (zbb HT2 _)
  let ea3:H3 a=G (excO a 74):=by rw[←eH,zaj<|Ne.symm u5];show ea4
  let eT3:H3 E=G (tbO E):=by rw[←eH];show zat
  apply ztt kS ms<|zb8 (X:=X.held a) (I6.held (a:=a)) hgS hmS ⟨R,I6.kIn,⟨oe',u1,u2.trans t2⟩,?_⟩ hdc;apply ztx I6 u1 u3 u4 u6 u7 (y2z.mp u8).1 eT3 λh7 I7=>?_;apply zci (v:=V.ref a) I7 hN hj (.inl x) R (λs8 I8=>?_)<|.inr x;apply ip (hsu a pins s8 _ H3 _ (I8.held (a:=a))<|ht H3 r ea3) (λfl s9 hp=>?_) λ_ _ z=>False.elim z;cases fl with
  |next =>
   let(gz,H9,I9,(v,hv),q9):=hp;let I9':=I9.unheld I.ok;apply ia<|jR (zci (v:=V.non) I9' hN hj (.inl x) R (λi1 I10=>?_)<|.inr x);unfold unbindBehindTheSuite;apply j3<|zq8 (v:=V.non) I10 hN hj x (y2p<|by rw[I9'.len];show(y0d.mp hj).1) λs11 I11=>?_;rw[List.set_set]at I11;show⟨_,H9,I11,q9⟩
  |brk=>let(_,_,_,z):=hp;show False.elim z
  |cont=>let(_,_,_,z):=hp;show False.elim z
  |ret u=>let(_,_,_,_,_,z):=hp;show False.elim z
 .exact iU<|iU ⟨_,H1,I1,q1⟩
end
theorem zr0{X:Cx}{k m:Nat}{f c n:Str}{j:Nat}{S:Ad}{ps:List Str}{sp:Sp}{e:Expr}{es:List Expr}{t:TA}{ts:TS}{np cpos apos cp hpos pos:Pos}{b₀:Stmt}{suite:List Stmt}(C:CalET X.prog X.w X.K X.mg X.base m f ps sp)(hr:Room k X.A)(hle:m<=k)(y:Gl X f)
  (g:PA X.nox (e::es) t) (q:Gl X c) (r:X.mg c=G (.ref S)) (s:KSup X.K S) (J:X.ex=[]) (l:X.stack=X.env::X.outer) (u:X.env.frame=G X.env.locals) (hN:X.Nq.Nodup) (o:X.Nq[j]?=G n)
  (x:X.env.scope.names.lookup n=G .local) (p:∀a,PSs (X.held a) (b₀::suite) ts)
  (hs:ju (.Call (.Name f np) (e::es) [] cpos) B apos.line X.env=pure Fa:=by rfl) (i:(f==("__debug__":Str))=Fa:=by decide)
  (d:(c==("__debug__":Str))=Fa:=by decide) (Y:notStar e=N:=by rfl) (h2:es.all notStar=N:=by rfl) :
  PST X 188 (tTryA X.K S sp j t ts):=by
 let(z,fd,F,b,kp,I):=C.ex;show zv5 F 065 y I kp b g q r s J l u hN o x p hs i d (zar Y)<|za7 h2
section
variable {X:Cx}{a b e:Expr}{es rest:List Expr}{ta tb te:TE}{tA tB':TT}{tu:TA}{pos:Pos}
theorem zv1{L:CmpOp}{r:R2}(Y:OpR X (iw L) r)(g:PET X a ta)(U:PET X b tb)(M:jz L b=Fa):PTT X (.Compare a [L] [b] pos) (tTest<|tOp r ta tb):=λpins s σ H Q j I h=>by
 apply wpAny_isTrue_Compare1 (thn (upT j<|g pins s σ H _ j I h) λv s1 ⟨w,x,H1,I1,r1,q1⟩=>thn (U pins s1 σ H1 _ w I1 q1) λu s2 zz=>ex5 zz λy H2 A T q2 =>
  thn (Y pins s2 σ H2 x y v u _ A r1 T q2) λc p zz=>ex5 zz λz H3 q C d=>?_) M
 let(k,e,q3):=zpd d;subst e;cases C;show iC ⟨H3,q,q3⟩
theorem peU_opR{L:Operator}{r:R2}(Y:OpR X (iD L) r)(g:PE X a ta)(U:PEU X b tb):PEU X (.BinOp a L b pos) (tOp r ta tb):=λpins s σ H Q I O =>
 wpAny_BinOp (thn (g pins s σ H _ I O) λv s1 zz=>ex5 zz λx H1 I1 r1 q1=>thn (U pins s1 σ H1 _ I1 q1) λu s2 ⟨c,y,H2,A,T,q2⟩=>upT c<|Y pins s2 σ H2 x y v u Q A r1 T q2)
theorem zkz{n k:Nat}{x:Str}{ps:List Str}{sp:Sp}{p:Pos}(C:CalT X.prog X.w X.K X.mg X.base n x ps sp)(hr:Room k X.A)(hle:n<=k)(y:Gl X x)(g:PAU X (e::es) tu)(i:82=Fa:=by decide)
  (Y:notStar e=N:=by rfl) (h2:es.all notStar=N:=by rfl):PE X 012 (tCall sp [] E0 tu):=λpins s σ H Q I O=>by
 let(f,fd,F,b,kp,m):=C.ex;apply i4<|zb8 I y m ?_ i;apply PySem.W.callWith_K (h₀:=X.base) I.ok.mod.kin kp (thn (g pos pins s σ H _ I O) λus s1 ⟨ht1,vs,H1,I1,r,q⟩=>⟨I1.kIn,?_⟩) (zar Y)<|za7 h2;let r2:Vals (vs++[]) (us++[]):=r.append .nil;let hl:(us++[]).length=ps.length:=by rw[←r2.length];show F.len _ _ _ _ q
 apply iO<|iA 176 λres s' z=>?_;cases res with
 |error _=>show z.elim
 |ok J =>
  cases J with
  |ret _=>show I1.after z
  |next=>show z.elim
  |brk=>show z.elim
  |cont=>show z.elim
end
def rLower:V->List V->Hp->VK->Prop:=λx vs H Q=>∃z,x=.str z/\vs=[]/\Builtin.Str.tooLong (Txt.lower z).length=Fa/\Q (.str<|Txt.lower z) H
section
variable {P:ik}{w:World}{K:Frag}{mg:Y1}{base:Heap}
theorem CalE.mono{j k:Nat}{x:Str}{ps:List Str}{sp:Sp}(c:CalE P w K mg base j x ps sp)(h:j<=k):CalE P w K mg base k x ps sp:=by
 let(f,fd,F,r):=c.ex;show⟨f,fd,F.mono h,r⟩
theorem Dfn.neverE{x:Str}{st:Stmt}{ps:List Str}{sp:Sp}(d:Dfn K mg x st ps)(g:∀vs H Q E,¬sp vs H Q E):CalE P w K mg base 0 x ps sp:=by
 let(f,fd,F,b,m):=d.ex;show⟨f,fd,⟨λvs H Q E h=>Xa h<|g vs H Q E,λA outer s H args us vs Q E _ _ _ _ h=>Xa h<|g vs H Q E⟩,b,F.kp,m⟩
end
end L2
namespace SS
open PySem PySem.Spec PyProof.Rows L2
inductive RepU(H:Hp):V->Sy->Prop where
 |bare {a:Ad} {w n m:Str} (hw:w.length<=1000) (hn:n.length<=1000) (hm:m.length<=1000) (e:H a=G (.tup [.str w,.str n,.str m])):RepU H (.ref a)<|.bare w n m
 |neg {a:Ad} {x:V} {s:Sy} (e:H a=G (.tup [.str "not",x])) (h:RepU H x s):RepU H (.ref a)<|.neg s
 |two {a:Ad} {w:Str} {x y:V} {s t:Sy} (hw:w.length<=1000) (e:H a=G (.tup [.str w,x,y])) (h1:RepU H x s) (h2:RepU H y t):RepU H (.ref a)<|.two w s t
 |qu {a:Ad} {w n:Str} {x:V} {s:Sy} (hw:w.length<=1000) (hn:n.length<=1000) (e:H a=G (.tup [.str w,.str n,x])) (h:RepU H x s):RepU H (.ref a)<|.qu w n s
theorem RepU.same{H H':Hp}{v:V}{s:Sy}(r:RepU H v s)(g:Same H H'):RepU H' v s:=by
 induction r with
 |bare Y h2 h3 e=>show .bare Y h2 h3<|g _ _ e
 |neg e _ A=>show .neg (g _ _ e) A
 |two O e _ _ y p=>show .two O (g _ _ e) y p
 |qu O E e _ A=>show .qu O E (g _ _ e) A
theorem RepU.sameX{l:Ad}{H H':Hp}{v:V}{s:Sy}{j:List V}(r:RepU H v s)(C:H l=G (.lst j))(g:SameX l H H'):RepU H' v s:=by
 let J:∀{a xs},H a=G 011->H' a=G 011:=λ{a xs} e=>g a _ (λz=>by rw[z,C]at e;cases e) e
 induction r with
 |bare Y h2 h3 e=>show .bare Y h2 h3<|J e
 |neg e _ A=>show .neg (J e) A
 |two O e _ _ y p=>show .two O (J e) y p
 |qu O E e _ A=>show .qu O E (J e) A
theorem RepU.exp{H:Hp}{v:V}{s:Sy}(r:RepU H v s):∀n,Exp H n v:=by
 induction r with
 |bare Y h2 h3 e =>
  intro n;cases n with
  |zero=>show Thing.tup e
  |succ n =>
   apply Exp.tup e 05 λx J=>?_;simp only[y09,y0l,or_false]at J;rcases J with rfl|rfl|rfl
   .exact Exp.str Y n
   .exact Exp.str h2 n
   .exact Exp.str h3 n
 |neg e _ A =>
  intro n;cases n with
  |zero=>show Thing.tup e
  |succ n =>
   apply Exp.tup e 05 λx J=>?_;simp only[y09,y0l,or_false]at J;rcases J with rfl|rfl
   .exact Exp.str 52 n
   .exact A n
 |two O e _ _ y p =>
  intro n;cases n with
  |zero=>show Thing.tup e
  |succ n =>
   apply Exp.tup e 05 λx J=>?_;simp only[y09,y0l,or_false]at J;rcases J with rfl|rfl|rfl
   .exact Exp.str O n
   .exact y n
   .exact p n
 |qu O E e _ A =>
  intro n;cases n with
  |zero=>show Thing.tup e
  |succ n =>
   apply Exp.tup e 05 λx J=>?_;simp only[y09,y0l,or_false]at J;rcases J with rfl|rfl|rfl
   .exact Exp.str O n
   .exact Exp.str E n
   .exact A n
theorem RepU.rep{H:Hp}{v:V}{s:Sy}(r:RepU H v s):wdB s=N->Rep H v s:=by
 induction r with
 |bare Y h2 h3 e=>intro h;show .bare (of_decide_eq_true h) e
 |neg e _ A=>intro h;show .neg e<|A h
 |two O e _ _ y p=>intro h;simp only[wdB,y05,decide_eq_true_eq]at h;show .two h.1 e (y h.2.1)<|p h.2.2
 |qu O E e _ A=>intro h;simp only[wdB,y05,decide_eq_true_eq]at h;show .qu h.1 e<|A h.2
theorem RepU.det{H:Hp}{v:V}{s s':Sy}(r:RepU H v s)(r':Rep H v s'):s=s':=by
 induction r generalizing s' with
 |bare Y h2 h3 e =>
  cases r' with
  |bare _ l=>rw[e]at l;cases l;rfl
  |neg l _=>rw[e]at l;cases l
  |two _ l Y _=>rw[e]at l;cases l;cases Y
  |qu _ l h=>rw[e]at l;cases l;cases h
 |neg e h A =>
  cases r' with
  |bare _ l=>rw[e]at l;cases l
  |neg l h'=>rw[e]at l;cases l;rw[A h']
  |two _ l _ _=>rw[e]at l;cases l
  |qu _ l _=>rw[e]at l;cases l
 |two O e Y h2 y p =>
  cases r' with
  |bare _ l=>rw[e]at l;cases l;cases Y
  |neg l _=>rw[e]at l;cases l
  |two _ l d a=>rw[e]at l;cases l;rw[y d,p a]
  |qu _ l _=>rw[e]at l;cases l;cases Y
 |qu O E e h A =>
  cases r' with
  |bare _ l=>rw[e]at l;cases l;cases h
  |neg l _=>rw[e]at l;cases l
  |two _ l d _=>rw[e]at l;cases l;cases d
  |qu _ l h'=>rw[e]at l;cases l;rw[A h']
theorem zpt{j:List Str}(h:parse 12 j=B):readW j=B:=by
 unfold readW;rw[h]
def zej(C:Ad)(n:Nat):Sp:=λvs H Q E=>∃(l:Ad) (j:List Str) (d:Nat),vs=[.ref l,.int d]/\d<n/\H l=G (.lst<|revW j)/\(∀z∈j,z.length<=1000)/\
 (∀s rest,parse d j=G (s,rest)->∀v H',SameX l H H'->H' l=G (.lst<|revW rest)->(∀z∈rest,z.length<=1000)->RepU H' v s->Q v H')/\(parse d j=B->∀a H',SameX l H H'->H' a=B->E 74 97 H')
def pairOf(d:Nat)(j:List Str):Option (Sy×List Str):=(parse d j).bind λp=>(parse d p.2.tail).bind λq=>if q.2.headD ""=")" then G (.two (p.2.headD "") p.1 q.1,q.2.tail)else B
def zfk(C:Ad)(n:Nat):Sp:=λvs H Q E=>∃(l:Ad) (j:List Str) (d:Nat),vs=[.ref l,.int d]/\d<n/\H l=G (.lst<|revW j)/\(∀z∈j,z.length<=1000)/\
 (∀s rest,pairOf d j=G (s,rest)->∀v H',SameX l H H'->H' l=G (.lst<|revW rest)->(∀z∈rest,z.length<=1000)->RepU H' v s->Q v H')/\(pairOf d j=B->∀a H',SameX l H H'->H' a=B->E 74 97 H')
theorem zb2{H:Hp}{Q:VK}{E:XK}{l:Ad}{j:List Str}(C:H l=G (.lst<|revW j))(q:∀H',SameX l H H'->H' l=G (.lst<|revW j.tail)->Q (.str<|j.headD "") H'):zcd [.ref l] H Q E:=by
 cases j with
 |nil=>show⟨l,R,.inl ⟨C,q H (SameX.refl _ _) C⟩⟩
 |cons w r=>show⟨l,R,.inr ⟨w,r,C,λH' x e=>q H' x e⟩⟩
theorem zba{j:List Str}(h:∀z∈j,z.length<=1000):∀z∈j.tail,z.length<=1000:=λz hz=>h z<|List.mem_of_mem_tail hz
theorem zca{j:List Str}(h:∀z∈j,z.length<=1000):(j.headD "").length<=1000:=by
 cases j with
 |nil=>decide+kernel
 |cons w r=>show h w y0c
def zih(C:Ad):Sp:=λvs H Q E=>∃v:V,vs=[v]/\
 ((∃z:Str,v=.str z/\z.length<=5000/\(∀x∈wordsT z,x.length<=1000)/\(∀s,readW (wordsT z)=G s->∀u H',Same H H'->Rep H' u s->Q u H')/\(readW (wordsT z)=B->∀a H',Same H H'->H' a=B->E 74 97 H'))\/
  ∃k,Kd H v k/\subT k "str"=Fa/\∀a H',Same H H'->H' a=B->E 74 97 H')
end SS
namespace SM
def pre(m:Mc)(k r l:Nat):Nat:=((List.range l).map λl'=>cnt m k<|m.go r l').sum
end SM
namespace L2
def tLz(t:TS):TS:=t
def tIfZ(c:TT)(t u:TS):TS:=λD σ H=>∀r,r=t->c σ H λb H1=>if b=N then tLz r D σ H1 else u D σ H1
def tIfY(c:TT)(t u:TS):TS:=λD σ H=>∀r,r=u->c σ H λb H1=>if b=N then t D σ H1 else tLz r D σ H1
def tIfX(c:TT)(t u:TS):TS:=λD σ H=>∀r,r=t->∀r',r'=u->c σ H λb H1=>if b=N then tLz r D σ H1 else tLz r' D σ H1
def tSeqZ(t u:TS):TS:=λD σ H=>∀r,r=u->t {D with nx:=tLz r D} σ H
def tCutZ(t u:TS):TS:=λD σ H=>∀r,r=u->∃Pv:St->Hp->Prop,t {D with nx:=Pv} σ H/\∀O H',Pv O H'->tLz r D O H'
theorem itN{A Bq:Prop}(h:Bq):asB (.bl N) λc=>if(!c)=N then A else Bq:=(Xp 06:(if(!N)=N then A else Bq)=Bq)▸h
theorem itM{A Bq:Prop}(h:A):asB (.bl Fa) λc=>if(!c)=N then A else Bq:=(Xq rfl:(if(!Fa)=N then A else Bq)=A)▸h
theorem itO{A Bq:Prop}(h:Bq):asB (.bl Fa) λc=>if c=N then A else Bq:=(Xp 06:(if Fa=N then A else Bq)=Bq)▸h
theorem itB{A Bq:Prop}(h:A):asB (.bl N) λc=>if c=N then A else Bq:=(Xq rfl:(if N=N then A else Bq)=A)▸h
def as1(xs:List V)(k:V->Prop):Prop:=match xs with
 |[x]=>k x
 |_=>False
theorem as1_l{x:V}{k:V->Prop}:as1 [x] k=k x:=rfl
theorem as1_ex{xs:List V}{k:V->Prop}(h:as1 xs k):∃x,xs=[x]/\k x:=by
 match xs,h with
 |[x],h=>show⟨x,R,h⟩
theorem zvb{xs:List V}{k:Ad->Prop}(h:as1 xs λx=>asR x k):∃p,xs=[.ref p]/\k p:=by
 let(x,rfl,h):=as1_ex h;let(p,rfl,h):=zc9 h;show⟨p,R,h⟩
section
variable {X:Cx}
theorem CallR.weak{f:Va}{r r':List V->Hp->VK->Prop}(c:CallR X f r)(h:∀xs H Q,r' xs H Q->r xs H Q):CallR X f r':=λpins s σ H xs us Q I v q=>c pins s σ H xs us Q I v<|h _ _ _ q
theorem OpR.weak{f:Va->Va->Sem Va}{r r':R2}(c:OpR X f r)(h:∀x y H Q,r' x y H Q->r x y H Q):OpR X f r':=λpins s σ H x y v u Q I rx ry q=>c pins s σ H x y v u Q I rx ry<|h _ _ _ _ q
def rEqZ:R2:=λx y H Q=>match x,y with
 |.int a,.int b=>Q (.bl<|decide (a=b)) H
 |.str a,.str b=>Q (.bl<|decide (a=b)) H
 |x,y=>scal x y=N/\Q (.bl<|decide (x=y)) H
def rNeZ:R2:=λx y H Q=>match x,y with
 |.int a,.int b=>Q (.bl<|!decide (a=b)) H
 |.str a,.str b=>Q (.bl<|!decide (a=b)) H
 |x,y=>scal x y=N/\Q (.bl<|!decide (x=y)) H
theorem dec_i(a b:Int):decide (V.int a=V.int b)=decide (a=b):=decide_eq_decide.mpr ⟨λh=>V.int.inj h,λh=>congrArg _ h⟩
theorem dec_s(a b:Str):decide (V.str a=V.str b)=decide (a=b):=decide_eq_decide.mpr ⟨λh=>V.str.inj h,λh=>congrArg _ h⟩
theorem zmq{a b:Int}{H:Hp}{Q:VK}:rEqZ (.int a) (.int b) H Q=Q (.bl<|decide (a=b)) H:=rfl
theorem zmp{a b:Str}{H:Hp}{Q:VK}:rEqZ (.str a) (.str b) H Q=Q (.bl<|decide (a=b)) H:=rfl
theorem zmo{a b:Int}{H:Hp}{Q:VK}:rNeZ (.int a) (.int b) H Q=Q (.bl<|!decide (a=b)) H:=rfl
theorem zmn{a b:Str}{H:Hp}{Q:VK}:rNeZ (.str a) (.str b) H Q=Q (.bl<|!decide (a=b)) H:=rfl
theorem rEqZ_eq{x y:V}{H:Hp}{Q:VK}:rEqZ x y H Q=(scal x y=N/\Q (.bl<|decide (x=y)) H):=by
 cases x<;>cases y<;>first|rfl|(rw[zmq,dec_i];show propext ⟨λh=>⟨R,h⟩,λh=>h.2⟩)|(rw[zmp,dec_s];show propext ⟨λh=>⟨R,h⟩,λh=>h.2⟩)
theorem rNeZ_eq{x y:V}{H:Hp}{Q:VK}:rNeZ x y H Q=(scal x y=N/\Q (.bl<|!decide (x=y)) H):=by
 cases x<;>cases y<;>first|rfl|(rw[zmo,dec_i];show propext ⟨λh=>⟨R,h⟩,λh=>h.2⟩)|(rw[zmn,dec_s];show propext ⟨λh=>⟨R,h⟩,λh=>h.2⟩)
theorem zbn:OpR X (iw .Eq) rEqZ:=op_eq.weak λ_ _ _ _ h=>rEqZ_eq.mp h
theorem zsm:OpR X (iw .NotEq) rNeZ:=op_ne.weak λ_ _ _ _ h=>rNeZ_eq.mp h
variable (K:Frag)
def rLenZ:List V->Hp->VK->Prop:=λxs H Q=>as1 xs λx=>asR x λp=>∃ys,(SqL K H p ys\/SqT K H p ys)/\Q (.int<|List.length ys) H
theorem zaz(h:X.K=K:=by rfl):CallR X 076 (rLenZ K):=(zju K h).weak λ_ _ _ h=>let⟨p,e,ys,h⟩:=zvb h;⟨p,ys,e,h⟩
def rListOfZ:List V->Hp->VK->Prop:=λxs H Q=>as1 xs λx=>asR x λp=>∃ys,(SqL K H p ys\/SqT K H p ys)/\∀l H',New H l 75 H'->Q (.ref l) H'
def rAllZ:List V->Hp->VK->Prop:=λxs H Q=>as1 xs λx=>asR x λp=>∃bs:List Bool,SqL K H p 067/\Q (.bl<|bs.all id) H
theorem zch(hc:X.calm=N)(h:X.K=K:=by rfl):CallR X (.builtin "all") (rAllZ K):=(zl1 K hc h).weak λ_ _ _ h=>let⟨p,e,ys,h⟩:=zvb h;⟨p,ys,e,h⟩
def rInZ(neg:Bool):R2:=λx y H Q=>asR y λp=>∃xs,(SqL K H p xs\/SqT K H p xs)/\flatV x=N/\xs.all flatV=N/\Q (.bl<|if neg then !inV x xs else inV x xs) H
theorem zk5(h:X.K=K:=by rfl):OpR X (iw .In) (rInZ K Fa):=(zpz K h).weak λ_ _ _ _ h=>let⟨p,e,ys,h⟩:=zc9 h;⟨p,ys,e,h⟩
theorem zsl(h:X.K=K:=by rfl):OpR X (iw .NotIn) (rInZ K N):=(zi3 K h).weak λ_ _ _ _ h=>let⟨p,e,ys,h⟩:=zc9 h;⟨p,ys,e,h⟩
def rSlLZ:V->Option Int->Option Int->Hp->VK->Prop:=λx lo hi H Q=>asR x λa=>∃xs,SqL K H a xs/\∀p H',New H p (.lst<|cutL xs lo hi) H'->Q 42 H'
theorem zf4(h:X.K=K:=by rfl):SlR X (rSlLZ K):=λpins s σ H x v M vu lo hi f Q I r hs D Y q=>zrq K h pins s σ H x v M vu lo hi f Q I r hs D Y (let⟨p,e,ys,h⟩:=zc9 q;⟨p,ys,e,h⟩)
def rSlTZ:V->Option Int->Option Int->Hp->VK->Prop:=λx lo hi H Q=>asR x λa=>∃xs,SqT K H a xs/\¬183/\∀p H',New H p (.tup<|cutL xs lo hi) H'->Q 42 H'
theorem zmf(h:X.K=K:=by rfl):SlR X (rSlTZ K):=λpins s σ H x v M vu lo hi f Q I r hs D Y q=>zvp K h pins s σ H x v M vu lo hi f Q I r hs D Y (let⟨p,e,ys,h⟩:=zc9 q;⟨p,ys,e,h⟩)
variable {K}
def rAppZ:V->List V->Hp->VK->Prop:=λx vs H Q=>as1 vs λy=>asR x λl=>∃xs,H l=G 99/\xs.length<ii/\Q .non (upd H l<|.lst (xs++[y]))
theorem zbe:MtM X "list.append" rAppZ:=λpins s σ H x xs v us Q I r rs h=>zla pins s σ H x xs v us Q I r rs (let⟨y,e,h⟩:=as1_ex h;let⟨l,c,xs,h⟩:=zc9 h;⟨l,xs,y,c,e,h⟩)
def rCatZ:R2:=λx y H Q=>asR x λl=>asR y λb=>∃xs,H l=G 99/\∃w,H b=G (.lst w)/\xs.length+w.length<=ii/\∀p H',New H p (.lst<|xs++w) H'->Q 42 H'
theorem zbt:OpR X (iD .Add) rCatZ:=op_catN.weak λ_ _ _ _ h=>let⟨l,e,h⟩:=zc9 h;let⟨b,c,xs,Y,w,h⟩:=zc9 h;⟨l,b,xs,w,e,c,Y,h⟩
def rIskZ:List V->Hp->VK->Prop:=λxs H Q=>match xs with
 |[x,.ty T]=>∃k,Kd H x k/\T∈["str","list","tuple","bool","int","dict"]/\Q (.bl<|subT k T) H
 |_=>False
theorem zrw{x:V}{T:String}{H:Hp}{Q:VK}:rIskZ [x,.ty T] H Q=∃k,Kd H x k/\T∈["str","list","tuple","bool","int","dict"]/\Q (.bl<|subT k T) H:=rfl
theorem zbr:CallR X 080 rIskZ:=call_isk.weak λxs H Q h=>by
 match xs,h with
 |[x,.ty T],⟨k,h⟩=>show⟨x,T,k,R,h⟩
def rLeSZ:R2:=λx y H Q=>asS x λi=>asS y λj=>Q (.bl<|!(decide (j.cps.toList<i.cps.toList))) H
end
section
variable {X:Cx}
def rNeF(K:Frag):R2:=λx y H Q=>∃(a b:Ad) (xs ys:List V),x=.ref a/\y=.ref b/\SqL K H a xs/\SqL K H b ys/\xs.all flatV=N/\ys.all flatV=N/\Q (.bl<|!(xs.length==ys.length&&(052).all λj=>eqV (xs.getD j .non)<|ys.getD j .non)) H
theorem op_neF(U:X.A.units+8<cLine):OpR X (iw .NotEq) (rNeF X.K):=by
 infer_instance;let(a,b,xs,ys,rfl,rfl,Y,h2,f1,f,q):=h;cases(show v=Va.ref a from rx);cases(show u=Va.ref b from ry);let(us,r1,r,_):=I.list Y;let(vs,T,l,_):=I.list h2;let l1:=r1.length;let l2:=T.length;let d:X.A.units<cLine:=by omega
 by_cases C:us.length=vs.length
 .let z:=SeqAt.RcNeAt.lists (A:=X.A) (s:=s) (e:=λj=>eqV (xs.getD j .non)<|ys.getD j .non) r.isList l.isList (by rw[y07,y07];show C) d λj Y h2=>by
   rw[y07]at Y h2;let(g1,q1):=r1.at Y;let(c,q2):=T.at h2;let M:xs.getD j .non=xs[j]:=by rw[y02,y00 g1];rfl
   let D:ys.getD j .non=ys[j]:=by rw[y02,y00 c];rfl
   rw[M,D];apply zlo (by simpa using q1) (by simpa using q2) ?_ ?_
   .exact y0s.mp f1 _<|y0b g1
   .exact y0s.mp f _<|y0b c
  rw[show(081)=N by simp;omega,y1c]at q;rw[y07,←l1]at z;show z _ _ _ _ ⟨.bl<|!((052).all λj=>eqV (xs.getD j .non)<|ys.getD j .non),H,I,R,q⟩
 .let z:=SeqAt.RcNeAt.lists_lengths (A:=X.A) (s:=s) r.isList l.isList (by rw[y07,y07];simpa using C) d;rw[show(081)=Fa by simp;omega,y1b]at q;show z _ _ _ _ ⟨.bl N,H,I,R,q⟩
theorem zmu(K:Frag)(U:X.A.units+8<cLine)(h:X.K=K:=by rfl):OpR X (iw .NotEq) (rNeF K):=h▸op_neF U
end
theorem zsf{X:Cx}{n k:Nat}{x:Str}{ps:List Str}{sp:Sp}{p pos:Pos}(C:Cal X.prog X.w X.K X.mg X.base n x ps sp)(hr:Room k X.A)(hle:n<=k)(y:Gl X x)(i:82=Fa:=by decide):PE X (.Call (.Name x p) [] [] pos) (tCall sp [] E0 tNil):=by
 let(f,fd,F,b,kp,m):=C.ex;show zwg F 065 y m kp b .nil pass0 i
section
variable {X:Cx}
def rStarts:V->List V->Hp->VK->Prop:=λx vs H Q=>∃(z y:Str),x=.str z/\vs=[.str y]/\Q (.bl<|Txt.startswith z y) H
theorem zte:MtR X "str.startswith" rStarts:=by
 intro pins s σ H x xs v us Q I rx rs h;let(z,y,rfl,rfl,q):=h;let(t,rfl):=rx;let(u,rfl,t',rfl):=vals1 rs;show SC.startswith ⟨.bl _,H,I,R,q⟩
def rIntT:List V->Hp->VK->Prop:=λxs H Q=>∃(z:Str) (n:Int),xs=[.str z]/\PySem.intText? z=G n/\z.length<=640/\Q (.int n) H
theorem zjv:CallR X (.type "int") rIntT:=by
 intro pins s σ H xs us Q I r h;let(z,n,rfl,E,C,q):=h;let(u,rfl,t,rfl):=vals1 r;show PySem.W.KIN.call_text E C ⟨.int n,H,I.tok _,⟨_,R⟩,q⟩
def tJoin:List TE->Str->TE
 |[],out=>λ_ H Q=>Q (.str out) H
 |t::ts,out=>λσ H Q=>t σ H λv H1=>∃y,v=.str y/\(out++y).length<=ii/\tJoin ts (out++y) σ H1 Q
inductive PJs(X:Cx):List Expr->List TE->Prop
 |nil:PJs X [] []
 |cons {e:Expr} {es:List Expr} {t:TE} {ts:List TE} (h:PE X e t) (r:PJs X es ts):PJs X (e::es) (t::ts)
theorem PJs.go{i:List Expr}{ts:List TE}(h:PJs X i ts):∀(out:Str) (pins:Y2) (s:ig) (σ:St) (H:Hp) (Q:VK),out.length<=ii->02 H s->tJoin ts out σ H Q->wpAny 26 X.A (joinParts out<|evalEach i X.env) 028 X.xe s:=by
 induction h with
 |nil=>showλout pins s σ H Q hz I q=>joinParts_nil ⟨.str out,H,I.tok _,⟨_,R⟩,q⟩ hz
 |cons h r A =>
  intro out pins s σ H Q hz I q;apply joinParts_cons<|thn (h pins s σ H _ I q) λu s1 z=>?_;let(v,H1,I1,d,y,rfl,C,q1):=z;let(t,rfl):=d;show⟨C,A _ pins s1 σ H1 Q C I1 q1⟩
theorem zr9{c a:Expr}{rest:List Expr}{ts:List TE}{pos:Pos}(h:PJs X (c::a::rest) ts):PE X (.JoinedStr (c::a::rest) pos) (tJoin ts Str.empty):=λpins s σ H Q I q=>JoinedStr_many<|h.go Str.empty pins s σ H Q 06 I q
def tFmt(t:TE):TE:=λσ H Q=>t σ H λv H1=>∃x,v=.str x/\x.length<=ii/\Q (.str x) H1
theorem zoh{g:Expr}{t:TE}{pos:Pos}(h:PE X g t):PE X (.FormattedValue g (-1) B pos) (tFmt t):=λpins s σ H Q I q=>FormattedValue_plain (thn (h pins s σ H _ I q) λu s1 z=>by
 let(v,H1,I1,d,x,rfl,C,q1):=z;let(t,rfl):=d;show formatField_str (λt' f=>⟨.str x,H1,(I1.tok _:02 H1 {s1 with toks:=f}),⟨_,R⟩,q1⟩) C)
end
theorem itB0{A Bq:Prop}(h:Bq):asB (.bl Fa) λc=>if c=N then A else Bq:=(Xp 06:(if Fa=N then A else Bq)=Bq)▸h
theorem itN0{A Bq:Prop}(h:A):asB (.bl Fa) λc=>if(!c)=N then A else Bq:=(Xq rfl:(if(!Fa)=N then A else Bq)=A)▸h
theorem zcz{X:Cx}{E:XK}{n k:Nat}{x:Str}{ps:List Str}{sp:Sp}{p pos:Pos}{e:Expr}{es:List Expr}{t:TA}(Rq:Rs X E)(C:CalET X.prog X.w X.K X.mg X.base n x ps sp)(hr:Room k X.A)(hle:n<=k)(y:Gl X x)(g:PAT X (e::es) t)(i:82=Fa:=by decide)
  (Y:notStar e=N:=by rfl) (h2:es.all notStar=N:=by rfl):PET X 012 (tCall sp [] E t):=λpins s σ H Q j I O=>by
 let(f,fd,F,b,kp,m):=C.ex;apply i4<|zb8 I y m ?_ i;apply PySem.W.callWith_K (h₀:=X.base) I.ok.mod.kin kp (thn (upT j<|g pos pins s σ H _ j I O) λus s1 ⟨w,vs,H1,I1,r,q⟩=>⟨I1.kIn,?_⟩) (zar Y)<|za7 h2;let T:Vals (vs++[]) (us++[]):=r.append .nil;let a:(us++[]).length=ps.length:=by rw[←T.length];show F.len _ _ _ _ q
 apply iO<|iA (F.run X.A X.stack s1 H1 024 (us++[]) (vs++[]) Q E w 065 I1.env0 (b s1 us I1.kIn a) T q) λres s' z=>?_;cases res with
 |error l=>show Rq.passes (λ_ _ _ h=>h) pins σ H1 s1 l s' I1 z
 |ok J =>
  cases J with
  |ret _=>show I1.after z
  |next=>show z.elim
  |brk=>show z.elim
  |cont=>show z.elim
end L2
namespace SM
def codeP(ps u:List Nat):Option (List Bool):=if ps.any (λk=>decide (2<=fcnt u k))=N then B else G (ps.map λk=>fcnt u k==1)
theorem zl2:∀n,(bools n).length=2^n
 |0=>rfl
 |n+1=>by
  change((bools n).flatMap λl=>[Fa::l,N::l]).length=_;rw[List.length_flatMap,show(bools n).map (λl=>[Fa::l,N::l].length)=(bools n).map λ_=>2 from rfl,List.map_const',y3x,zl2 n,Nat.pow_succ]
theorem zus(ps u:List Nat):codeP ps u∈B::(bools ps.length).map G:=by
 unfold codeP;split
 .exact y0c
 .exact y08 _<|List.mem_map_of_mem (by simpa using zg1 (ps.map λk=>fcnt u k==1))
theorem zut{ps u v:List Nat}(e:codeP ps u=codeP ps v)(x:List Nat):fitP ps (u++x)=fitP ps (v++x):=by
 unfold codeP at e;split at e
 .rename_i h;split at e
  .rename_i h';rw[ze1 h,ze1 h']
  .cases e
 .rename_i h;split at e
  .cases e
  .rename_i h';let e:=List.map_inj_left.mp<|Option.some.inj e;let f:∀{u:List Nat},¬ps.any (λk=>decide (2<=fcnt u k))=N->∀k∈ps,fcnt u k<2:=λh k O=>Nat.lt_of_not_le λz=>h<|y2a.mpr ⟨k,O,Xg z⟩;unfold fitP;rw[y1f,y0s,y0s];let J:∀k∈ps,fcnt u k=fcnt v k:=λk O=>by
    let z:=e k O;rw[y1f,beq_iff_eq,beq_iff_eq]at z;let a:=f h k O;let b:=f h' k O;omega
   show⟨λg k O=>by rw[zb7,←J k O,←zb7];show g k O,λg k O=>by rw[zb7,J k O,←zb7];show g k O⟩
theorem zzb{ps:List Nat}{m:Mc}(c:Canon m)(t:∀row,m.Row row->m.fin 041=fitP ps row):m.n<=2^ps.length+1:=by
 let Rq:=ziv c.ord;letI f:=λr=>if h:r<m.n then Classical.choose (Rq r h)else[]
 let nd:((070).map λr=>codeP ps<|f r).Nodup:=nodup_map_on (λa g b U e=>by
  let g:=y0x.mp g;let U:=y0x.mp U;let k:∀r (L:r<m.n),m.Row (f r)/\m.run 0 (f r)=r:=λr L=>by
   change m.Row (dite _ _ _)/\m.run 0 (dite _ _ _)=r;rw[dif_pos L];show Classical.choose_spec<|Rq r L
  let w:∀r (L:r<m.n) x,m.Row x->m.fin (m.run r x)=fitP ps (f r++x):=λr L x J=>by
   rw[←t _ λl C=>(y16.mp C).elim ((k r L).1 l)<|J l];unfold Mc.run;rw[y2q];show congrArg (λz=>m.fin<|List.foldl m.go z x) (k r L).2.symm
  show c.dist a b g U λx J=>by rw[w a g x J,w b U x J,zut e]) y3m
 let:=zev nd (ys:=B::(bools ps.length).map G) λx J=>by
  let(r,_,rfl):=y0f.mp J;show zus _ _
 simpa[zl2]using this
end SM
namespace L2
theorem CalE.n{P:ik}{w:World}{K:Frag}{mg:Y1}{base:Heap}{n:Nat}{x:Str}{ps:List Str}{sp:Sp}(C:CalE P w K mg base n x ps sp)(h:∀vs H Q E,sp vs H Q E->sp vs H Q E0):03 n x ps sp:=by
 let(f,fd,F,b,kp,m):=C.ex;apply⟨f,fd,⟨F.len,λA outer s H args us vs Q E L j a g q=>iA (F.run A outer s H args us vs Q E0 L j a g<|h _ _ _ _ q) λr s' z=>?_⟩,b,kp,m⟩
 match r,z with
 |.ok (.ret u),z=>show z
 |.error e,⟨_,_,_,_,_,_,_,_,_,z⟩=>show z.elim
end L2
namespace SM
open PySem PySem.Spec PyProof.Rows L2 SS
theorem zth:∀s:Sy,1<=mcost s
 |.bare _ _ _=>y06 _
 |.neg s=>y3a _ _
 |.two _ s t=>y3a _ _
 |.qu w _ s=>by unfold mcost;split<;>omega
inductive MOr:Sy->List Str->Mc->Prop where
 |bare {wd n m:Str} {tl:List Str} {M:Mc} (f:Frm tl) (hn:n∈tl) (hm:m∈tl) (hw:wd∈SM.rowWords) (Bq:BareM tl wd (tl.idxOf n) (tl.idxOf m) M):MOr (.bare wd n m) tl M
 |and {s t:Sy} {tl:List Str} {M1 M2 M:Mc} (h1:MOr s tl M1) (h2:MOr t tl M2) (o1:M1.Ok) (o2:M2.Ok) (w1:M1.w=tl.length) (w2:M2.w=tl.length) (few:M1.n*M2.n<=100) (ok:M.Ok) (can:Canon M) (hw:M.w=tl.length) (l:∀row,M.Row row->M.fin (M.run 0 row)=(M1.fin (M1.run 0 row)&&M2.fin (M2.run 0 row))):MOr (.two "and" s t) tl M
 |or {s t:Sy} {tl:List Str} {M1 M2 M:Mc} (h1:MOr s tl M1) (h2:MOr t tl M2) (o1:M1.Ok) (o2:M2.Ok) (w1:M1.w=tl.length) (w2:M2.w=tl.length) (few:M1.n*M2.n<=100) (ok:M.Ok) (can:Canon M) (hw:M.w=tl.length) (l:∀row,M.Row row->M.fin (M.run 0 row)=(M1.fin (M1.run 0 row)||M2.fin (M2.run 0 row))):MOr (.two "or" s t) tl M
 |neg {s:Sy} {tl:List Str} {M1 M:Mc} (f:Frm tl) (h1:MOr s tl M1) (o1:M1.Ok) (w1:M1.w=tl.length) (few:M1.n*(2^(psOf<|bsOf tl).length+1)<=100) (ok:M.Ok) (can:Canon M) (hw:M.w=tl.length) (l:∀row,M.Row row->M.fin (M.run 0 row)=(!M1.fin (M1.run 0 row)&&fitP (psOf<|bsOf tl) row)):MOr (.neg s) tl M
 |some {n:Str} {s:Sy} {tl:List Str} {M1 M:Mc} (h1:MOr s (tl++[n]) M1) (o1:M1.Ok) (w1:M1.w=tl.length+1) (few:M1.n<=12) (Rq:∃Rq,DropR M1 tl.length Rq) (ok:M.Ok) (can:Canon M) (hw:M.w=tl.length) (l:∀row,M.Row row->M.fin (M.run 0 row)=(dropT M1 tl.length).fin ((dropT M1 tl.length).run [0] row)):MOr (.qu "some" n s) tl M
 |all {n:Str} {s:Sy} {tl:List Str} {M:Mc} (h:MOr (.neg<|.qu "some" n (.neg s)) tl M):MOr (.qu "all" n s) tl M
end SM
set_option maxHeartbeats 4000000
namespace SM
open PySem PySem.Spec PyProof.Rows L2 SS
section
variable {T:Type}[DecidableEq T]
def nubs(l:List T):List T:=l.foldl (λacc x=>if x∈acc then acc else acc++[x]) []
def numb(l:List T):List Nat:=l.map (nubs l).idxOf
theorem ztb{l:List T}{i j:Nat}{a b:T}(g:l[i]?=G a)(U:l[j]?=G b)(h:(numb l).getD i 0≠(numb l).getD j 0):a≠b:=by
 rintro rfl;apply h ?_;unfold numb;rw[y02,y02,y04,y04,g,U]
end
def rfn(m:Mc)(c:List Nat):List Nat:=numb ((070).map λr=>c.getD r 0::(List.range<|2^m.w).map λl=>c.getD (m.go r l) 0)
def moo(m:Mc):Nat->List Nat->List Nat
 |0,c=>c
 |f+1,c=>if rfn m c=c then c else moo m f (rfn m c)
def cls(m:Mc):List Nat:=moo m 100<|numb m.ends
def Pts(m:Mc)(c:List Nat):Prop:=∀i j,i<m.n->j<m.n->c.getD i 0≠c.getD j 0->∃row,m.Row row/\m.fin (m.run i row)≠m.fin (m.run j row)
theorem pts_rfn{m:Mc}(ok:m.Ok){c:List Nat}(h:Pts m c):Pts m (rfn m c):=λi j hi o y=>by
 let e:∀i,i<m.n->((070).map λr=>c.getD r 0::(List.range<|2^m.w).map λl=>c.getD (m.go r l) 0)[i]?=G (c.getD i 0::(List.range<|2^m.w).map λl=>c.getD (m.go i l) 0):=λi hi=>by
  rw[y04,y1a hi];rfl
 let ne:=ztb (e i hi) (e j o) y;by_cases h0:c.getD i 0=c.getD j 0
 .let Y:¬∀l∈List.range (2^m.w),c.getD (m.go i l) 0=c.getD (m.go j l) 0:=λz=>ne (by rw[h0];congr 1;show y1l z);let(l,z):=Classical.not_forall.mp Y;let(C,z):=Classical.not_imp.mp z;let C:=y0x.mp C;let(row,L,E):=h _ _ (go_lt ok hi C) (go_lt ok o C) z;apply⟨l::row,λx J=>?_,by rw[Mc.run_cons,Mc.run_cons];show E⟩;rcases y09.mp J with rfl|J
  .exact C
  .exact L x J
 .exact h i j hi o h0
theorem zrx{m:Mc}(ok:m.Ok):∀(f:Nat) {c:List Nat},Pts m c->Pts m (moo m f c)
 |0,_,h=>h
 |f+1,c,h=>by
  unfold moo;split
  .exact h
  .exact zrx ok f<|pts_rfn ok h
theorem pts_cls{m:Mc}(ok:m.Ok):Pts m (cls m):=by
 apply zrx ok 100 λi j hi o y=>⟨[],.nil m,?_⟩;let ne:=ztb (y00 hi) (y00 o) y;change m.fin i≠m.fin j;unfold Mc.fin;rw[y02,y02,y00 hi,y00 o];show ne
def pos1(m:Mc)(b:Nat):Nat:=(List.range<|m.n*2^m.w).findIdx λi=>m.go (i/2^m.w) (i%2^m.w)==b
def ordB(m:Mc):Bool:=(070).all λb=>decide (b=0)||(decide (pos1 m b<m.n*2^m.w)&&decide (pos1 m b/2^m.w<b)&&(decide (b=1)||decide (pos1 m (b-1)<pos1 m b)))
theorem zr4{m:Mc}{b:Nat}(h:pos1 m b<m.n*2^m.w):m.go (pos1 m b/2^m.w) (pos1 m b%2^m.w)=b:=by
 let:=List.findIdx_getElem (p:=λi=>m.go (i/2^m.w) (i%2^m.w)==b) (xs:=List.range<|m.n*2^m.w) (w:=by rw[y18];show h);rw[List.getElem_range]at this;show eq_of_beq this
theorem pos1_le{m:Mc}{i b:Nat}(h:m.go (i/2^m.w) (i%2^m.w)=b)(hi:i<m.n*2^m.w):pos1 m b<=i:=by
 apply y20 λz=>?_;let:=List.not_of_lt_findIdx (p:=λi=>m.go (i/2^m.w) (i%2^m.w)==b) (xs:=List.range<|m.n*2^m.w) (i:=i) z;rw[List.getElem_range]at this;simp[h]at this
theorem ordB_ok{m:Mc}(ok:m.Ok)(h:ordB m=N):m.Ord:=by
 let H:∀b,0<b->b<m.n->pos1 m b<m.n*2^m.w/\pos1 m b/2^m.w<b/\(b=1\/pos1 m (b-1)<pos1 m b):=λb h0 U=>by
  let z:=y0s.mp h b<|y0x.mpr U;simp only[y2y,y05,decide_eq_true_eq]at z;rcases z with z|⟨⟨I,T⟩,s⟩
  .omega
  .exact⟨I,T,s⟩
 let up:∀d b,0<b->b+d+1<m.n->pos1 m b<pos1 m (b+d+1):=λd=>by
  induction d with
  |zero =>
   intro b h0 U;rcases(H (b+0+1) (by omega) U).2.2 with z|z
   .omega
   .exact z
  |succ d A =>
   intro b h0 U;let I:=A b h0 01;rcases(H (b+(d+1)+1) (by omega) U).2.2 with z|z
   .omega
   .exact y22 I z
 let Q:0<2^m.w:=Nat.pow_pos 06;apply⟨λr l b L C h0 f=>?_,λb h0 U=>?_⟩
 .let j:=go_lt ok L C;let hi:r*2^m.w+l<m.n*2^m.w:=by
   let:=Nat.mul_le_mul_right (2^m.w)<|show r+1<=m.n from L;rw[Nat.add_mul]at this;omega
  let M:(r*2^m.w+l)/2^m.w=r:=by rw[y3k,Nat.mul_add_div Q,Nat.div_eq_of_lt C];rfl
  let D:(r*2^m.w+l)%2^m.w=l:=by rw[y3k,Nat.mul_add_mod,Nat.mod_eq_of_lt C]
  let a:=pos1_le (m:=m) (i:=r*2^m.w+l) (b:=m.go r l) (by rw[M,D]) hi;let c:=up (m.go r l-b-1) b h0 (by rw[show b+(m.go r l-b-1)+1=m.go r l by omega];show j);rw[show b+(m.go r l-b-1)+1=m.go r l by omega]at c;let U:=(H b h0<|y22 f j).1;apply⟨pos1 m b/2^m.w,pos1 m b%2^m.w,y3b _ Q,?_,zr4 U⟩;let o:pos1 m b<r*2^m.w+l:=by omega
  let g:=Nat.div_add_mod (pos1 m b)<|2^m.w;let p:=y3b (pos1 m b) Q;let q:pos1 m b/2^m.w<r+1:=by
   rw[Nat.div_lt_iff_lt_mul Q,Nat.add_mul];omega
  rcases Nat.lt_or_ge (pos1 m b/2^m.w) r with z|z
  .exact .inl z
  .let e:pos1 m b/2^m.w=r:=by omega
   apply .inr ⟨e,?_⟩;rw[e,y3k]at g;omega
 .let:=H b h0 U;show⟨_,_,this.2.1,y3b _ Q,zr4 this.1⟩
def canB(m:Mc):Bool:=ordB m&&decide (cls m=List.range m.n)
theorem canB_ok{m:Mc}(ok:m.Ok)(h:canB m=N):Canon m:=by
 unfold canB at h;let(Y,h2):=y2g.mp h;let h2:=of_decide_eq_true h2;apply⟨ordB_ok ok Y,λi j hi o l=>Classical.byContradiction λne=>?_⟩;let e:∀i,i<m.n->(cls m).getD i 0=i:=λi hi=>by rw[h2,y02,y1a hi];rfl
 let(row,L,z):=pts_cls ok i j hi o (by rw[e i hi,e j o];show ne);show z<|l row L
section
variable {S:Type}[DecidableEq S]
def xpl(w:Nat)(step:S->Nat->S):Nat->List S->Nat->List (List Nat)->List S×List (List Nat)
 |0,a,_,j=>(a,j)
 |f+1,a,i,j=>match a[i]? with
  |none=>(a,j)
  |some s=>match(List.range<|2^w).foldl (λ(p:List S×List Nat) l=>(if step s l∈p.1 then p.1 else p.1++[step s l],p.2++[p.1.idxOf<|step s l])) (a,[])with
   |(c,ln)=>xpl w step f c (i+1)<|j++[ln]
def rawM(w:Nat)(step:S->Nat->S)(fin:S->Bool)(I:S):Mc:=match xpl w step 100 [I] 0 []with
 |(a,j)=>⟨w,j,a.map fin⟩
def quoC(m:Mc)(c:List Nat):Mc:=⟨m.w,(nubs c).map λk=>(m.ways.getD (c.idxOf k) []).map λx=>c.getD x 0,(nubs c).map λk=>m.fin<|c.idxOf k⟩
end
section
variable {α β:Type}
def fN(n:Nat)(k:Nat->α):α:=match n with|0=>k 0|n+1=>k<|n+1
def fB(b:Bool)(k:Bool->α):α:=match b with|true=>k N|false=>k Fa
def frL(f:β->(β->α)->α):List β->(List β->α)->α
 |[],k=>k []
 |x::xs,k=>f x λx=>frL f xs λxs=>k (x::xs)
def frM(m:Mc)(k:Mc->α):α:=fN m.w λw=>frL (frL fN) m.ways λj=>frL fB m.ends λi=>k ⟨w,j,i⟩
theorem fN_is(n:Nat)(k:Nat->α):fN n k=k n:=by cases n<;>rfl
theorem fB_is(b:Bool)(k:Bool->α):fB b k=k b:=by cases b<;>rfl
theorem zo4{f:β->(β->α)->α}(h:∀x k,f x k=k x):∀(l:List β) (k:List β->α),frL f l k=k l
 |[],_=>rfl
 |x::xs,k=>by rw[frL,h,zo4 h xs]
theorem zo3(m:Mc)(k:Mc->α):frM m k=k m:=by
 unfold frM;rw[fN_is,zo4<|zo4 fN_is,zo4 fB_is]
end
section
variable {S:Type}[DecidableEq S]
def findM(w:Nat)(step:S->Nat->S)(fin:S->Bool)(I:S):Mc:=frM (rawM w step fin I) λr=>frL fN (cls r) λc=>quoC r c
end
def kept(m:Mc)(w:Nat)(b:Bool):Option Mc:=if okMB m&&canB m&&decide (m.w=w)&&b then G m else B
structure Hld(tl:List Str)(m:Mc):Prop where
 ok:m.Ok
 can:Canon m
 w:m.w=tl.length
theorem zi9{m M:Mc}{w:Nat}{b:Bool}(h:kept m w b=G M):m=M/\M.Ok/\Canon M/\M.w=w/\b=N:=by
 unfold kept at h;split at h
 .rename_i z;cases h;simp only[y05,decide_eq_true_eq]at z;let(((a,c),d),e):=z;show⟨R,zs8 a,canB_ok (zs8 a) c,d,e⟩
 .cases h
def nms6:List Str:=["x","y","z","X","Y","Z"]
def frmC(tl:List Str):Bool:=decide (tl.length<=4)&&tl.all λz=>decide (z∈nms6)
theorem znc{tl:List Str}(h:frmC tl=N):Frm tl:=by
 unfold frmC at h;let(Y,h2):=y2g.mp h;let h2:∀z∈tl,z∈nms6:=λz hz=>of_decide_eq_true<|y0s.mp h2 z hz;let k:∀z∈nms6,NmOk z/\z.length<=4:=λz hz=>by
  simp only[nms6,y09,y0l,or_false]at hz;rcases hz with rfl|rfl|rfl|rfl|rfl|rfl
  .exact⟨.inl<|zh3 R 52 06 (by intro x J;cases J),by decide⟩
  .exact⟨.inl<|zh3 R 52 06 (by intro x J;cases J),by decide⟩
  .exact⟨.inl<|zh3 R 52 06 (by intro x J;cases J),by decide⟩
  .exact⟨.inr<|zh3 R 52 06 (by intro x J;cases J),by decide⟩
  .exact⟨.inr<|zh3 R 52 06 (by intro x J;cases J),by decide⟩
  .exact⟨.inr<|zh3 R 52 06 (by intro x J;cases J),by decide⟩
 show⟨⟨of_decide_eq_true Y,λz hz=>(k z<|h2 z hz).1⟩,λz hz=>(k z<|h2 z hz).2⟩
section
variable {S:Type}[DecidableEq S]
def stepD(f:S->Nat->S)(z:S)(ps:List Nat)(p:S×List Nat)(l:Nat):S×List Nat:=if(cstep ps p.2 l).any (λa=>a==2)then(z,ps.map λ_=>2)else(f p.1 l,cstep ps p.2 l)
theorem zhh(f:S->Nat->S)(z I:S)(ps:List Nat):∀(row pre:List Nat) (p:S×List Nat),(p=(pre.foldl f I,ps.map λk=>min 2<|fcnt pre k)\/(p=(z,ps.map λ_=>2)/\∃k∈ps,2<=fcnt pre k))->
  (row.foldl (stepD f z ps) p=((pre++row).foldl f I,ps.map λk=>min 2<|fcnt (pre++row) k)\/(row.foldl (stepD f z ps) p=(z,ps.map λ_=>2)/\∃k∈ps,2<=fcnt (pre++row) k))
 |[],pre,p,h=>by rw[y1z];show h
 |c::row,pre,p,h=>by
  rw[y2f,show pre++c::row=(pre++[c])++row by simp];apply zhh f z I ps row (pre++[c]) _ ?_;rcases h with rfl|⟨rfl,k,O,h2⟩
  .let e:=cfold ps [c] pre;unfold stepD;simp only[y2f,List.foldl_nil]at e;rw[e];split
   .rename_i h;apply .inr ⟨R,?_⟩;let(a,g,D):=y2a.mp h;let(k,O,rfl):=y0f.mp g;show⟨k,O,by have:=eq_of_beq D;omega⟩
   .exact .inl (by rw[y2q];rfl)
  .refine .inr ⟨?_,k,O,by rw[zb7];omega⟩;unfold stepD;rw[Xq];apply y2a.mpr ⟨2,?_,R⟩;unfold cstep;rw[zie];show y0f.mpr ⟨k,O,by split<;>rfl⟩
theorem zn0(f:S->Nat->S)(z I:S)(ps row:List Nat)(fin:S->Bool):(λp:S×List Nat=>fin p.1&&cfin p.2) (row.foldl (stepD f z ps) (I,c0 ps))=(fin (row.foldl f I)&&fitP ps row):=by
 let e:c0 ps=ps.map λk=>min 2 (fcnt [] k):=by
  unfold c0;apply y1l λk _=>?_;simp[fcnt]
 rcases zhh f z I ps row [] (I,c0 ps) (.inl<|by rw[e];rfl)with h|⟨h,k,O,h2⟩
 .rw[h,y2k];change(fin _&&cfin _)=_;congr 1;unfold cfin fitP;rw[y23];congr 1;funext k;change(min 2 (fcnt row k)==1)=(fcnt row k==1);generalize fcnt row k=a;rw[y1f,beq_iff_eq,beq_iff_eq];omega
 .rw[h];change(fin z&&cfin _)=_;let Y:cfin (ps.map λ_=>2)=Fa:=y3j.mpr ⟨2,y0f.mpr ⟨k,O,R⟩,by decide⟩;let h3:fitP ps row=Fa:=y3j.mpr ⟨k,O,λe=>by have:=eq_of_beq e;rw[y2k]at h2;omega⟩;rw[Y,h3,y25,y25]
end
def chkBareD(ps:List Nat)(wd:Str)(i j:Nat)(m:Mc):Bool:=chkS m (stepD (bstep (ruleW wd) i j) 0 ps) (λp=>aend (ruleW wd) p.1&&cfin p.2) (2,c0 ps)
theorem zni{ps:List Nat}{wd:Str}{i j:Nat}{m:Mc}(h:chkBareD ps wd i j m=N)(row:List Nat)(L:m.Row row):m.fin 041=(aend (ruleW wd) (brun (ruleW wd) i j 2 row)&&fitP ps row):=(zct h row L).trans<|zn0 _ _ _ _ _ _
def chkNegD(ps:List Nat)(a m:Mc):Bool:=chkS m (stepD a.go 0 ps) (λp=>!a.fin p.1&&cfin p.2) (0,c0 ps)
theorem zqy{ps:List Nat}{a m:Mc}(h:chkNegD ps a m=N)(row:List Nat)(L:m.Row row):m.fin 041=(!a.fin (a.run 0 row)&&fitP ps row):=(zct h row L).trans<|zn0 (fin:=λr=>!a.fin r) _ _ _ _ _
def chkJoin(a b m:Mc):Bool:=chkS m (λ(p:Nat×Nat) l=>(a.go p.1 l,b.go p.2 l)) (λp=>a.fin p.1||b.fin p.2) (0,0)
theorem zqz{a b m:Mc}(h:chkJoin a b m=N)(row:List Nat)(L:m.Row row):m.fin 041=(a.fin (a.run 0 row)||b.fin (b.run 0 row)):=by
 rw[zct h row L,zgv];rfl
def keepB(w:Nat)(ps:List Nat)(wd:Str)(i j:Nat)(m:Mc):Option Mc:=kept m w<|chkBareD ps wd i j m
def fndB(w:Nat)(ps:List Nat)(wd:Str)(i j:Nat):Option Mc:=frM (findM w (stepD (bstep (ruleW wd) i j) 0 ps) (λp=>aend (ruleW wd) p.1&&cfin p.2) (2,c0 ps))<|keepB w ps wd i j
def fndP(o:Bool)(a b:Mc):Mc:=findM a.w (λ(p:Nat×Nat) l=>(a.go p.1 l,b.go p.2 l)) (λp=>if o then a.fin p.1||b.fin p.2 else a.fin p.1&&b.fin p.2) (0,0)
def mkTwo(o:Bool):Option Mc->Option Mc->Option Mc
 |some a,G b=>if a.n*b.n<=100 then frM (fndP o a b) λm=>kept m a.w (if o then chkJoin a b m else chkMet a b m)else B
 |_,_=>B
def mkNeg(ps:List Nat):Option Mc->Option Mc
 |some a=>if a.n*(2^ps.length+1)<=100 then frM (findM a.w (stepD a.go 0 ps) (λp=>!a.fin p.1&&cfin p.2) (0,c0 ps)) λm=>kept m a.w (chkNegD ps a m)else B
 |none=>B
def mkSome(t:Nat):Option Mc->Option Mc
 |some a=>if a.n<=12 then frM (findM t (dstep a t) (dropT a t).fin [0]) λm=>kept m t (chkDrop a t m)else B
 |none=>B
def mkC:Sy->List Str->Option Mc
 |.bare wd n m,tl=>if frmC tl&&decide (n∈tl)&&decide (m∈tl)&&decide (wd∈SM.rowWords)then fndB tl.length (psOf<|bsOf tl) wd (tl.idxOf n) (tl.idxOf m)else B
 |.neg s,tl=>if frmC tl then mkNeg (psOf<|bsOf tl) (mkC s tl)else B
 |.two w s t,tl=>if w="and" then mkTwo Fa (mkC s tl) (mkC t tl)else if w="or" then mkTwo N (mkC s tl) (mkC t tl)else B
 |.qu w n s,tl=>if w="some" then mkSome tl.length (mkC s<|tl++[n])else if w="all" then(if frmC tl&&frmC (tl++[n])then mkNeg (psOf<|bsOf tl) (mkSome tl.length<|mkNeg (psOf<|bsOf (tl++[n])) (mkC s<|tl++[n]))else B)else B
theorem zi7{s:Sy}{tl:List Str}{o:Option Mc}(f:frmC tl=N)(h:∀a,o=G a->MOr s tl a/\Hld tl a){M:Mc}(e:mkNeg (psOf<|bsOf tl) o=G M):MOr (.neg s) tl M/\Hld tl M:=by
 cases o with
 |none=>cases e
 |some a =>
 let(I,Y):=h a rfl;simp only[mkNeg,zo3]at e;split at e
 .rename_i few;let(rfl,ok,can,O,b):=zi9 e;let O:=O.trans Y.w;show⟨.neg (znc f) I Y.ok Y.w few ok can O λrow L=>zqy b row L,ok,can,O⟩
 .cases e
theorem zlb{n:Str}{s:Sy}{tl:List Str}{o:Option Mc}(h:∀a,o=G a->MOr s (tl++[n]) a/\Hld (tl++[n]) a){M:Mc}(e:mkSome tl.length o=G M):MOr (.qu "some" n s) tl M/\Hld tl M:=by
 cases o with
 |none=>cases e
 |some a =>
 let(I,Y):=h a rfl;simp only[mkSome,zo3]at e;split at e
 .rename_i few;let(rfl,ok,can,O,b):=zi9 e;show⟨.some I Y.ok (by rw[Y.w,y0j];rfl) few (zib b).2.1 ok can O (zib b).2.2,ok,can,O⟩
 .cases e
theorem zh4:∀(s:Sy) (tl:List Str) {M:Mc},mkC s tl=G M->MOr s tl M/\Hld tl M
 |.bare wd n m,tl,M,e=>by
  unfold mkC at e;split at e
  .rename_i c;simp only[y05,decide_eq_true_eq]at c;let(((f,E),A),O):=c;rw[fndB,zo3]at e;let(rfl,ok,can,C,b):=zi9 e;show⟨.bare (znc f) E A O ⟨ok,can,C,λrow L=>zni b row L⟩,ok,can,C⟩
  .cases e
 |.neg s,tl,M,e=>by
  unfold mkC at e;split at e
  .rename_i f;show zi7 f (λa g=>zh4 s tl g) e
  .cases e
 |.two w s t,tl,M,e=>by
  unfold mkC at e;let J:∀(o:Bool),mkTwo o (mkC s tl) (mkC t tl)=G M->(∃a b,MOr s tl a/\MOr t tl b/\Hld tl a/\Hld tl b/\a.n*b.n<=100/\(if o then chkJoin a b M else chkMet a b M)=N)/\Hld tl M:=λo e=>by
   let y:=λa=>@zh4 s tl a;let p:=λa=>@zh4 t tl a;generalize mkC s tl=i at e y;generalize mkC t tl=Q at e p
   match i,Q,e with
   |some a,G b,e =>
    let(I,Y):=y a rfl;let(m2,h2):=p b rfl;simp only[mkTwo,zo3]at e;split at e
    .rename_i few;let(rfl,ok,can,O,b):=zi9 e;show⟨⟨_,_,I,m2,Y,h2,few,b⟩,ok,can,O.trans Y.w⟩
    .cases e
  split at e
  .rename_i O;subst O;let((a,b,I,m2,Y,h2,few,c),h):=J _ e;show⟨.and I m2 Y.ok h2.ok Y.w h2.w few h.ok h.can h.w λrow L=>zuy c row L,h⟩
  .split at e
   .rename_i O;subst O;let((a,b,I,m2,Y,h2,few,c),h):=J _ e;show⟨.or I m2 Y.ok h2.ok Y.w h2.w few h.ok h.can h.w λrow L=>zqz c row L,h⟩
   .cases e
 |.qu w n s,tl,M,e=>by
  unfold mkC at e;split at e
  .rename_i O;subst O;show zlb (λa g=>zh4 s _ g) e
  .split at e
   .rename_i O;subst O;split at e
    .rename_i f;let(f1,q):=y2g.mp f;let z:=zi7 (s:=.qu "some" n<|.neg s) f1 (λa g=>zlb (λb U=>zi7 q (λc hc=>zh4 s _ hc) U) g) e;show⟨.all z.1,z.2⟩
    .cases e
   .cases e
structure PWk(m1 m2:Mc)(ls rws:List<|List Nat):Prop where
 len:rws.length=ls.length
 nd:ls.Nodup
 rg:∀x∈ls,∃a b,x=[a,b]/\a<m1.n/\b<m2.n
 ln:∀(i:Nat) u,rws[i]?=G u->u.length<=i
theorem PWk.start(Y:0<I.n)(h2:0<m2.n):PWk I m2 [[0,0]] [[]]:=⟨R,by simp,λx J=>⟨0,0,y0e.mp J,Y,h2⟩,λi u h=>by
 cases i with
 |zero=>cases h;show y06 _
 |succ i=>cases h⟩
theorem PWk.few(p:PWk I m2 ls rws):ls.length<=I.n*m2.n:=by
 let:=zev p.nd (ys:=(List.range I.n).flatMap λa=>(List.range m2.n).map λb=>[a,b]) λx J=>by
  let(a,b,rfl,g,U):=p.rg x J;show y1q.mpr ⟨a,y0x.mpr g,y0f.mpr ⟨b,y0x.mpr U,R⟩⟩
 simpa[List.length_flatMap,Function.comp_def,List.map_const',y3x]using this
theorem PWk.new(p:PWk I m2 ls rws)(hi:i<ls.length)(c:rws[i]?=G u)(g:a<I.n)(U:b<m2.n)(M:¬[a,b]∈ls):PWk I m2 (ls++[[a,b]]) (rws++[u++[l]]):=by
 apply⟨by rw[y0j,y0j,p.len];rfl,y32.mpr ⟨p.nd,by simp,λx J y L e=>M<|by rw[←y0e.mp L,←e];show J⟩,λx J=>?_,λj v h=>?_⟩
 .rcases y16.mp J with J|J
  .exact p.rg x J
  .exact⟨a,b,y0e.mp J,g,U⟩
 .rcases zrn h with h|⟨rfl,rfl⟩
  .exact p.ln j v h
  .rw[y0j,y0u,p.len];let:=p.ln i u c;omega
def parts57:List (Str×Int):=[("takes",3),("always",2),("rooms",2),("many",3),("treerooms",2),("treealways",2)]
structure PartsD(K:Frag)(w:World)(a:Ad):Prop where
 ex:∃f,DctK K w a f/\∀x,f x=(parts57.lookup x).map V.int
structure FrL(H:Hp)(b:Ad)(tl:List Str):Prop where
 e:H b=G (.lst 010)
 few:tl.length<=1000
 len:∀z∈tl,z.length<=1000
theorem FrL.same{H H':Hp}{b:Ad}{tl:List Str}(h:FrL H b tl)(g:Same H H'):FrL H' b tl:=⟨g _ _ h.e,h.few,h.len⟩
def zgh(C:Ad):Sp:=λvs H Q E=>∃(b:Ad) (tl:List Str),vs=[.ref b]/\FrL H b tl/\(frameB 010=N->∀H',Same H H'->Q .non H')/\(frameB 010=Fa->∀a H',Same H H'->H' a=B->E 74 97 H')
def zmd(C:Ad):Sp:=λvs H Q E=>∃(v:V) (b:Ad) (tl:List Str) (s:Sy),vs=[v,.ref b]/\FrL H b tl/\Rep H v s/\goodB s=N/\frameB 010=N/\(letB treeWords 4 tl s=N->∀H',Same H H'->Q .non H')/\(letB treeWords 4 tl s=Fa->∀a H',Same H H'->H' a=B->E 74 97 H')
def frT(tl:List Str):Bool:=frameB 010&&decide (tl.length<=3)
def zim(C:Ad):Sp:=λvs H Q E=>∃(b:Ad) (tl:List Str),vs=[.ref b]/\FrL H b tl/\(frT tl=N->∀H',Same H H'->Q .non H')/\(frT tl=Fa->∀a H',Same H H'->H' a=B->E 74 97 H')
def zcj(C:Ad):Sp:=λvs H Q E=>∃(v:V) (b:Ad) (tl:List Str) (s:Sy),vs=[v,.ref b]/\FrL H b tl/\Rep H v s/\goodB s=N/\frT tl=N/\letB SS.rowWords 3 tl s=Fa/\∀a H',Same H H'->H' a=B->E 74 97 H'
structure Tab3(H:Hp)(Pr:Ad)(qr:Y3)(Pp:Ad)(qp:Y3)(Pm:Ad)(qm:Y3):Prop where
 r:TabOk H Pr qr
 p:TabOk H Pp qp
 m:TabOk H Pm qm
theorem Tab3.same{H H':Hp}{c:Ad}{d:Y3}{l:Ad}{e:Y3}{r:Ad}{qm:Y3}(t:Tab3 H c d l e r qm)(g:Same H H'):Tab3 H' c d l e r qm:=⟨t.r.same g,t.p.same g,t.m.same g⟩
theorem Tab3.drop{cl:Y4}{H:Hp}{c:Ad}{d:Y3}{l:Ad}{e:Y3}{r:Ad}{qm:Y3}(t:Tab3 H c d l e r qm)(U:ClOk cl H):Tab3 062 c d l e r qm:=⟨U.tab t.r,U.tab t.p,U.tab t.m⟩
def bnB:Sy->Bool
 |.bare _ _ _=>N
 |.neg s=>bnB s
 |_=>Fa
def sp_mofN(c:Ad)(d:Y3)(l:Ad)(e:Y3)(r:Ad)(qm:Y3)(n:Nat):Sp:=λvs H Q _=>∃(v:V) (b:Ad) (tl:List Str) (s:Sy) (M:Mc),vs=[v,.ref b]/\Tab3 H c d l e r qm/\Rep H v s/\H b=G (.lst 010)/\bnB s=N/\MOr s tl M/\mcost s<=n/\∀p H',Same H H'->RepM H' p M->Q 42 H'
def zkf(P:ik)(w:World)(K:Frag)(mg:Y1)(base:Heap)(a U x J:Ad)(g:Ad)(u:Y3)(sp:Nat->Sp):Sp:=λvs H Q _=>∃C c:V,vs=[.ref a,.ref U,.ref x,C,.ref J,c]/\TabOk H g u/\
 ∀f fd H',Same H H'->H' f=G (fnO fd f)->(∀n,CloHE P w K mg base (11+n) H' f 2<|sp n)->Q 57 H'
structure Own(tl:List Str)(s:Sy)(M:Mc):Prop where
 fr:frameB 010=N
 frm:Frm tl
 good:goodB s=N
 lt:letB treeWords 4 tl s=N
 bn:bnB s=N
 mo:MOr s tl M
 hc:mcost s<=16
 ok:M.Ok
 w:M.w=tl.length
theorem Own.frl{tl:List Str}{s:Sy}{M:Mc}(o:Own tl s M){H:Hp}{b:Ad}(e:H b=G (.lst 010)):FrL H b tl:=⟨e,by have:=o.frm.ok.1;omega,λz hz=>by have:=o.frm.four z hz;omega⟩
def zdo(c:Ad)(d:Y3)(l:Ad)(e:Y3)(r:Ad)(qm:Y3)(g:Ad)(u:Y3):Sp:=λvs H Q _=>∃(v:V) (b:Ad) (tl:List Str) (s:Sy) (M:Mc),vs=[v,.ref b]/\Tab3 H c d l e r qm/\TabOk H g u/\Rep H v s/\H b=G (.lst 010)/\Own tl s M/\∀p H',Same H H'->RepM H' p M->Q 42 H'
def ze7:Sp:=λvs H Q _=>∃(a b:Ad) (I m2:Mc),vs=[.ref a,.ref b]/\RepM H a I/\RepM H b m2/\I.Ok/\m2.Ok/\I.w=m2.w/\I.n*m2.n<=900/\(∀x y,x<I.n->y<m2.n->I.fin x=m2.fin y)/\∀H',Same H H'->Q .non H'
def zkb:Sp:=λvs H Q _=>∃(a:Ad) (m:Mc),vs=[.ref a]/\RepM H a m/\m.Ok/\(∀r,r<m.n->m.fin r=Fa)/\∀H',Same H H'->Q .non H'
def zn9(K:Frag)(c:Ad)(d:Y3)(l:Ad)(e:Y3)(r:Ad)(qm:Y3):Sp:=λvs H Q _=>∃(b:Ad) (tl:List Str),vs=[.ref b]/\Tab3 H c d l e r qm/\H b=G (.lst 010)/\frameB 010=N/\Frm tl/\∀p m H',Same H H'->RepMK K H' p m->FitR tl m->Q 42 H'
def zj9(c:Ad)(d:Y3)(l:Ad)(e:Y3)(r:Ad)(qm:Y3)(g:Ad)(u:Y3):Sp:=λvs H Q _=>∃(v:V) (b:Ad) (tl:List Str) (s:Sy) (M:Mc),vs=[v,.ref b]/\Tab3 H c d l e r qm/\TabOk H g u/\Rep H v s/\H b=G (.lst 010)/\Own tl s M/\M.n<=5/\(∀row,M.Row row->fitP (psOf<|bsOf tl) row=N->M.fin (M.run 0 row)=N)/\∀t H',Same H H'->H' t=G (.tup [.str "yes"])->Q (.ref t) H'
theorem all_off{m:Mc}(c:Canon m)(h:∀row,m.Row row->m.fin 041=Fa):∀r,r<m.n->m.fin r=Fa:=λr L=>by
 let(u,U,e):=ziv c.ord r L;rw[←e];show h u U
def unch(l:List Nat):Str:=⟨l.toArray⟩
theorem zi8(l:List<|List Nat):(l.map unch).map ch=l:=by rw[y0t];show List.map_id _
def wB(z:Str):List Str:=(wordsL<|ch z).map unch
def wT(z:Str):List Str:=(wordsL<|padL (ch z)).map unch
def pts(z:Str):List Str:=(cutAt 59<|ch z).map unch
theorem zyq(z:Str):Txt.split z ";"=pts z:=zdu (by unfold pts;rw[zi8,show(";":Str)=⟨#[59]⟩ by decide+kernel,zda])
theorem zvj(z:Str):wordsT z=wT z:=zdu (by unfold wT;rw[zi8,zj0])
theorem zt7(l:List Str):(l.filter λp:Str=>decide (p≠"")).map ch=(l.map ch).filter λp=>!p.isEmpty:=by
 rw[y3p];congr 1;apply y34 λp _=>?_;change decide (p≠"")=!(ch p).isEmpty;by_cases h:p=""
 .subst h;decide+kernel
 .rw[Xg h];cases e:ch p with
  |nil=>show Xa (show p="" from zuz (e.trans 52)) h
  |cons a l=>rfl
theorem wB_is(z:Str):((Txt.split z " ").filter λp:Str=>decide (p≠""))=wB z:=zdu (by unfold wB;rw[zi8,zt7,show(" ":Str)=⟨#[32]⟩ by decide+kernel,zda];rfl)
def ws57(z:Str):List Str:=wB<|(pts z).headD ""
def askOf(z:Str):Str:=(ws57 z).headD ""
def frOf(z:Str):List Str:=(ws57 z).tail
def ptOf(z:Str)(i:Nat):Str:=(pts z).getD i ""
def bdL(z:Str):Bool:=match ws57 z with
 |[]=>N
 |w::_=>match parts57.lookup w with
  |none=>N
  |some k=>decide 090
def figB(z:Str):Bool:=z.cps.toList.all λd=>signIn d FIGS
def numS(z:Str):Option (Option Int):=if decide (3<z.length)|| !figB z then G B else if Txt.startswith z "0"&&decide (z≠"0")then G B else(PySem.intText? z).map G
def oV:Option Int->V
 |none=>.non
 |some n=>.int n
def allS:List Str->Option (List<|Option Int)
 |[]=>G []
 |z::w=>match numS z,allS w with
  |some o,G os=>G (o::os)
  |_,_=>B
def letO(k:Nat):Option Int->Bool
 |none=>Fa
 |some n=>decide (0<=n)&&decide (n<2^k)
def rsn(z:Str):Option Nat:=if bdL z then G 5 else
 if askOf z∈(["treerooms","treealways"]:List Str)then(if !frT (frOf z)then G 1 else match readW (wT<|ptOf z 1)with
  |none=>G 0
  |some s=>if !letB SS.rowWords 3 (frOf z) s then G 3 else B)
 else if !frameB ((frOf z).map V.str)then G 1 else match readW (wT<|ptOf z 1)with
  |none=>G 0
  |some s=>if !letB treeWords 4 (frOf z) s then G 3
   else if askOf z="takes" then(match allS (wB<|ptOf z 2)with
    |some os=>if os.all (letO (frOf z).length)then B else G 2
    |none=>B)
   else if askOf z="many" then(match allS (wB<|ptOf z 2)with
    |some [G n]=>if decide (0<=n)&&decide (n<101)then B else G 4
    |some _=>G 4
    |none=>B)
   else B
def lineB(z:Str):Bool:=decide (z.length<=900)&&(wT<|ptOf z 1).all λx=>decide (x.length<=1000)
def nm57:List Str:=["NoText","NoFrame","NoRow","NoSaying","NoNumber","NoLine","NoTree","NoWidth","TooGreat"]
def heads57:List Str:=["always","rooms","treerooms","treealways"]
def noLine:List Str:=[""," ",";","; x same x","take x ; x same x ; 1","takes x ; x same x","always x","rooms","many x ; x same x","always x ; x same x ; 1","takes x ; x same x ; 1 ;","rooms x ; x same x ;","Always x ; x same x","treerooms x","treealways x ; x same x ; 1","trees x ; x same x","takes ; ; ; ","x ; x same x","alwaysx ; x same x","many x ; x same x ; 1 ; 2","rooms x1 x1","takes xx ; on"]
def noFr:List Str:=["x x","x X x","x1234","xx","1","x , y","a b c d e","x not","A B C D E","x1 y x1"]
def noFrS:List Str:=["x same x","x on x","x in Y",""]
def noTx:List Str:=[""," ","x","x on x","(x same x)","not","x in x","x same x x","some x","X x","(x same x and x same x"]
def noSy:List Str:=["z same z","some x x same y","x in X","not all Y x in Z","(x same y and x same z)","some x x same y"]
def noRw:List Str:=["x left y","x above x","x right x"]
def noTr:List Str:=["x next y","x ahead x","x next x"]
def noRow:List Str:=["2","0 1 2","4","-1","01","1 x","1,0","1000","0 00","+1","1.","255 1"]
def noNum:List Str:=["","x","101","-1","01","1 2","1000","999","+5","5.","00","1,0"]
def sev57:List (Str×Nat):=[("takes x x ; x on x ; 9",1),("takes x ; x on x ; 9",0),("takes x ; y same x ; 9",3),("many x x ; x ; -",1),("many x ; x ; -",0),("many x ; y same y ; -",3),("treerooms a b c d ; x on x",1),("treealways A B C D ; ",1),("many ; x ; 1",0)]
def menu57:List (Str×Nat):=noLine.map (λz=>(z,5))
 ++ heads57.flatMap (λh=>noFr.flatMap λf=>noFrS.map λ(s:Str)=>(h++(" ":Str)++f++(" ; ":Str)++s,1))
 ++ heads57.flatMap (λh=>(List.range 3).flatMap λk=>noTx.map λ(s:Str)=>(h++(" x ":Str)++(";":Str)++mulS (" ":Str) k++s,0))
 ++ heads57.flatMap (λh=>noSy.map λ(s:Str)=>(h++064++s,3))
 ++ (heads57.take 2).flatMap (λh=>noRw.map λ(s:Str)=>(h++064++s,3))
 ++ (heads57.drop 2).flatMap (λh=>noTr.map λ(s:Str)=>(h++064++s,3))
 ++ noRow.map (λs=>(("takes x ; x same x ; ":Str)++s,2))
 ++ noNum.map (λs=>(("many x ; x same x ; ":Str)++s,4))
 ++ sev57
def chk57(p:Str×Nat):Bool:=lineB p.1&&decide (rsn p.1=G p.2)&&decide (p.2<6)
theorem menu_ok:∀p∈menu57,chk57 p=N:=by decide+kernel
def c3(bs:List Bool)(i:Nat):Prop:=bs[i]?=G N->bs[i+1]?=G Fa
theorem zji{d:Type}(xs:List d)(k:Nat):cutL xs (G (k:Int)) B=xs.drop k:=by
 unfold cutL;rw[HT.sIx_nat,HT.sIx_none];rcases Nat.le_total k xs.length with h|h
 .rw[y3o h,y0n<|by rw[y2u];show y06 _]
 .rw[Nat.min_eq_right h,y38,List.take_zero,y2c h]
theorem zfi(bs:List Bool):(067).all flatV=N:=by rw[y23];show y0s.mpr λ_ _=>rfl
theorem blEq(xs ys:List Bool):((xs.map V.bl).length==(ys.map V.bl).length&&(List.range (xs.map V.bl).length).all λj=>eqV ((xs.map V.bl).getD j .non)<|(ys.map V.bl).getD j .non)=decide (xs=ys):=by
 rw[y1f];simp only[y05,y0s,y0x,beq_iff_eq,decide_eq_true_eq,y01];constructor
 .intro h;apply y29 λj=>?_;rcases Nat.lt_or_ge j xs.length with o|o
  .let q:j<ys.length:=by omega
   let:=h.2 j 01;simp only[y02,y04,y00 o,y00 q,y1x,y15]at this;rw[y00 o,y00 q,eq_of_beq this]
  .rw[y0z o,y0z 01]
 .intro h;subst h;apply⟨R,λj o=>?_⟩;simp only[y02,y04,y00 o,y1x,y15];show beq_self_eq_true _
def zhl(C:Ad):Sp:=λvs H Q E=>∃z:Str,vs=[.str z]/\z.length<=900/\(bdL z=N->∀a H',Same H H'->H' a=B->E 74 97 H')/\(bdL z=Fa->∀D W H',Same H H'->H' D=G (.lst (.ref W::(pts z).tail.map V.str))->H' W=G (.lst<|(ws57 z).map V.str)->Q 71 H')
def zn6:Sp:=λvs H Q _=>∃(z:Str) (o:Option Int),vs=[.str z]/\z.length<=900/\numS z=G o/\∀H',Same H H'->Q (oV o) H'
def zgc:Sp:=λvs H Q _=>∃(z:Str) (os:List<|Option Int),vs=[.str z]/\z.length<=900/\allS (wB z)=G os/\∀D H',Same H H'->H' D=G (.lst<|os.map oV)->Q 71 H'
def zoc(C:Ad):Sp:=λvs H Q E=>∃(b r:Ad) (tl:List Str) (os:List<|Option Int),vs=[.ref b,.ref r]/\H b=G (.lst 010)/\tl.length<=4/\H r=G (.lst<|os.map oV)/\os.length<=1000/\(os.all (letO tl.length)=N->∀H',Same H H'->Q .non H')/\(os.all (letO tl.length)=Fa->∀a H',Same H H'->H' a=B->E 74 97 H')
def zn4(C:Ad):Sp:=λvs H Q E=>∃(z:Str) (b:Ad) (tl:List Str) (os:List<|Option Int),vs=[.str z,.ref b]/\z.length<=900/\H b=G (.lst 010)/\tl.length<=4/\allS (wB z)=G os/\(os.all (letO tl.length)=N->∀D H',Same H H'->H' D=G (.lst<|os.map oV)->Q 71 H')/\(os.all (letO tl.length)=Fa->∀a H',Same H H'->H' a=B->E 74 97 H')
def lenO:List (Option Int)->Option Nat
 |[G n]=>if decide (0<=n)&&decide (n<101)then G n.toNat else B
 |_=>B
def zn7(C:Ad):Sp:=λvs H Q E=>∃(z:Str) (os:List<|Option Int),vs=[.str z]/\z.length<=900/\allS (wB z)=G os/\(∀n,lenO os=G n->∀H',Same H H'->Q (nV n) H')/\(lenO os=B->∀a H',Same H H'->H' a=B->E 74 97 H')
theorem zrz{z p:Str}(h:p∈pts z):p.length<=z.length:=by
 let(l,C,rfl):=y0f.mp h;rw[zbk,zbk];show zdk 59 _ _ C
theorem zyp(z:Str):pts z≠[]:=λh=>zjj 59 _<|List.map_eq_nil_iff.mp h
theorem zry(z:Str):(pts z).length<=z.length+1:=by
 unfold pts;rw[y01,zbk];show zgw 59 _
theorem zyi{z p:Str}(h:p∈wB z):p.length<=z.length:=by
 let(l,C,rfl):=y0f.mp h;rw[zbk,zbk];show zdk 32 _ _ (y2e.mp C).1
theorem zq7(z:Str):(wB z).length<=z.length+1:=by
 unfold wB wordsL;rw[y01,zbk];show y0v (y1n _ _)<|zgw 32 _
theorem zpg:∀{w:List Str} {os:List (Option Int)},allS w=G os->os.length=w.length
 |[],_,h=>by cases h;rfl
 |z::w,os,h=>by
  unfold allS at h;split at h
  .rename_i o j _ D;cases h;rw[y0i,y0i,zpg D]
  .cases h
theorem zvf:∀{w:List Str} {os:List (Option Int)},allS w=G os->∀{i:Nat} {z:Str},w[i]?=G z->∃o,os[i]?=G o/\numS z=G o
 |[],_,_,_,_,h=>nomatch h
 |z::w,os,h,i,y,hi=>by
  unfold allS at h;split at h
  .rename_i o j M D;cases h
   match i,hi with
   |0,hi=>cases hi;show⟨o,R,M⟩
   |i+1,hi=>show zvf D hi
  .cases h
theorem zpf:∀{w:List Str} {os:List (Option Int)},allS w=G os->os=w.map λz=>(numS z).getD B
 |[],_,h=>by cases h;rfl
 |z::w,os,h=>by
  unfold allS at h;split at h
  .rename_i o j M D;cases h;rw[y0o,M,←zpf D];rfl
  .cases h
def zhp:Sp:=λvs H Q _=>∃(o:Option Int) (k:Nat),vs=[oV o,nV k]/\k<=4/\Q (.bl<|letO k o) H
def zn3(cs:List Ad):Sp:=λvs H Q E=>∃(z:Str) (b:Ad) (tl:List Str),vs=[.str z,.ref b]/\z.length<=900/\(∀x∈wT z,x.length<=1000)/\FrL H b tl/\
 (frameB 010=Fa->∀a H',Same H H'->H' a=B->E (.ref 049) 97 H')/\
 (frameB 010=N->readW (wT z)=B->∀a H',Same H H'->H' a=B->E (.ref 043) 97 H')/\
 (frameB 010=N->∀s,readW (wT z)=G s->letB treeWords 4 tl s=Fa->∀a H',Same H H'->H' a=B->E (.ref 038) 97 H')/\
 (frameB 010=N->∀s,readW (wT z)=G s->letB treeWords 4 tl s=N->∀v H',Same H H'->Rep H' v s->Q v H')
theorem zhs{j:List Str}{s:Sy}(h:readW j=G s):goodB s=N:=by
 unfold readW at h;split at h
 .split at h
  .cases h;assumption
  .cases h
 .cases h
def zga(cs:List Ad):Sp:=λvs H Q E=>∃(ak z:Str) (b:Ad) (tl:List Str),vs=[.str ak,.ref b,.str z]/\z.length<=900/\(∀x∈wT z,x.length<=1000)/\FrL H b tl/\
 (frT tl=Fa->∀a H',Same H H'->H' a=B->E (.ref 049) 97 H')/\
 (frT tl=N->readW (wT z)=B->∀a H',Same H H'->H' a=B->E (.ref 043) 97 H')/\
 (frT tl=N->∀s,readW (wT z)=G s->letB SS.rowWords 3 tl s=Fa/\∀a H',Same H H'->H' a=B->E (.ref 038) 97 H')
def syA:Sy:=.bare "same" "x" "x"
def syB:Sy:=.neg<|.bare "next" "x" "x"
def chkA:Bool:=match mkC syA ["x"]with
 |some M=>M.fin (M.run 0 [0,1,0])&&decide (cnt M 5 0=5)&&decide (M.w=1)
 |none=>Fa
def chkB:Bool:=match mkC syB ["x"]with
 |some M=>chkS M (cstep<|psOf (bsOf ["x"])) cfin (c0<|psOf (bsOf ["x"]))&&decide (M.n<=5)
 |none=>Fa
theorem zyw{s:Sy}{M:Mc}(h:mkC s ["x"]=G M)(j:(frameB (([("x":Str)]:List Str).map V.str)&&goodB s&&letB treeWords 4 ["x"] s&&bnB s&&decide (mcost s<=16))=N):Own ["x"] s M:=by
 let(mo,p):=zh4 _ _ h;simp only[y05,decide_eq_true_eq]at j;let((((f1,q),D),A),l):=j;show⟨f1,znc 52,q,D,A,mo,l,p.ok,p.w⟩
theorem own_A:∃M,Own ["x"] syA M/\M.fin (M.run 0 [0,1,0])=N/\cnt M 5 0=5:=by
 let h:chkA=N:=by decide+kernel
 unfold chkA at h;cases e:mkC syA ["x"]with
 |none=>rw[e]at h;cases h
 |some M =>
  rw[e]at h;simp only[y05,decide_eq_true_eq]at h;show⟨M,zyw e 52,h.1.1,h.1.2⟩
theorem own_B:∃M,Own ["x"] syB M/\M.n<=5/\∀row,M.Row row->fitP (psOf<|bsOf ["x"]) row=N->M.fin (M.run 0 row)=N:=by
 let h:chkB=N:=by decide+kernel
 unfold chkB at h;cases e:mkC syB ["x"]with
 |none=>rw[e]at h;cases h
 |some M =>
  rw[e]at h;simp only[y05,decide_eq_true_eq]at h;show⟨M,zyw e 52,h.2,λrow L j=>by rw[zct h.1 row L,cfin_is];show j⟩
def eqSy:Sy->Sy->Bool
 |.bare a b c,.bare d e f=>decide (a=d)&&decide (b=e)&&decide (c=f)
 |.neg s,.neg t=>eqSy s t
 |_,_=>Fa
theorem zub:∀{s t:Sy},eqSy s t=N->s=t
 |.bare a b c,.bare d e f,h=>by
  simp only[eqSy,y05,decide_eq_true_eq]at h;rw[h.1.1,h.1.2,h.2]
 |.neg s,.neg t,h=>by rw[zub (s:=s) (t:=t) h]
def baseG(z ak:Str)(s:Sy):Bool:=!bdL z&&decide (askOf z=ak)&&decide (frOf z=([("x":Str)]:List Str))&&(match readW (wT<|ptOf z 1)with|some t=>eqSy t s|none=>Fa)
def good57(z j:Str):Bool:=(baseG z "takes" syA&&decide (allS (wB<|ptOf z 2)=G [G 0,G 1,G 0])&&decide (j="yes"))||(baseG z "many" syA&&decide (allS (wB<|ptOf z 2)=G [G 5])&&decide (j="5"))||(baseG z "always" syB&&decide (j="yes"))
theorem good_ok:(good57 "takes x ; x same x ; 0 1 0" "yes"&&good57 "takes x;x same x;0 1 0" "yes"&&good57 "many x ; x same x ; 5" "5"&&good57 "always x ; not x next x" "yes"&&lineB "takes x ; x same x ; 0 1 0"&&lineB "takes x;x same x;0 1 0"&&lineB "many x ; x same x ; 5"&&lineB "always x ; not x next x")=N:=by decide+kernel
def zka(c:Ad)(d:Y3)(l:Ad)(e:Y3)(a:Ad)(qm:Y3)(g:Ad)(u:Y3):Sp:=λvs H Q _=>∃(v:V) (b r:Ad),vs=[.ref b,v,.ref r]/\Tab3 H c d l e a qm/\TabOk H g u/\Rep H v syA/\H b=G (.lst<|([("x":Str)]:List Str).map V.str)/\H r=G (.lst<|([0,1,0]:List Nat).map nV)/\∀H',Same H H'->Q (.str "yes") H'
def zhj(c:Ad)(d:Y3)(l:Ad)(e:Y3)(r:Ad)(qm:Y3)(g:Ad)(u:Y3):Sp:=λvs H Q _=>∃(v:V) (b:Ad),vs=[.ref b,v]/\Tab3 H c d l e r qm/\TabOk H g u/\Rep H v syB/\H b=G (.lst<|([("x":Str)]:List Str).map V.str)/\∀H',Same H H'->Q (.str "yes") H'
def zek(cs:List Ad)(c:Ad)(d:Y3)(l:Ad)(e:Y3)(r:Ad)(qm:Y3)(g:Ad)(u:Y3):Sp:=λvs H Q E=>∃z:Str,vs=[.str z]/\lineB z=N/\((∃ci,rsn z=G ci/\∀a H',Same H H'->H' a=B->E (.ref<|cs.getD ci 0) 97 H')\/∃j,good57 z j=N/\Tab3 H c d l e r qm/\TabOk H g u/\∀H',Same H H'->Q (.str j) H')
theorem zxl{z:Str}(h:lineB z=N):z.length<=900/\∀x∈wT (ptOf z 1),x.length<=1000:=by
 unfold lineB at h;let(Y,h2):=y2g.mp h;show⟨of_decide_eq_true Y,λx J=>of_decide_eq_true<|y0s.mp h2 x J⟩
theorem zv0{z:Str}{i:Nat}(h:i<(pts z).length):(pts z)[i]?=G (ptOf z i)/\(ptOf z i).length<=z.length:=by
 let e:=y00 h;let D:ptOf z i=(pts z)[i]:=by unfold ptOf;rw[y02,e];rfl
 show⟨by rw[D];show e,by rw[D];show zrz<|y0b h⟩
theorem zoq[BEq d][LawfulBEq d]:∀{l:List (d×p)},l.lookup x=G y->(x,y)∈l
 |[],h=>nomatch h
 |(a,b)::l,h=>by
  rw[y0w]at h;cases e:x==a with
  |true=>rw[e]at h;cases h;rw[eq_of_beq e];show y0c
  |false=>rw[e]at h;show y08 _<|zoq h
theorem zsi:∀p∈parts57,2<=p.2/\((p.1="takes"\/p.1="many")->p.2=3):=by decide+kernel
theorem zvz{z:Str}(h:bdL z=Fa):2<=(pts z).length/\((askOf z="takes"\/askOf z="many")->(pts z).length=3):=by
 unfold bdL at h;unfold askOf;cases e:ws57 z with
 |nil=>rw[e]at h;cases h
 |cons w r =>
  rw[e]at h;let h:(match parts57.lookup w with|none=>N|some k=>decide 090)=Fa:=h;cases l:parts57.lookup w with
  |none=>rw[l]at h;cases h
  |some k =>
   rw[l]at h;let h:decide 090=Fa:=h;let O:((pts z).length:Int)=k:=Classical.byContradiction λn=>by rw[Xg n]at h;cases h
   let(h2,h3):=zsi _<|zoq l;show⟨by have:2<=k:=h2;omega,λg=>by have:k=3:=h3 g;omega⟩
theorem zxu{z:Str}(hz:z.length<=900):(frOf z).length<=1000/\∀y∈frOf z,y.length<=1000:=by
 unfold frOf ws57;let p:((pts z).headD "").length<=900:=by
  cases e:pts z with
  |nil=>show Xa e<|zyp z
  |cons a l=>show y0v (zrz<|by rw[e];show y0c) hz
 apply⟨?_,λy L=>?_⟩
 .rw[List.length_tail];let:=zq7<|(pts z).headD "";omega
 .let:=zyi<|List.mem_of_mem_tail L;omega
theorem in_asks(ak:Str):inV (.str ak) [.str "treerooms",.str "treealways"]=decide (ak∈(["treerooms","treealways"]:List Str)):=by
 rw[y1f,decide_eq_true_eq];simp only[inV,y2w,List.any_nil,y3h,y2y,eqV,beq_iff_eq,y09,y0l,or_false];show⟨λh=>h.imp Eq.symm Eq.symm,λh=>h.imp Eq.symm Eq.symm⟩
theorem zcl{z j:Str}(h:good57 z j=N):bdL z=Fa/\frOf z=[("x":Str)]/\((askOf z="takes"/\readW (wT<|ptOf z 1)=G syA/\allS (wB<|ptOf z 2)=G [G 0,G 1,G 0]/\j="yes")\/(askOf z="many"/\readW (wT<|ptOf z 1)=G syA/\allS (wB<|ptOf z 2)=G [G 5]/\j="5")\/(askOf z="always"/\readW (wT<|ptOf z 1)=G syB/\j="yes")):=by
 let b:∀{ak:Str} {s:Sy},baseG z ak s=N->bdL z=Fa/\askOf z=ak/\frOf z=[("x":Str)]/\readW (wT<|ptOf z 1)=G s:=λ{ak s} h=>by
  unfold baseG at h;simp only[y05,decide_eq_true_eq,Bool.not_eq_true']at h;let(((Y,h2),h3),p):=h;apply⟨Y,h2,h3,?_⟩;cases e:readW (wT<|ptOf z 1)with
  |none=>rw[e]at p;cases p
  |some t=>rw[e]at p;rw[zub p]
 unfold good57 at h;simp only[y2y,y05,decide_eq_true_eq]at h;rcases h with(⟨⟨Y,h2⟩,h3⟩|⟨⟨Y,h2⟩,h3⟩)|⟨Y,h3⟩
 .let(a,c,d,e):=b Y;show⟨a,d,.inl ⟨c,e,h2,h3⟩⟩
 .let(a,c,d,e):=b Y;show⟨a,d,.inr<|.inl ⟨c,e,h2,h3⟩⟩
 .let(a,c,d,e):=b Y;show⟨a,d,.inr<|.inr ⟨c,e,h3⟩⟩
def flg(ci:Nat):List Bool:=[N,decide (5=ci),decide (1=ci),decide (0=ci),decide (3=ci),decide (2=ci),decide (4=ci),decide (6=ci),decide (7=ci),decide (8=ci)]
def zho:Sp:=λvs H Q _=>∃(z:Str) (ci:Nat),vs=[.str z]/\lineB z=N/\rsn z=G ci/\ci<6/\∀D H',Same H H'->H' D=G (.lst<|(flg ci).map V.bl)->Q 71 H'
def zob:Sp:=λvs H Q _=>∃ci:Nat,vs=[.str<|nm57.getD ci ""]/\ci<6/\∀D H',Same H H'->H' D=G (.lst<|(flg ci).map V.bl)->Q 71 H'
def zb3(c:Nat):Sp:=λvs H Q _=>∃n:Int,vs=[.int n]/\∀z H',Same H H'->(z,c)∈menu57->Q 94 H'
def zyn:Sp:=λvs H Q _=>∃n:Int,vs=[.int n]/\∀z ci t H',Same H H'->(z,ci)∈sev57->H' t=G (.tup [.str z,.str<|nm57.getD ci ""])->Q (.ref t) H'
def zn5:Sp:=λvs H Q _=>∃n:Int,vs=[.int n]/\∀z ci t H',Same H H'->(z,ci)∈menu57->H' t=G (.tup [.str z,.str<|nm57.getD ci ""])->Q (.ref t) H'
theorem mn1{z:Str}(h:z∈noLine):(z,5)∈menu57:=y0a _<|y0a _ (y0a _<|y0a _ (y0a _<|y0a _ (y0a _<|y0a _ (y0f.mpr ⟨z,h,R⟩))))
theorem mn2{h f s:Str}(Y:h∈heads57)(h2:f∈noFr)(h3:s∈noFrS):(h++(" ":Str)++f++(" ; ":Str)++s,1)∈menu57:=y0a _<|y0a _ (y0a _<|y0a _ (y0a _<|y0a _ (y0a _<|y0p _ (y1q.mpr ⟨h,Y,y1q.mpr ⟨f,h2,y0f.mpr ⟨s,h3,R⟩⟩⟩))))
theorem mn3{h s:Str}{k:Nat}(Y:h∈heads57)(h2:k<3)(h3:s∈noTx):(h++(" x ":Str)++(";":Str)++mulS (" ":Str) k++s,0)∈menu57:=y0a _<|y0a _ (y0a _<|y0a _ (y0a _<|y0a _ (y0p _<|y1q.mpr ⟨h,Y,y1q.mpr ⟨k,y0x.mpr h2,y0f.mpr ⟨s,h3,R⟩⟩⟩)))
theorem mn4{h s:Str}(h1:h∈heads57)(h2:s∈noSy):(h++064++s,3)∈menu57:=y0a _<|y0a _ (y0a _ 182)
theorem mn5{h s:Str}(h1:h∈heads57.take 2)(h2:s∈noRw):(h++064++s,3)∈menu57:=y0a _<|y0a _ 182
theorem mn6{h s:Str}(h1:h∈heads57.drop 2)(h2:s∈noTr):(h++064++s,3)∈menu57:=y0a _ 182
theorem mn7{s:Str}(h:s∈noRow):(("takes x ; x same x ; ":Str)++s,2)∈menu57:=y0a _<|y0a _ (y0p _<|y0f.mpr ⟨s,h,R⟩)
theorem mn8{s:Str}(h:s∈noNum):(("many x ; x same x ; ":Str)++s,4)∈menu57:=y0a _<|y0p _ (y0f.mpr ⟨s,h,R⟩)
theorem mn9{p:Str×Nat}(h:p∈sev57):p∈menu57:=y0p _ h
theorem few57:(∀y∈heads57,y.length<=30)/\(∀y∈noFr,y.length<=30)/\(∀y∈noFrS,y.length<=30)/\(∀y∈noTx,y.length<=30)/\(∀y∈noSy,y.length<=30)/\(∀y∈noRw,y.length<=30)/\(∀y∈noTr,y.length<=30)/\(∀y∈noRow,y.length<=30)/\(∀y∈noNum,y.length<=30):=by decide+kernel
theorem lit57:(" ":Str).length<=30/\(" ; ":Str).length<=30/\(" x ":Str).length<=30/\(";":Str).length<=30/\(064).length<=30/\("takes x ; x same x ; ":Str).length<=30/\("many x ; x same x ; ":Str).length<=30:=by decide+kernel
theorem zbo{a b:Str}{m n:Nat}(g:a.length<=m)(U:b.length<=n):(a++b).length<=m+n:=by rw[strLen_append];omega
theorem pickS{L:List Str}{m:Int}{k:Nat}(O:(L.map V.str).length=k)(h0:0<k):∃y,y∈L/\atI (L.map V.str) (m%(k:Int))=G (.str y):=by
 let(v,hv,d):=atI_mod (i:=m) O h0;let(y,p,rfl):=y0f.mp d;show⟨y,p,hv⟩
theorem mul_sp{k:Nat}(h:k<3):(mulS (" ":Str) k).length<=30:=by
 let:∀k,k<3->(mulS (" ":Str) k).length<=30:=by decide+kernel
 show this k h
def rw4:List Str:=["x left y","x above x","right1 same x","x right x"]
def tr4:List Str:=["x next y","x ahead x","left1 same x","x next x"]
def grP:List Str:=["some x some y (x next y and (x in X and y in X))","some x some y (x next y and (x in X and y in Y))","some x some y (x next y and (not x in X and y in X))","some x some y (x next y and (x in Y and y in X))","some x some y (x next y and (x in Y and y in Y))","some x some y (x next y and (not x in Y and y in Y))"]
def grF(l:List Str)(z:Str):Str:=l.foldl (λz p=>("(":Str)++z++(" and ":Str)++p++(")":Str)) z
def grT:Str:=grF (grP.drop 1)<|grP.getD 0 ""
theorem gr_ok:lineB (("takes X Y ; ":Str)++grT++(" ; x":Str))=N/\rsn (("takes X Y ; ":Str)++grT++(" ; x":Str))=G 2/\lineB (("many X Y ; ":Str)++grT++(" ; 101":Str))=N/\rsn (("many X Y ; ":Str)++grT++(" ; 101":Str))=G 4/\grT.length<=600:=by decide+kernel
def zn8:Sp:=λvs H Q _=>vs=[]/\∀H',Same H H'->Q (.str grT) H'
def xyL:List Str:=["X","Y"]
theorem gr_two:∀i,i<2->∀j,j<2->Str.empty++("some x some y (x next y and (x in ":Str)++xyL.getD i ""++(" and y in ":Str)++xyL.getD j ""++("))":Str)=grP.getD (3*i+j) "":=by decide+kernel
theorem gr_one:∀i,i<2->Str.empty++("some x some y (x next y and (not x in ":Str)++xyL.getD i ""++(" and y in ":Str)++xyL.getD i ""++("))":Str)=grP.getD (3*i+2) "":=by decide+kernel
theorem zy9:(∀p∈grP,p.length<=90)/\("some x some y (x next y and (x in ":Str).length<=90/\("some x some y (x next y and (not x in ":Str).length<=90/\(" and y in ":Str).length<=90/\("))":Str).length<=90/\("(":Str).length<=1/\(")":Str).length<=1/\(" and ":Str).length<=5/\(∀i,i<2->(xyL.getD i "").length<=1)/\Str.empty.length<=0:=by decide+kernel
theorem ztu(k:Nat)(h:k<6):(grP.take<|k+1).map V.str=(grP.take k).map V.str++[.str<|grP.getD k ""]:=by
 rw[y14,y0y,y02,y00<|show k<grP.length from h];rfl
theorem xy_at{i:Nat}{y:V}(h:([V.str "X",V.str "Y"]:List V)[i]?=G y):i<2/\y=.str (xyL.getD i ""):=by
 match i,h with
 |0,h=>cases h;show⟨by decide,R⟩
 |1,h=>cases h;show⟨by decide,R⟩
theorem zxs(l:List Str)(p z:Str):grF (l++[p]) z=("(":Str)++grF l z++(" and ":Str)++p++(")":Str):=by
 unfold grF;rw[y2q];rfl
theorem grF_len:∀k,k<6->(grF ((grP.drop 1).take k)<|grP.getD 0 "").length<=600:=by decide+kernel
def ans57:List Str:=["yes","5","yes"]
end SM
namespace L2
section
variable {X:Cx}{e:Expr}{es:List Expr}{te:TE}{tu:TA}{pos:Pos}
theorem zdh{x:Str}{j:Nat}:PEU X (.Constant (.str x) j pos) (tC<|.str x):=λ_ _ _ H _ I h=>Calls.Constant_str ⟨y3a _ _,.str x,H,I.tok _,⟨_,R⟩,h⟩
theorem zcb{n k:Nat}{x:Str}{ps:List Str}{sp:Sp}{p:Pos}(C:CalET X.prog X.w X.K X.mg X.base n x ps sp)(hr:Room k X.A)(hle:n<=k)(y:Gl X x)(g:PAU X (e::es) tu)(i:82=Fa:=by decide)
  (Y:notStar e=N:=by rfl) (h2:es.all notStar=N:=by rfl):PE X 012 (tCall sp [] E0 tu):=λpins s σ H Q I O=>by
 let(f,fd,F,b,kp,m):=C.ex;apply i4<|zb8 I y m ?_ i;apply PySem.W.callWith_K (h₀:=X.base) I.ok.mod.kin kp (thn (g pos pins s σ H _ I O) λus s1 ⟨ht1,vs,H1,I1,r,q⟩=>⟨I1.kIn,?_⟩) (zar Y)<|za7 h2;let r2:Vals (vs++[]) (us++[]):=r.append .nil;let hl:(us++[]).length=ps.length:=by rw[←r2.length];show F.len _ _ _ _ q
 apply iO<|iA 176 λres s' z=>?_;cases res with
 |error l=>show passE0 pins σ H1 s1 l s' I1 z
 |ok J =>
  cases J with
  |ret _=>show I1.after z
  |next=>show z.elim
  |brk=>show z.elim
  |cont=>show z.elim
theorem psU_asg{r:Expr}{g:TG}(d:PEU X e te)(y:PG X r g)(hs:swapsWithSole [r] e pos.line X.env=pure Fa:=by rfl)(O:swappedStores [r] e X.env=pure B:=by rfl)
  (Y:(jn [r] X.env).map (·.2)=[assign r X.env]:=by rfl):PSU X (.Assign [r] e pos) (tAsg te g):=by
 intro pins s σ H D I h;apply wpAny_Assign_stores (thn (d pins s σ H _ I h) λv s1 z=>?_) hs O;let(w,x,H1,I1,r1,q1):=z;rw[Y];show thn (upT w<|y pins s1 σ H1 x v _ I1 r1 q1) λ_ s2 q=>q
end
end L2
namespace SM
open PySem PySem.Spec PyProof.Rows L2 SS
theorem zor{p c:Type}(f:p->c)(x:Str):∀l:List<|Str×p,(l.map λq=>(q.1,f q.2)).lookup x=(l.lookup x).map f
 |[]=>rfl
 |(a,b)::l=>by
  rw[y0o,y0w,y0w,zor f x l];cases x==a<;>rfl
theorem parts_mk{K:Frag}{h:Heap}{w:World}{mg:Y1}{p:Ad}{i:Array DictEntry}{n:Nat}(X:K.In h)(Gq:h.Ns ir mg)(a:PySem.W.nsIn K ir "PARTS"=G (G 42))(lo:(p==iE)=Fa)(l:K.lookup p=G ⟨.type "dict",B,.dict i n,#[]⟩)
  (O:PySem.W.KeysLit w.params i.toList) (d:i9 (λ(e:DictEntry) (q:Str×V)=>(∃t,e.key=.str q.1 t)/\RelV q.2 e.val) i.toList<|parts57.map λq=>(q.1,V.int q.2)):∃q,GlV mg "PARTS" (.ref q)/\PartsD K w q:=by
 apply⟨p,⟨_,PySem.W.mg_of X Gq a,R⟩,⟨λx=>(parts57.map λq=>(q.1,V.int q.2)).lookup x,⟨lo,i,n,l,O,λx=>?_⟩,λx=>zor V.int x parts57⟩⟩;show zo5 (f:=λ_=>B) d x
end SM
namespace L2
open PySem
theorem fitS{n:Nat}{P:List Va->Prop}(h:∀a us,us.length=n->P (a::us)):∀us:List Va,us.length=n+1->P us
 |a::us,e=>h a us<|Nat.succ.inj e
theorem fit0{P:List Va->Prop}(h:P []):∀us:List Va,us.length=0->P us
 |[],_=>h
theorem fit1{P:List Va->Prop}(h:∀a,P [a]):∀us:List Va,us.length=1->P us:=fitS λa=>fit0<|h a
theorem fit2{P:List Va->Prop}(h:∀a b,P [a,b]):∀us:List Va,us.length=2->P us:=fitS λa=>fit1<|h a
theorem fit3{P:List Va->Prop}(h:∀a b c,P [a,b,c]):∀us:List Va,us.length=3->P us:=fitS λa=>fit2<|h a
theorem fit4{P:List Va->Prop}(h:∀a b c d,P [a,b,c,d]):∀us:List Va,us.length=4->P us:=fitS λa=>fit3<|h a
theorem fit5{P:List Va->Prop}(h:∀a b c d e,P [a,b,c,d,e]):∀us:List Va,us.length=5->P us:=fitS λa=>fit4<|h a
theorem fit6{P:List Va->Prop}(h:∀a b c d e f,P [a,b,c,d,e,f]):∀us:List Va,us.length=6->P us:=fitS λa=>fit5<|h a
end L2
namespace K57
open PySem PySem.Spec PyProof.Rows L2 SS SM
local macro_rules| `(tactic|trivial)=>`(tactic|((try dsimp only[tIfZ,tIfY,tIfX,tSeqZ,tCutZ,asI_l,asR_l,asS_l,asB_l,as1_l,zmq,zmp,zmo,zmn,zrw,rLenZ,rListOfZ,rAllZ,rInZ,rSlLZ,rSlTZ,rAppZ,rCatZ,rLeSZ,tReplace,tListRev,rSplit,rJoin,rPop,rMulS,rNeS2,tRaise,tTryA,rIsX,rIsXT,rRepN,rSetL,gSub,rUpper,rLower,rEqI,rNeI,rInDc,rLenD,rLenT,rDictOf,rMaxL,rIndex,rCatTN,rCatTE,tDNewN,tDNewTN,tDisp1T,rNeM,rRange2,rListRng,rPopAt,ipI,tDGet,tDGet2,sDPut,iEnum,iEZ,iZipL,tLam,tCallA,tCallV,tDef,tListZip,rIskT,rIndexT,tCallG,gLst,rSortS,rSortF,tCallVLE,tCallVE,iRev,tTry,rRepT,iRng3,tTryN,tTryX,rLeL,rNotInD,tJoin,tFmt,iZip,rInD,rIxD,rLen,rAll,rAny,rSum,rListOf,rEqS,rNeS,rSlTN,rStrB,tTupN,tLstN,rSlLN,rCatN,cxK,cxP,cxW,tSeq,tIfS,tTest,tB,tOp,tUn,tC,tAnd,tOr,tNot,tAndV,tOrV,tNotV,tIf,tNext,tBreak,tCont,tDrop,tRet,tRetN,gName,gNil,gCons,gTup,tAsg,tPar,tAug,rI,rI0,rU,rEq,rNe,tChain,tNil,tCons,tTup,tLst,tCall,tCB,tNoPart,tPart,tSl,rSlT,rSlL,rSlS,rIxL,rIxT,rIxS,rIn,tBM0,tBM,tyV,rAppend,rExtend,rCat,rZfill,rEqD,iList,iTup,iStr,iRng1,iRng2,tYes,tDisp,tPairs,rd_v0,rd_vS,zrv,zyo,zoe,zof,List.set_cons_zero,List.set_cons_succ,y2k,y1r,rd_ss,rd_si,rd_is,rd_ii,rd_bb]);(try simp only[tIfZ,tIfY,tIfX,tSeqZ,tCutZ,asI_l,asR_l,asS_l,asB_l,as1_l,zmq,zmp,zmo,zmn,zrw,rLenZ,rListOfZ,rAllZ,rInZ,rSlLZ,rSlTZ,rAppZ,rCatZ,rLeSZ,tReplace,tListRev,rSplit,rJoin,rPop,rMulS,rNeS2,tRaise,tTryA,rIsX,rIsXT,rRepN,rSetL,gSub,rUpper,rLower,exists_eq',rEqI,rNeI,rInDc,rLenD,rLenT,rDictOf,rMaxL,rIndex,rCatTN,rCatTE,tDNewN,tDNewTN,tDisp1T,rNeM,rRange2,rListRng,rPopAt,ipI,tDGet,tDGet2,sDPut,iEnum,iEZ,iZipL,tLam,tCallA,tCallV,tDef,tListZip,rIskT,rIndexT,tCallG,gLst,rSortS,rSortF,tCallVLE,tCallVE,iRev,tTry,rRepT,iRng3,tTryN,tTryX,rLeL,rNotInD,tJoin,tFmt,iZip,rInD,rIxD,rLen,rAll,rAny,rSum,rListOf,rEqS,rNeS,rSlTN,rStrB,tTupN,tLstN,rSlLN,rCatN,cxK,cxP,cxW,tSeq,tIfS,tTest,tB,tOp,tUn,tC,tAnd,tOr,tNot,tAndV,tOrV,tNotV,tIf,tNext,tBreak,tCont,tDrop,tRet,tRetN,gName,gNil,gCons,gTup,tAsg,tPar,tAug,rI,rI0,rU,rEq,rNe,tChain,tNil,tCons,tTup,tLst,tCall,tCB,tNoPart,tPart,tSl,rSlT,rSlL,rSlS,rIxL,rIxT,rIxS,rIn,tBM0,tBM,tyV,rAppend,rExtend,rCat,rZfill,rEqD,iList,iTup,iStr,iRng1,iRng2,tYes,tDisp,tPairs,rd_v0,rd_vS,zrv,zyo,zoe,zof,List.set_cons_zero,List.set_cons_succ,y2k,y1r,y1z,V.int.injEq,V.str.injEq,V.bl.injEq,V.ref.injEq,V.ty.injEq,List.cons.injEq,and_true,true_and,exists_eq_left,exists_eq_left',exists_and_left,exists_eq,exists_const,if_true,if_false,ite_true,ite_false,rd_ss,rd_si,rd_is,rd_ii,rd_bb,Option.some.injEq,exists_eq_right,exists_eq_right',and_assoc,reduceCtorEq,false_and,and_false,false_or,or_false,exists_false])))
noncomputable def top(i:Nat):Stmt:=PySem.Challenge.pw_setsays_k57_lines_refused.main.body.getD i<|.Pass ⟨0,0,0,0⟩
structure Txt(K:Frag)(mg:Y1)(w:World)(tw rw ow fa pa ta cj ca ce co cn cSayError:Ad)(cs:List Ad):Prop where
 b_isinstance:mg "isinstance"=B
 b_str:mg "str"=B
 b_tuple:mg "tuple"=B
 b_list:mg "list"=B
 b_int:mg "int"=B
 b_bool:mg "bool"=B
 b_dict:mg "dict"=B
 b_set:mg "set"=B
 b_len:mg "len"=B
 b_any:mg "any"=B
 b_sorted:mg "sorted"=B
 b_ValueError:mg "ValueError"=B
 b_min:mg "min"=B
 b_all:mg "all"=B
 b_sum:mg "sum"=B
 b_max:mg "max"=B
 b_range:mg "range"=B
 b_zip:mg "zip"=B
 b_enumerate:mg "enumerate"=B
 b_reversed:mg "reversed"=B
 g_MOST_COME_TO:GlV mg "MOST_COME_TO"<|.int 100
 g_LONGEST:GlV mg "LONGEST"<|.int 100
 g_LONGEST_NAME:GlV mg "LONGEST_NAME"<|.int 4
 g_MOST_NAMES:GlV mg "MOST_NAMES"<|.int 4
 g_MOST_TREE_NAMES:GlV mg "MOST_TREE_NAMES"<|.int 3
 g_DEEPEST:GlV mg "DEEPEST"<|.int 12
 g_MOST_PARTS:GlV mg "MOST_PARTS"<|.int 60
 g_MOST_FIGURES:GlV mg "MOST_FIGURES"<|.int 3
 g_FIGURES:GlV mg "FIGURES"<|.str FIGS
 g_SMALL_LETTERS:GlV mg "SMALL_LETTERS"<|.str SMALL
 g_GREAT_LETTERS:GlV mg "GREAT_LETTERS"<|.str GREAT
 g_TELLING_WORDS:GlV mg "TELLING_WORDS"<|.ref tw
 t_TELLING_WORDS:∀H,SqT K H tw [.str "some",.str "all"]
 g_TREE_WORDS:GlV mg "TREE_WORDS"<|.ref rw
 t_TREE_WORDS:∀H,SqT K H rw [.str "left",.str "right",.str "above"]
 g_ROW_WORDS:GlV mg "ROW_WORDS"<|.ref ow
 t_ROW_WORDS:∀H,SqT K H ow [.str "ahead",.str "next"]
 g_TREE_ASKS:GlV mg "TREE_ASKS"<|.ref ta
 t_TREE_ASKS:∀H,SqT K H ta [.str "treerooms",.str "treealways"]
 g_FORMS:GlV mg "FORMS"<|.ref fa
 f_FORMS:Forms K w fa
 g_PARTS:GlV mg "PARTS"<|.ref pa
 f_PARTS:PartsD K w pa
 g_JUST_ONCE:GlV mg "JUST_ONCE"<|.ref cj
 c_JUST_ONCE:CMach K cj justM
 g_ANY_ROW:GlV mg "ANY_ROW"<|.ref ca
 c_ANY_ROW:CMach K ca anyM
 g_EACH_IN:GlV mg "EACH_IN"<|.ref ce
 c_EACH_IN:CMach K ce eachM
 g_COMES_AHEAD:GlV mg "COMES_AHEAD"<|.ref co
 c_COMES_AHEAD:CMach K co aheadM
 g_COMES_NEXT:GlV mg "COMES_NEXT"<|.ref cn
 c_COMES_NEXT:CMach K cn nextM
 v_joined:∃q,GlV mg "joined"<|.ref q
 v_dropped:∃q,GlV mg "dropped"<|.ref q
 m_SayError:mg "SayError"=G 075
 m_NoText:mg "NoText"=G (.ref 043)
 m_NoFrame:mg "NoFrame"=G (.ref 049)
 m_NoRow:mg "NoRow"=G (.ref<|cs.getD 2 0)
 m_NoSaying:mg "NoSaying"=G (.ref 038)
 m_NoNumber:mg "NoNumber"=G (.ref 066)
 m_NoLine:mg "NoLine"=G (.ref<|cs.getD 5 0)
 m_NoTree:mg "NoTree"=G (.ref<|cs.getD 6 0)
 m_NoWidth:mg "NoWidth"=G (.ref<|cs.getD 7 0)
 m_TooGreat:mg "TooGreat"=G (.ref<|cs.getD 8 0)
 k_SayError:KSup K cSayError
 kx:∀j,j<6->KExc K (cs.getD j 0)
 ms:∀j,j<6->PySem.W.mroIn K (cs.getD j 0) 075=G N
 iV:∀j,j<6->PySem.W.kitOne K 082 093=G N
 q0:∀j,j<9->PySem.W.kitOne K (.ref 043) 082=G (decide (j=0))
 q1:∀j,j<9->PySem.W.kitOne K (.ref 049) 082=G (decide (j=1))
 q2:∀j,j<9->PySem.W.kitOne K (.ref<|cs.getD 2 0) 082=G (decide (j=2))
 q3:∀j,j<9->PySem.W.kitOne K (.ref 038) 082=G (decide (j=3))
 q4:∀j,j<9->PySem.W.kitOne K (.ref 066) 082=G (decide (j=4))
 q5:∀j,j<9->PySem.W.kitOne K (.ref<|cs.getD 5 0) 082=G (decide (j=5))
 x_NoText:PySem.W.excIn K 043 veM "ValueError.__new__"=N
 x_NoFrame:PySem.W.excIn K 049 veM "ValueError.__new__"=N
 x_NoRow:PySem.W.excIn K (cs.getD 2 0) veM "ValueError.__new__"=N
 x_NoSaying:PySem.W.excIn K 038 veM "ValueError.__new__"=N
 x_NoNumber:PySem.W.excIn K 066 veM "ValueError.__new__"=N
 x_NoLine:PySem.W.excIn K (cs.getD 5 0) veM "ValueError.__new__"=N
seal PE PT PW PA PS PSs
section
variable {P:ik}{w:World}{K:Frag}{mg:Y1}{base:Heap}{tw rw ow fa pa ta cj ca ce co cn cSayError:Ad}{cs:List Ad}
abbrev Ty:Stmt:=top 14
theorem Qo:FnScope ["machine","rooms","known","at","here","room"] ["machine"] (defScope Ty):={}
variable (T:Txt K mg w tw rw ow fa pa ta cj ca ce co cn cSayError cs)
include T in
theorem zp6(d:Dfn K mg "reached" Ty ["machine"]):03 1 "reached" ["machine"] zhk:=by
 apply d.cal Qo 09 51
 .nofun
 let(a,m,rfl,(b,c,rs,ea,eb,pr,ec),ok,q):=h;let U:=zfh hr 8 06;let d5:=zbq ok.wid;let hf:m.n<=100:=ok.few;let at1:atI [nV m.w,V.ref b,V.ref c] 1=G (V.ref b):=zam (j:=1) rfl;apply⟨_,(zab (zal (i:=1) Qo.nd R 08<|zas (pa_c zaf zaa))<|zab (zal (i:=2) Qo.nd R 08<|pe_disp (zv6 zaf zes pps_nil) R R 05 06) (zab (zal (i:=3) Qo.nd R 08 zaf)<|zab (zep PassesOwn.never (zak zsn (pv 3) 104 56)<|zab (zal (i:=4) Qo.nd R 08<|zao 72 (pv 1) (pv 3) (λ_ _=>rfl)) (zab (zc7 PassesOwn.never R (zb4 K<|zao 39 (zao 39 (pv 0) zaf λ_ _=>rfl) (pv 4) (λ_ _=>rfl)) (zaq (i:=5) Qo.nd 00 54)<|zac (za3 (zak (zcs U) (pv 5) (pv 2)<|by with_unfolding_all rfl) (zab (zeq U (pv 2) (pv 5) zes R)<|zac (za8<|zbz K PySem.F.plainAttrs_list PySem.F.slot_list_append PySem.F.type_list_append zbe (pv 1) (pa_c (pv 5) zaa))) zan))<|zac (zyr (i:=3) Qo.nd R 08 zaf zy8))) (zac<|zah (pv 1)))),?_⟩;apply zav [G 07,B,B,B,B,B] R ?_;trivial;apply⟨by decide,λp H1 u kd nkd=>⟨zat,[((Sum.inl 0:Key),V.bl N)],R,by decide,?_⟩⟩;let npk:p≠kd:=zau u.at' nkd;apply⟨λI σ H'=>∃(rooms:List Nat) (at':Nat) (v4 v5:Option V),I=m.n-at'/\Same H H'/\σ=[G 07,G 42,G<|.ref kd,G<|nV at',v4,v5]/\H' p=G (.lst<|rooms.map nV)/\H' kd=G (.dK<|knT rooms)/\Come m rooms at' 0/\at'<=rooms.length,
  ⟨m.n,[0],0,B,B,R,?_,R,?_,?_,Come.start ok.pos,y17 _⟩,?_⟩
 .exact((u.g.trans<|zbb nkd _).wr (u.g.free nkd) _)
 .rw[zaj npk,zaj npk];show u.at'
 .rw[zat];rfl
 rintro I σ H' ⟨rooms,at',v4,v5,rfl,g,rfl,ep,ek,cm,ha⟩;let hrl:rooms.length<=m.n:=zdr cm.nd cm.lt;trivial;apply⟨_,.inl<|.of ep,?_⟩;rw[y01];by_cases a7:at'<rooms.length
 .refine itT (show(at':Int)<(rooms.length:Int) by omega) ⟨λO J=>∃o,o<m.n-at'/\_,λO J z=>z,?_⟩;ac_rfl;let db:=cm.lt _<|zez a7;let atr:(rooms.map nV)[at']?=G (nV<|ix rooms at'):=by rw[y04,zc3 a7];rfl
  let ao:ix rooms at'<m.ways.length:=by rw[ok.len];show db
  let(v,ev,a2,rfl,e4):=Paired.at2 pr<|y00 ao;let Y:=ok.line _<|y0b ao;apply zk ?_;apply⟨_,.of ep,_,zam atr,_,.of<|g _ _ ea,_,at1,_,.of<|g _ _ eb,_,zam ev,⟨_,.of<|g _ _ e4⟩,?_⟩;apply zt9 (K:=K) (a:=a2) (xs:=m.ways[ix rooms at'].map nV) (λl σ J=>Same H J/\∃(x:List Nat) (v5:Option V),σ=[G 07,G 42,G<|.ref kd,G<|nV at',G<|nV (ix rooms at'),v5]/\J p=G (.lst<|x.map nV)/\J kd=G (.dK<|knT x)/\Come m x at' l/\at'<x.length/\ix x at'=ix rooms at')
   ⟨g,rooms,_,R,ep,ek,cm,a7,R⟩ (λi σ J _ z=>.of<|z.1 _ _ e4) ?_ ?_
  .rintro l y σ J L ⟨g2,x,v5',rfl,ay,av,dc,km,ei⟩;rw[y04]at L;ac_rfl;let(r,er,rfl):=y10.mp L;let C:l<2^m.w:=by rw[←Y];show(y0d.mp er).1
   let(line,f1,f2,D):=ok.at db C;let egl:r=m.go (ix x at') l:=by
    rw[y00 ao]at f1;cases f1;rw[er]at f2;rw[ei];show Option.some.inj f2
   let md:x.length<=m.n:=zdr dc.nd dc.lt;let nn:p≠kd:=zm4 ay av (by intro z;cases z);apply zk ?_;trivial;apply⟨_,DGet.n av,?_⟩;rw[zna];by_cases M:r∈x
   .rw[Xq M];apply iteF ⟨g2,x,ay,av,?_,km,ei⟩;show dc.old km (by rw[←egl];show M)
   .rw[Xp M];let hnk:H kd=B:=u.g.free nkd;apply iteT ⟨_,DPut.n av (by rw[knT_len];show small1000 01),.inl ⟨_,.of<|by rw[zaj nn];show ay⟩,_,by rw[zaj nn];show ay,by rw[y01];show small1000 01,?_⟩;apply⟨(g2.wr hnk _).wr u.nil _,x++[r],?_,?_,?_,by rw[y0j,y0u];omega,by rw[zy7 km];show ei⟩
    .rw[zat,y0y];rfl
    .rw[zaj<|Ne.symm nn,zat,knT_put M]
    .let z:=dc.new km C (by rw[ei];show D) (by rw[←egl];show M);rw[←egl]at z;show z
  .rintro σ J ⟨g2,x,v5',rfl,ay,av,dc,km,ei⟩;rw[y01,Y]at dc;let md:x.length<=m.n:=zdr dc.nd dc.lt;trivial;show⟨_,R,_,R,m.n-(at'+1),by omega,x,at'+1,R,g2,R,ay,av,dc.turn,by omega⟩
 .rw[Xf<|show¬(at':Int)<(rooms.length:Int) by omega];let e:at'=rooms.length:=by omega
  subst e;apply iteF ?_;show q p rooms H' u.nil g ep cm
abbrev Kn:Stmt:=top 15
theorem zfa:FnScope ["rooms","numbers"] ["rooms","numbers"] (defScope Kn):={}
include T in
theorem zp4(d:Dfn K mg "renamed" Kn ["rooms","numbers"]):03 1 "renamed" ["rooms","numbers"] ze6:=by
 apply d.cal zfa 09 51
 .nofun
 let(a,b,l,g,rfl,O,C,lk,q):=h;let U:=zfh hr 8 06;rcases lk with⟨kvs,u,hv⟩|⟨ns,u,hv⟩
 .refine⟨_,(zac<|zah (zby za2 00 T.b_tuple iR<|pa_c (zay ["room"] [(1,"numbers")] 83 00 (zb4 K<|pv 0) (λ_ _ _ _ _=>(zaq (i:=0) (show List.Nodup (["room","numbers"]:List Str) by decide+kernel) 00 54)) (λ_ _ _ _ _=>zbd) λ_ _ _ _ _=>(zdq U (pv 1) (pv 0) λ_ _=>rfl)) zaa)),?_⟩;apply zav [G 07,G 53] R ?_;trivial;apply⟨⟨_,.of O⟩,zfr (K:=K) (a:=a) (xs:=l.map nV) (λσ=>∃v,σ=[v,G 53]) (λy=>match y with|.int z=>nV (g z.toNat)|v=>v) (by rw[y01];omega) (.of O) ⟨_,R⟩ ?_ ?_⟩
  .rintro D i σ H' x hi M J e I Y ⟨v,rfl⟩;let(r,o,rfl):=y0f.mp M;let z:=DGet.n (n:=(r:Int))<|e _ _ u;rw[hv r o]at z;trivial;show⟨_,z,zb6 (by rw[y01];omega) J I Y e ⟨_,R⟩ R⟩
  intro D H1 I g1 j;let p:H1 D=G (.lst<|(l.map g).map nV):=by rw[j,y0t,y0t];rfl
  show⟨_,R,_,.inl ⟨.of p,λt H2 c=>q t H2 (g1.trans c.g) c.at'⟩⟩
 .refine⟨_,(zac<|zah (zby za2 00 T.b_tuple iR<|pa_c (zay ["room"] [(1,"numbers")] 83 00 (zb4 K<|pv 0) (λ_ _ _ _ _=>(zaq (i:=0) (show List.Nodup (["room","numbers"]:List Str) by decide+kernel) 00 54)) (λ_ _ _ _ _=>zbd) λ_ _ _ _ _=>(zao 72 (pv 1) (pv 0) λ_ _=>rfl)) zaa)),?_⟩;apply zav [G 07,G 53] R ?_;trivial;apply⟨⟨_,.of O⟩,zfr (K:=K) (a:=a) (xs:=l.map nV) (λσ=>∃v,σ=[v,G 53]) (λy=>match y with|.int z=>nV (g z.toNat)|v=>v) (by rw[y01];omega) (.of O) ⟨_,R⟩ ?_ ?_⟩
  .rintro D i σ H' x hi M J e I Y ⟨v,rfl⟩;let(r,o,rfl):=y0f.mp M;let z:atI (ns.map nV) (r:Int)=G (nV<|g r):=zam (by rw[y04,hv r o];rfl);trivial;show⟨_,.of<|e _ _ u,_,z,zb6 (by rw[y01];omega) J I Y e ⟨_,R⟩ R⟩
  intro D H1 I g1 j;let p:H1 D=G (.lst<|(l.map g).map nV):=by rw[j,y0t,y0t];rfl
  show⟨_,R,_,.inl ⟨.of p,λt H2 c=>q t H2 (g1.trans c.g) c.at'⟩⟩
abbrev Pd:Stmt:=top 16
theorem Tr:FnScope ["machine","rooms","numbers","ways","ends"] ["machine","rooms","numbers"] (defScope Pd):={}
include T in
theorem zsx(d:Dfn K mg "picked" Pd ["machine","rooms","numbers"])(Qs:03 1 "renamed" ["rooms","numbers"] ze6):03 2 "picked" ["machine","rooms","numbers"] zkc:=by
 apply d.cal Tr 09 51
 .nofun
 let(a,b,c,m,rooms,g,rfl,(b1,c1,rs,O,az,pr,bo),ok,u,bj,hr',lk,q):=h;let d5:=zbq ok.wid;apply⟨_,(zab (ziy (i:=3) Tr.nd R 08 ["room"] [(2,"numbers"),(0,"machine")] 83 00 (za5 K<|pv 1) (λ_ _ _ _ _=>(zaq (i:=0) (show List.Nodup (["room","numbers","machine"]:List Str) by decide+kernel) 00 54)) (λ_ _ _ _ _=>zbd) λ_ _ _ _ _=>(zag Qs hr 01 00<|pa_c (zao 39 (zao 39 (pv 2) zaf λ_ _=>rfl) (pv 0) λ_ _=>rfl) 96))<|zab (ziy (i:=4) Tr.nd R 08 ["room"] [(0,"machine")] 83 00 (za5 K<|pv 1) (λ_ _ _ _ _=>(zaq (i:=0) (show List.Nodup (["room","machine"]:List Str) by decide+kernel) 00 54)) (λ_ _ _ _ _=>zbd) λ_ _ _ _ _=>(zao 39 (zao 39 (pv 1) zaf λ_ _=>rfl) (pv 0) λ_ _=>rfl)) (zac<|zah (za0<|pa_c (zao 39 (pv 0) zaf λ_ _=>rfl) (pa_c (zby za2 00 T.b_tuple iR 045)<|pa_c (zby za2 00 T.b_tuple iR<|pa_c (pv 4) zaa) zaa)))),?_⟩;apply zav [G 07,G 53,G<|.ref c,B,B] R ?_;trivial;let wat:∀{i:Nat},i<rooms.length->∃a2,rs[ix rooms i]?=G (.ref a2)/\H a2=G (.tup<|(m.ways.getD 061 []).map nV)/\(m.ways.getD 061 []).length<=16:=λ{i} hi=>by
  ac_rfl;let ao:ix rooms i<m.ways.length:=by rw[ok.len];show hr' _<|zez hi
  let(v2,ev,a2,rfl,e4):=Paired.at2 pr<|y00 ao;let eg:m.ways.getD 061 []=m.ways[ix rooms i]:=by rw[y02,y00 ao];rfl
  apply zk ?_;rw[eg];apply⟨a2,ev,e4,?_⟩;rw[ok.line _<|y0b ao];omega
 apply⟨⟨_,.of u⟩,znk (n:=rooms.length) (λσ=>∃v,σ=[v,G<|.ref c,G 07]) (λj y H=>Line H y<|(m.ways.getD (ix rooms j) []).map g) 01 ⟨_,R⟩ (λi H' hi e=>⟨_,nV 061,.of<|e _ _ u,by rw[y04,zc3 hi];rfl⟩) (λH' e=>⟨_,.of<|e _ _ u,by rw[y01];show y06 _⟩) ?_ ?_⟩
 .rintro D i ys σ H1 x H1' hi e I Y C L ⟨v,rfl⟩ ⟨rfl,yx⟩;let ex:=yx _<|.of (e _ _ u);rw[y04,zc3 hi]at ex;cases ex;ac_rfl;let(a2,ev,e4,h16):=wat hi;apply zk ?_;trivial;show⟨_,.of<|e _ _ O,_,zam (j:=1) R,ixm (.of<|e _ _ az) (zam ev) ⟨a2,c,_,g,R,e _ _ e4,h16,(lk _ (zez hi)).same e,λp H2 g2 e2=>zee (λj y H H' ts z=>z.ts ts) 01 hi I (g2 _ _ Y) C L g2.tups (e.trans g2) ⟨_,R⟩ ⟨p,R,e2⟩⟩⟩
 intro D1 ys H1 dq g1 eD1 bi hy1;trivial;apply⟨⟨_,.of<|g1 _ _ u⟩,zgz (K:=K) (a:=b) (xs:=rooms.map nV) (λσ=>∃v,σ=[v,G 07]) (λy=>match y with|.int z=>.bl (m.fin z.toNat)|v=>v) (by rw[y01];omega) (.of<|g1 _ _ u) ⟨_,R⟩ ?_ ?_⟩
 .rintro D i σ H' x hi hm J e I Y ⟨v,rfl⟩;let(r,mr,rfl):=y0f.mp hm;let at3:(m.ends.map V.bl)[r]?=G (.bl<|m.fin r):=by rw[y04,Mc.fin_at<|hr' r mr];rfl
  trivial;show⟨_,.of<|(g1.trans e) _ _ O,_,zam (j:=2) R,ixm (.of<|(g1.trans e) _ _ bo) (zam at3)<|zb6 (by rw[y01];omega) J I Y e ⟨_,R⟩ R⟩
 intro D2 H2 d6 g2 bf;let eD2':H2 D2=G (.lst<|(rooms.map m.fin).map V.bl):=by rw[bf,y0t,y0t];rfl
 let al:=g1.trans g2;trivial;apply⟨_,.of<|al _ _ O,_,zbp,_,.inl ⟨.of<|g2 _ _ eD1,λt1 H3 U=>⟨_,.inl ⟨.of<|U.g _ _ eD2',λt2 H4 n4=>mkT λt3 H5 n5=>?_⟩⟩⟩⟩;let g25:Same H2 H5:=U.g.trans<|n4.g.trans n5.g;apply q t3 H5 (al.trans g25) ⟨t1,t2,ys,n5.at',(n4.g.trans n5.g) _ _ U.at',zcr (by rw[bi];show(y01 _).symm) λj y l M e2=>?_,n5.g _ _ n4.at'⟩;let o:j<rooms.length:=by rw[←bi];show(y0d.mp M).1
 let e2':G ((m.ways.getD (ix rooms j) []).map g)=G l:=by rw[←e2];change _=(rooms.map λr=>(m.ways.getD r []).map g)[j]?;rw[y04,zc3 o];rfl
 cases e2';show(hy1 j y M).ts (g2.trans g25).tups
abbrev Vx:Stmt:=top 17
theorem Qz:FnScope ["marks","numbers","mark"] ["marks"] (defScope Vx):={}
include T in
theorem zmy(d:Dfn K mg "numbered" Vx ["marks"]):03 1 "numbered" ["marks"] zd6:=by
 apply d.cal Qz 09 51
 .rcases h with⟨a,bs,rfl,_⟩|⟨a,rs,ms,rfl,_⟩<;>rfl
 let U:=zfh hr 8 06;rcases h with⟨a,bs,rfl,O,bj,q⟩|⟨a,rs,ms,rfl,O,c,bj,q⟩
 .refine⟨_,(zab (zal (i:=1) Qz.nd R (Or.inr R) zwa)<|zab (zc7 PassesOwn.never R (zb4 K<|pv 0) (zaq (i:=2) Qz.nd 00 54)<|zac (za3 (zak (zcs U) (pv 2) (pv 1)<|by with_unfolding_all rfl) (zac<|zeq U (pv 1) (pv 2) (za4 zq1 00 T.b_len i8 96) R) zan)) (zac<|zah (zay ["mark"] [(1,"numbers")] 83 00 (zb4 K<|pv 0) (λ_ _ _ _ _=>(zaq (i:=0) (show List.Nodup (["mark","numbers"]:List Str) by decide+kernel) 00 54)) (λ_ _ _ _ _=>zbd) λ_ _ _ _ _=>(zdq U (pv 1) (pv 0) λ_ _=>rfl)))),?_⟩;apply zav [G 07,B,B] R ?_;trivial
  applyλp H1 u=>⟨⟨_,.of<|u.g _ _ O⟩,zt9 (K:=K) (a:=a) (xs:=bs.map V.bl) (λi σ H'=>Same H H'/\(∃C,σ=[G 07,G 42,C])/\H' p=G (.dK<|tabF keyB 0 (news []<|bs.take i))) ⟨u.g,⟨B,R⟩,u.at'⟩ (λi σ H' _ z=>.of<|z.1 _ _ O) ?_ ?_⟩
  .rintro i y σ H' L ⟨g,⟨C,rfl⟩,l⟩;rw[y04]at L;let(x,ex,rfl):=y10.mp L;let en:=zk9 ex;let be:=zf6 (bs.take i) [];rw[y12,y1k]at be;trivial;apply⟨_,DGet.b l,?_⟩;by_cases J:x∈news [] (bs.take i)
   .rw[show valV (tabF keyB 0<|news [] (bs.take i)) (.inl<|blI x)=_ from ze4 zf7 J];show iteF ⟨g,by rw[en,zta J];show l⟩
   .rw[show valV (tabF keyB 0<|news [] (bs.take i)) (.inl<|blI x)=_ from zfz zf7 J];apply iteT ⟨_,l,_,DPut.b l (by rw[zdn];show small1000 01),g.wr u.nil _,?_⟩;rw[zat,en,zm1 J];show congrArg (λz=>G<|HO.dK z)<|zig zf7 J
  .rintro σ H' ⟨g,⟨C,rfl⟩,l⟩;rw[y01,y0n 43]at l;trivial;apply⟨⟨_,.of<|g _ _ O⟩,zfr (K:=K) (a:=a) (xs:=bs.map V.bl) (λσ=>∃v,σ=[v,G 42]) (λy=>match y with|.bl x=>nV (nOf (news [] bs) x)|v=>v) (by rw[y01];omega) (.of<|g _ _ O) ⟨_,R⟩ ?_ ?_⟩
   .rintro D i σ H2 x hi M J e I ac ⟨v,rfl⟩;let(r,mr,rfl):=y0f.mp M;let tv:valV (tabF keyB 0<|news [] bs) (.inl<|blI r)=_:=ze4 zf7<|(zb9 bs [] r).mpr (.inr mr);let z:=DGet.b (b:=r)<|e _ _ l;rw[tv]at z;trivial;show⟨_,z,zb6 (by rw[y01];omega) J I ac e ⟨_,R⟩ R⟩
   intro D H3 I g3 j;show q D (bs.map<|nOf (news [] bs)) H3 (g.free I) (g.trans g3) (by rw[j,y0t,y0t];rfl)<|zyz bs
 .let hlr:=SS.Paired.len c;apply⟨_,(zab (zal (i:=1) Qz.nd R (Or.inr R) zsa)<|zab (zc7 PassesOwn.never R (za5 K<|pv 0) (zaq (i:=2) Qz.nd 00 54)<|zac (za3 (zak (zcs U) (pv 2) (pv 1)<|by with_unfolding_all rfl) (zac<|zeq U (pv 1) (pv 2) (za4 zu2 00 T.b_len i8 96) R) zan)) (zac<|zah (zay ["mark"] [(1,"numbers")] 83 00 (za5 K<|pv 0) (λ_ _ _ _ _=>(zaq (i:=0) (show List.Nodup (["mark","numbers"]:List Str) by decide+kernel) 00 54)) (λ_ _ _ _ _=>zbd) λ_ _ _ _ _=>(zdq U (pv 1) (pv 0) λ_ _=>rfl)))),?_⟩;apply zav [G 07,B,B] R ?_;trivial
  applyλp H1 u=>⟨⟨_,.of<|u.g _ _ O⟩,zed (K:=K) (a:=a) (xs:=rs) (λi σ H'=>Same H H'/\(∃C,σ=[G 07,G 42,C])/\H' p=G (.dT<|tabF keyL 0 (news []<|ms.take i))) ⟨u.g,⟨B,R⟩,u.at'⟩ (λi σ H' _ z=>.of<|z.1 _ _ O) ?_ ?_⟩
  .rintro i y σ H' L ⟨g,⟨C,rfl⟩,l⟩;ac_rfl;let(x,ex,t,rfl,o):=SS.Paired.at c L;let en:=zk9 ex;let be:=zf6 (ms.take i) [];apply zk ?_;rw[y12,y1k]at be;let c9:H' t=G (.tup<|(keyL x).map kV):=by rw[zh7];show g _ _ o
   trivial;apply⟨_,DGet.t l c9,?_⟩;by_cases J:x∈news [] (ms.take i)
   .rw[show valV (tabF keyL 0<|news [] (ms.take i)) (keyL x)=_ from ze4 zbs J];show iteF ⟨g,by rw[en,zta J];show l⟩
   .rw[show valV (tabF keyL 0<|news [] (ms.take i)) (keyL x)=_ from zfz zbs J];apply iteT ⟨_,l,_,DPut.t l c9 (by rw[zdn];show small1000 01),g.wr u.nil _,?_⟩;rw[zat,en,zm1 J];show congrArg (λz=>G<|HO.dT z)<|zig zbs J
  .rintro σ H' ⟨g,⟨C,rfl⟩,l⟩;rw[y0n 01]at l;trivial;apply⟨⟨_,.of<|g _ _ O⟩,znh (K:=K) (a:=a) (xs:=rs) (λσ=>∃v,σ=[v,G 42]) (λi=>nV<|nOf (news [] ms) (ms.getD i [])) 01 (.of<|g _ _ O) ⟨_,R⟩ ?_ ?_⟩
   .rintro D i σ H2 x hi J e I ac ⟨v,rfl⟩;ac_rfl;let(r,er,t,rfl,o):=SS.Paired.at c J;let tv:valV (tabF keyL 0<|news [] ms) (keyL r)=_:=ze4 zbs<|(zb9 ms [] r).mpr (.inr<|y0q er);let c9:H2 t=G (.tup<|(keyL r).map kV):=by rw[zh7];show e _ _<|g _ _ o
    let z:=DGet.t (e _ _ l) c9;apply zk ?_;rw[tv]at z;trivial;apply⟨_,z,cstep (zad 01) hi ac 05 ⟨e.wr I _,⟨_,R⟩,?_⟩⟩;rw[y2x,y0y,List.map_singleton,y02,er,y15]
   intro D H3 I g3 j;apply q D (ms.map<|nOf (news [] ms)) H3 (g.free I) (g.trans g3) ?_<|zyz ms;rw[j,hlr];congr 2;apply y2i 05 λi Y h2=>?_;simp only[y01,y18]at Y;simp[y02,y00 Y]
abbrev Kp:Stmt:=top 18
theorem zg5:FnScope ["machine","sorts"] ["machine","sorts"] (defScope Kp):={}
include T in
theorem zw2(d:Dfn K mg "finer_sorts" Kp ["machine","sorts"])(Qs:03 1 "renamed" ["rooms","numbers"] ze6)(V5:03 1 "numbered" ["marks"] zd6):03 2 "finer_sorts" ["machine","sorts"] zoa:=by
 apply d.cal zg5 09 51
 .nofun
 let(a,b,m,ns,rfl,(b1,c1,rs,O,az,pr,bo),ok,eb,S,q):=h;let d5:=zbq ok.wid;let hf:m.n<=100:=ok.few;let gf:ns.length=m.n:=S.len;let g:rs.length=m.n:=by rw[SS.Paired.len pr,ok.len]
 apply⟨_,(zac<|zah (zag V5 hr 01 00<|pa_c (zay ["sort","ways"] [(1,"sorts")] 83 00 (zv8 K 00 T.b_zip<|pa_c (pv 1) (pa_c (zao 39 (pv 0) zaf λ_ _=>rfl) zaa)) (λ_ _ _ _ _=>(zeb K (n:=2) R<|zbj (zaq (i:=0) (show List.Nodup (["sort","ways","sorts"]:List Str) by decide+kernel) 00 54) (zbj (zaq (i:=1) (show List.Nodup (["sort","ways","sorts"]:List Str) by decide+kernel) 00 54) zea))) (λ_ _ _ _ _=>zbd) λ_ _ _ _ _=>(zax (zsp K) (za0 55)<|zag Qs hr 01 00 (pa_c (pv 1) 039))) zaa)),?_⟩;apply zav [G 07,G 53] R ?_;trivial;apply⟨_,.of O,_,zam (j:=1) R,_,R,⟨_,.of eb⟩,⟨_,.of az⟩,znk (n:=m.n) (λσ=>∃v U,σ=[v,U,G 53]) (λj y H=>Line H y<|markOf m ns j) 01 ⟨_,_,R⟩ (λi H' hi e=>?_) (λH' e=>⟨_,_,.of<|e _ _ eb,.of<|e _ _ az,by rw[y01];omega⟩) ?_ ?_⟩
 .let(v2,ev,_):=Paired.at2 pr<|y00 (show i<m.ways.length by rw[ok.len];show hi);show⟨_,_,nV<|ix ns i,v2,.of<|e _ _ eb,.of<|e _ _ az,by rw[y04,zc3 01];rfl,ev⟩
 .rintro D i ys σ H1 x H1' hi e I Y C L ⟨v,U,rfl⟩ yz;ac_rfl;let(p,x1,y1,rfl,u,ex,ey):=zvh (.of<|e _ _ eb) (.of<|e _ _ az) yz;apply zk ?_;rw[y04,zc3 01]at ex;cases ex;ac_rfl;let ao:i<m.ways.length:=by rw[ok.len];show hi
  let(v2,ev,a2,rfl,e4):=Paired.at2 pr<|y00 ao;apply zk ?_;rw[ev]at ey;cases ey;let eg:m.ways.getD i []=m.ways[i]:=by rw[y02,y00 ao];rfl
  let hll:=ok.line _<|y0b ao;let g1:=e.trans u.g;trivial;apply⟨_,.of u.at',R,_,_,R,_,_,R,R,mkT λt H2 c=>⟨a2,b,m.ways[i],ix ns,R,c.g _ _<|g1 _ _ e4,by omega,.inr ⟨ns,c.g _ _<|g1 _ _ eb,λr mr=>zc3<|by rw[gf];show ok.room _ (y0b ao) r mr⟩,λp3 H3 g3 e3=>?_⟩⟩;apply⟨_,R,_,.of<|g3 _ _ c.at',_,.of e3,by simp,?_,?_,λp4 H4 n4=>?_⟩
  .intro z;let:=congrArg List.length z;rw[y01,y01,y1k]at this;omega
  .rw[y01,y01,y0u];show zad 01
  let gh:Same H1' H4:=c.g.trans<|g3.trans n4.g;apply zee (λj y H H' ts z=>z.ts ts) 01 hi I (gh _ _<|u.g _ _ Y) C L (u.g.trans gh).tups (g1.trans gh) ⟨_,_,R⟩ ⟨p4,R,?_⟩;rw[n4.at'];unfold markOf;rw[eg];rfl
 intro D ys H1 I g1 eD C L;apply .inr ⟨D,ys,(070).map<|markOf m ns,R,eD,zcr (by rw[C,y01,y18]) λj y l M e2=>?_,by rw[y01,y18];omega,λD2 fs H2 J g2 e2 Nq=>q D2 fs H2 (g1.free J) 037 e2 Nq⟩;let o:j<m.n:=by rw[←C];show(y0d.mp M).1
 rw[y04,y1a o]at e2;cases e2;show L j y M
abbrev V8:Stmt:=top 19
theorem Qy:FnScope ["ends","part_further","sorts","finer"] ["ends","part_further"] (defScope V8):={}
include T in
theorem zp2(d:Dfn K mg "sorts_by" V8 ["ends","part_further"])(V5:03 1 "numbered" ["marks"] zd6):03 4 "sorts_by" ["ends","part_further"] (zhi P w K mg base):=by
 apply d.cal Qy 09 51
 .nofun
 let(e,pf,fd,bs,Rq,J,y,j,rfl,ee,U,a,cl,u,v,hJ0,hJl,hnx,q):=h;let hu:=zfh hr 8 06;apply⟨_,(zab (zal (i:=2) Qy.nd R 08<|zag V5 hr 01 00 55)<|zab (zal (i:=3) Qy.nd R 08<|zdf P w K mg base 1 3 1 (zij Rq J y) hr 01 039) (zab (zep PassesOwn.never (zak (op_neIK K hu) (pv 3) (pv 2) 56)<|zab (zal (i:=2) Qy.nd R 08<|pv 3) (zac<|zal (i:=3) Qy.nd R 08 (zdf P w K mg base 1 3 1 (zij Rq J y) hr 01 039))) 084)),?_⟩;apply zav [G<|.ref e,G<|.ref pf,B,B] R ?_;trivial;apply .inl ⟨e,bs,R,ee,U,λp ns H1 Y g1 M N1=>?_⟩;apply⟨pf,R,fd,g1 _ _ a,g1 _ _ a,cl.mono g1.frz,R,p,ns,R,v _ _ g1 u,M,hJ0 ns N1,λx fs H2 d6 c D N2=>?_⟩;apply⟨λI σ H'=>∃(ns fs:List Nat) (p x:Ad),I=j ns/\Same H H'/\σ=[G<|.ref e,G<|.ref pf,G<|.ref p,G<|.ref x]/\H' p=G (.lst<|ns.map nV)/\H' x=G (.lst<|fs.map nV)/\J ns/\y ns fs,
  ⟨_,ns,fs,p,x,R,g1.trans c,R,c _ _ M,D,hJ0 ns N1,N2⟩,?_⟩
 rintro I σ H' ⟨ns,fs,p,x,rfl,g,rfl,M,D,S,Nq⟩;let(l,C):=hnx ns fs S Nq;trivial;apply⟨fs.map λ(n:Nat)=>(n:Int),.of (by rw[←zld];show D),ns.map λ(n:Nat)=>(n:Int),.of (by rw[←zld];show M),?_⟩;by_cases hn:fs=ns
 .rw[Xg<|by rw[hn]];apply iteF ?_;show q p ns H' g M S<|hn▸Nq
 .rw[Xf λz=>hn<|zfq z];apply iteT ⟨λO ae=>∃o,o<j ns/\_,λO ae z=>z,?_⟩;apply⟨pf,R,fd,g _ _ a,g _ _ a,cl.mono g.frz,R,x,fs,R,v _ _ g u,D,l,λD3 fs' H3 b9 r L N3=>⟨j fs,C hn,fs,R,g.trans r,fs',x,D3,R,r _ _ D,L,l,N3⟩⟩
abbrev Tv:Stmt:=top 20
theorem Kb:FnScope ["machine","rooms","in_order","sorts","firsts"] ["machine"] (defScope Tv):={}
abbrev qs_reduced:List (Pos×Str):=[(⟨66,34,66,80⟩,"reduced.<locals>.<lambda>")]
include T in
theorem zp5{c Pt:Ad}(d:DfnC K mg "reduced" Tv ["machine"] c Pt)(kb:BltK base mg)(Qck:03 1 "reached" ["machine"] zhk)(Qa7:03 2 "picked" ["machine","rooms","numbers"] zkc)(Qam:03 2 "finer_sorts" ["machine","sorts"] zoa)(Qby:03 4 "sorts_by" ["ends","part_further"]<|zhi P w K mg base):03 5 "reduced" ["machine"] (zd5 Pt qs_reduced):=by
 apply d.cal Kb 09 λf A outer s H vs Q E L h=>?_
 .nofun
 let(a,m,rfl,tab,rm,ok,q):=h;let hf:m.n<=100:=ok.few;apply⟨_,(zab (zal (i:=1) Kb.nd R 08<|zag Qck L 01 00 55)<|zab (zal (i:=2) Kb.nd R (Or.inr R)<|zag Qa7 L 01 00 (pa_c (pv 0)<|pa_c (pv 1) (pa_c (zby (zjw K R) 00 T.b_dict boot_dict<|pa_c (zay ["number","room"] [] 83 00 (zi1 K 00 T.b_enumerate 96) (λ_ _ _ _ _=>(zeb K (n:=2) R<|zbj (zaq (i:=0) (show List.Nodup (["number","room"]:List Str) by decide+kernel) 00 54) (zbj (zaq (i:=1) (show List.Nodup (["number","room"]:List Str) by decide+kernel) 00 54) zea))) (λ_ _ _ _ _=>zbd) λ_ _ _ _ _=>(za0<|pa_c (pv 1) 55)) zaa) zaa))) (zab (zal (i:=3) Kb.nd R (Or.inr R)<|zgm Qby L 01 00 (λ_=>rfl) (pa_c (zao 39 (pv 2) zaf λ_ _=>rfl)<|pa_c (zr7 (qs:=qs_reduced) "reduced.<locals>.<lambda>" rfl d.code kb 00 00) zaa))<|zab (ziy (i:=4) Kb.nd R 08 ["sort"] [(3,"sorts")] 83 00 (zkv 00 T.b_range<|pa_c (zax zom (za4 (znm K R) 00 T.b_max boot_max 045) zaf) zaa) (λ_ _ _ _ _=>(zaq (i:=0) (show List.Nodup (["sort","sorts"]:List Str) by decide+kernel) 00 54)) (λ_ _ _ _ _=>zbd) λ_ _ _ _ _=>(zbz K PySem.F.plainAttrs_list PySem.F.slot_list_index PySem.F.type_list_index (ztg K) (pv 1) 55)) (zac<|zah (zag Qa7 L 01 00<|pa_c (pv 2) (pa_c (pv 4) 045))))),?_⟩;apply zav [G 07,B,B,B,B] R ?_;trivial;apply⟨a,m,R,rm,ok,λD rooms H1 I g1 eD cm=>?_⟩;let hrl:rooms.length<=m.n:=zdr cm.nd cm.lt;apply⟨_,R,⟨_,.of eD⟩,znk (n:=rooms.length) (λσ=>∃v v',σ=[v,v']) (λj y H=>∃t,y=.ref t/\H t=G (.tup [nV<|ix rooms j,nV j])) 01 ⟨_,_,R⟩ (λi H' hi gg=>⟨_,nV 061,.of<|gg _ _ eD,by rw[y04,zc3 hi];rfl⟩) (λH' gg=>⟨_,.of<|gg _ _ eD,by rw[y01];show y06 _⟩) ?_ ?_⟩
 .rintro D' i ys σ H2 x H2' hi gg dq d6 C hy ⟨v,v',rfl⟩ yz;ac_rfl;let(p,x1,rfl,u,ex):=znu (.of<|gg _ _ eD) yz;apply zk ?_;rw[y04,zc3 hi]at ex;cases ex;trivial;apply⟨_,.of u.at',R,_,_,R,_,_,R,R,mkT λt H3 n3=>zee (λj y H H' ts ⟨t,e,z⟩=>⟨t,e,ts _ _ z⟩) 01 hi dq (n3.g _ _<|u.g _ _ d6) C hy (u.g.trans n3.g).tups (gg.trans<|u.g.trans n3.g) ⟨_,_,R⟩ ⟨t,R,n3.at'⟩⟩
 intro D2 ys H2 d6 g2 bf bg f8;let hpo:∀j y (l:Key×V),ys[j]?=G y->((List.range rooms.length).map λi=>((Sum.inl ((ix rooms i:Nat):Int):Key),nV i))[j]?=G l->PairV H2 y l:=λj y l e1 e2=>by
  let o:j<rooms.length:=by rw[←bg];show(y0d.mp e1).1
  rw[y04,y1a o]at e2;cases e2;show f8 j y e1
 apply⟨_,R,_,.of bf,(List.range rooms.length).map λi=>((Sum.inl ((ix rooms i:Nat):Int):Key),nV i),zcr (by rw[bg,y01,y18]) hpo,by rw[y01,y18];omega,λdd H3 n3=>?_⟩;ac_rfl;let bc:Same H1 H3:=g2.trans n3.g;let hg:∀i,i<rooms.length->rooms.idxOf 061=i:=λi hi=>by
  let(Y,h2):=zo0<|zez hi;show zy5 cm.nd Y hi h2
 let knd:(((List.range rooms.length).map λi=>((Sum.inl ((ix rooms i:Nat):Int):Key),nV i)).map (·.1)).Nodup:=by
  rw[y0t];apply SM.nodup_map_on (λi hi j o e=>?_) y3m;show zy5 cm.nd (y0x.mp hi) (y0x.mp o) (by have:=Sum.inl.inj e;omega)
 let hlk:∀r∈rooms,Lk H3 dd (m.ways.getD r []) (λx=>rooms.idxOf x):=λr mr=>by
  apply .inl ⟨_,n3.at',λx mx=>zop _ [] _ _ knd ?_⟩;let J:x∈rooms:=by
   let(i,hi,rfl):=zjb mr;let O:ix rooms i<m.ways.length:=by rw[ok.len];show cm.lt _ mr
   rw[y02,y00 O,y15]at mx;let(l,C,el):=y1s mx;rw[ok.line _<|y0b O]at C;let(line,f1,f2,_):=ok.at (cm.lt _ mr) C;rw[y00 O]at f1;cases f1;rw[y00 (by rw[ok.line _<|y0b O];show C),el]at f2;let(t,ht,et,_):=cm.clos i l hi C<|.inl hi;rw[Option.some.inj f2,←et];show zez ht
  let(Y,h2):=zo0 J;apply y0f.mpr ⟨rooms.idxOf x,y0x.mpr Y,?_⟩;rw[h2]
 let(de,ord1,_,_):=zgy ok cm (g:=λx=>rooms.idxOf x) hg;apply zk ?_;apply⟨a,D,dd,m,rooms,λx=>rooms.idxOf x,R,rm.same<|g1.trans bc,ok,bc _ _ eD,by omega,cm.lt,hlk,λp1 H4 g4 df=>?_⟩;ac_rfl;let(b1,c1,kr,ea1,az,cu,bo):=id df;apply zk ?_;apply ixm (.of ea1) (zam (j:=2) R) ⟨tab.same<|g1.trans (bc.trans g4),λfl H4a M=>?_⟩;intro Hq ad;let gq:Same H4 Hq:=M.old.trans ad.up;let(fdl,efl):=M.fn;generalize epm:(picked m rooms λx=>rooms.idxOf x)=bp at de ord1 df ea1 cu bo;let cl:CloH P w K mg base 3 Hq fl 1 (zij (λH=>RepM H p1 bp) (Sorts bp) λns fs=>Num ((List.range bp.n).map<|markOf bp ns) fs):=by
  apply M.clo_e (own:=["coarser"]) (ps:=["coarser"]) (cap:=["in_order"]) (cv:=[.ref p1]) (k:=2) (Same.refl _) ad ⟨R,R,R,by decide+kernel,R,by decide+kernel,by decide+kernel,by decide+kernel⟩ 43 (.cons ⟨2,R,R,.inl R⟩ .nil) (λcl ct cd pm=>L2.fit1 λ_=>rfl) ?_;rintro clo c' A' cg s' H' vs Q' L U fz du C ⟨b,ns,rfl,hR,eb,S,q'⟩;apply⟨_,(zag Qam L 01 00<|pa_c (pv 1) 55),?_⟩;apply rd_se [G 53,G<|.ref p1] R ?_;trivial;show⟨p1,b,bp,ns,R,hR.ts<|SameN.tups U.n,de,U.n _ _ eb (λ_ _ z=>nomatch z),S,λD5 fs H5 hD5 g5 dr N5 kq=>q' D5 fs (mixL clo H' H5) (zc1 (cl:=clo) (H:=H') g5|> λ_=>by
   let:=zlp hD5 dr kq;show this) (zc1 g5) (zh5 kq _ _ dr) N5⟩
 apply⟨c1,fl,fdl,bp.ends,(λH=>RepM H p1 bp),Sorts bp,_,(λns=>bp.n*bp.n-ns.sum),R,gq _ _ bo,de.few,ad.up _ _ efl,cl,df.same gq,(λH1 H2 g z=>z.same g),(λns Nq=>zme Nq),(λns S=>by rw[S.len];show de.few),(λns fs S Nq=>?_),λD5 ns H5' g5' eD5' S N5=>?_⟩
 .let(S',ref,_):=zhq de S Nq;apply⟨S',λhn=>?_⟩;let(m1,m2):=zpl S S' ref hn;change bp.n*bp.n-fs.sum<bp.n*bp.n-ns.sum;omega
 let st:=(zhq de S N5).2.2 rfl;let g5:=M.old.trans<|ad.same g5';let dr:=ad.keep g5' eD5' λ_ _ z=>nomatch z;dsimp only;generalize dropX _ H5'=H5 at g5 dr ⊢;subst epm;let be:ns.length=rooms.length:=by rw[S.len,zcy]
 apply⟨_,R,ns.map λ(n:Nat)=>(n:Int),.of (by rw[←zld];show dr),by rw[y01,be];show cm.pos,λM mM hM=>?_⟩;ac_rfl;let(Mn,mMn,rfl):=y0f.mp mM;let hMl:∀x∈ns,x<=Mn:=λx mx=>by have:=hM _<|y0f.mpr ⟨x,mx,R⟩;omega
 let(F,mem):=zt6 S.srt mMn hMl;let hMb:Mn<100:=by
  let(i,hi,ei):=zjb mMn;let:=S.srt.le i hi;omega
 let etn:((Mn:Int)+1-0).toNat=Mn+1:=by omega
 apply zk ?_;apply⟨by omega,by omega,?_⟩;rw[show((Mn:Int)+1).toNat=Mn+1 by omega];apply zzf (λσ=>∃v,σ=[v,G<|.ref D5]) (λi=>nV<|ns.idxOf i) 01 ⟨_,R⟩ ?_ ?_
 .rintro D6 i σ H6 hi gg ko hD6' ⟨v,rfl⟩;trivial;apply⟨.inl ⟨_,.of<|gg _ _ dr⟩,ns.map λ(n:Nat)=>(n:Int),.of (by rw[←zld];show gg _ _ dr),y0f.mpr ⟨i,mem i 01,by omega⟩,by rw[y01];omega,?_⟩;apply zuq 01 hi ko hD6' gg ⟨_,R⟩ ?_;rw[show(0:Int)+(i:Int)=((i:Nat):Int) by omega,zo1]
 intro D6 H6 ko g6 eD6;let eD6':H6 D6=G (.lst<|((List.range<|Mn+1).map λs=>ns.idxOf s).map nV):=by rw[eD6,y0t];rfl
 let fl:∀r∈((List.range<|Mn+1).map λs=>ns.idxOf s),r<(picked m rooms λx=>rooms.idxOf x).n:=λr mr=>by
  let(s',hs,rfl):=zjb mr;rw[←S.len];show F.lt s' hs
 apply⟨p1,D6,D5,_,_,ix ns,R,df.same<|g5.trans g6,de,eD6',by rw[y01,y18];omega,fl,λr mr=>.inr ⟨ns,g6 _ _ dr,λx mx=>zc3 ?_⟩,λp2 H7 g7 gi=>?_⟩
 .rw[S.len];let O:r<(picked m rooms λx=>rooms.idxOf x).ways.length:=by rw[de.len];show fl r mr
  rw[y02,y00 O,y15]at mx;show de.room _ (y0b O) x mx
 .exact q p2 _ H7 (g1.trans<|bc.trans (g4.trans<|g5.trans (g6.trans g7))) gi<|red_of ok cm hg S st F
abbrev Qh:Stmt:=top 45
theorem zcn:FnScope ["thing","letters"] ["thing","letters"] (defScope Qh):={}
include T in
theorem ok_lf(d:Dfn K mg "is_letter_with_figures" Qh ["thing","letters"]):03 1 "is_letter_with_figures" ["thing","letters"] sp_lf:=by
 apply d.cal zcn 09 51
 .nofun
 let(x,l,k,rfl,O,hz,q):=h;apply⟨_,(zab (za3 (PW.pt<|zfx 178 (zfx (zak zbn (pv 0) zae 56)<|zeo (zak zp0 (za4 zft 00 T.b_len i8 55) (zbf 00 T.g_LONGEST_NAME) 56))) 071 zan)<|zac (zah<|zdg (zco zgo (zao ix_str (pv 0) zaf λ_ _=>rfl) (pv 1)<|by with_unfolding_all rfl) (zd1<|za4 (zch K R) 00 T.b_all jM (pa_c (zay ["sign"] [] 83 00 (zyt<|zck sl_str (pv 0) (zdd zaf) zde) (λ_ _ _ _ _=>(zaq (i:=0) (show List.Nodup (["sign"]:List Str) by decide+kernel) 00 54)) (λ_ _ _ _ _=>zbd) λ_ _ _ _ _=>(zco zgo (pv 0) (zbf 00 T.g_FIGURES)<|by with_unfolding_all rfl)) zaa)))),?_⟩;apply zav [G x,G<|.str l] R ?_;trivial;apply⟨k,O,by decide,?_⟩;cases O with
 |str z =>
  let J:=hz z rfl;let C:=zma z;rw[show(!subT "str" "str")=Fa by decide];trivial;apply ite2 (λc=>?_) λc=>?_
  .let c':=of_decide_eq_true c;subst c';show q H 93
  let c':=of_decide_eq_false<|y19.mpr c;let ne:z.cps.toList≠[]:=λe=>c'<|ext_toList e;apply⟨by have:=small1000 J;omega,?_⟩;let(c0,r0,j):=y3q ne;let L:∀H',Same H H'->Q (.bl<|decide (r0.length<=3)&&signIn c0 l&&r0.all λd=>signIn d FIGS) H':=λH' g=>by
   let h:=q H' g;simp only[isNm,nameB,j]at h;show h
  rw[j,y0i]at C;apply ite2 (λc=>?_) λc=>?_
  .let a:=of_decide_eq_true c;let h:=L H 93;rw[show decide (r0.length<=3)=Fa by simp;omega,y1b,y1b]at h;show h
  let a:=of_decide_eq_false<|y19.mpr c;rw[show decide (r0.length<=3)=N by simp;omega,y1c]at L;apply⟨by have:=small1000 J;omega,c0,by rw[j];show zbp,?_⟩;apply ite2 (λc=>?_) λc=>?_
  .rw[show signIn c0 l=N from c,y1c]at L;let U:(Txt.slice z (G 1) B).cps.toList=r0:=by
    rw[zrp,show((1:Int))=((1:Nat):Int)from rfl,ze0,j];rfl
   let p:(Txt.slice z (G 1) B).cps.size=r0.length:=by rw[←U];simp
   apply⟨by have:=small1000 J;omega,?_⟩;apply cb_str (λD i ys σ H'=>Same H H'/\(∃v,σ=[v])/\ys=(r0.take i).map λd=>V.bl<|signIn d FIGS) (by rw[p];show y1i<|small1000 01) (λD I=>⟨zbb I _,⟨B,R⟩,R⟩) ?_ ?_
   .rintro D i ys σ H' d I hi hd Y r ⟨g,⟨v,rfl⟩,rfl⟩;trivial;apply cstep (by rw[p];show y1i<|small1000 01) hi Y r ⟨λb o e=>?_,⟨_,R⟩,?_⟩
    .rw[zaj<|zau e I];show g b o e
    .rw[p]at hi;let M:r0[i]?=G d:=by rw[←U];simpa using hd
     rw[y14,M,y0y];rfl
   .rintro D ys σ H' I Y r ⟨g,_,rfl⟩;rw[p,y0n 43]at Y;apply⟨r0.map λd=>signIn d FIGS,.of (by rw[Y,y0t];rfl),?_⟩;let h:=L H' g;rw[y23];show h
  .let h:=L H 93;rw[show signIn c0 l=Fa from y19.mpr c,y1b]at h;show h
 |non=>show q H 93
 |bl b=>show q H 93
 |int i=>show q H 93
 |lst e=>show q H 93
 |tup e=>show q H 93
 |dK e=>show q H 93
abbrev V2:Stmt:=top 46
theorem zmj:FnScope ["thing"] ["thing"] (defScope V2):={}
include T in
theorem zwr(d:Dfn K mg "is_place" V2 ["thing"])(a:03 1 "is_letter_with_figures" ["thing","letters"] sp_lf):03 2 "is_place" ["thing"] (zii SMALL):=by
 apply d.cal zmj 09 51
 .nofun
 let(x,k,rfl,O,hz,q):=h;apply⟨_,(zac<|zah (zag a hr 01 00<|pa_c (pv 0) (pa_c (zbf 00 T.g_SMALL_LETTERS) zaa))),?_⟩;apply zav [G x] R ?_;trivial;show⟨x,SMALL,k,R,O,hz,q⟩
abbrev T7:Stmt:=top 47
theorem zrt:FnScope ["thing"] ["thing"] (defScope T7):={}
include T in
theorem ok_set(d:Dfn K mg "is_set" T7 ["thing"])(a:03 1 "is_letter_with_figures" ["thing","letters"] sp_lf):03 2 "is_set" ["thing"] (zii GREAT):=by
 apply d.cal zrt 09 51
 .nofun
 let(x,k,rfl,O,hz,q):=h;apply⟨_,(zac<|zah (zag a hr 01 00<|pa_c (pv 0) (pa_c (zbf 00 T.g_GREAT_LETTERS) zaa))),?_⟩;apply zav [G x] R ?_;trivial;show⟨x,GREAT,k,R,O,hz,q⟩
abbrev Ti:Stmt:=top 48
theorem zpo:FnScope ["thing"] ["thing"] (defScope Ti):={}
include T in
theorem ok_nm(d:Dfn K mg "is_name" Ti ["thing"])(a:03 2 "is_place" ["thing"]<|zii SMALL)(e:03 2 "is_set" ["thing"]<|zii GREAT):03 3 "is_name" ["thing"] zvn:=by
 apply d.cal zpo 09 51
 .nofun
 let(x,rfl,((k,O),hz),q):=h;apply⟨_,(zac<|zah (pe_or (zag a hr 01 00 55)<|zd1 (zag e hr 01 00 55))),?_⟩;apply zav [G x] R ?_;trivial;apply⟨x,k,R,O,hz,λH1 g1=>⟨_,R,ite2 (λc=>?_) λc=>⟨x,k,R,O.same g1,hz,λH2 g2=>?_⟩⟩⟩
 .let h:=q H1 g1;rw[show isName x=N by unfold isName;rw[c,Bool.true_or]]at h;show h
 .let h:=q H2 037;rw[show isName x=isNm x GREAT by unfold isName;rw[y19.mpr c,y3w]]at h;show h
abbrev Vw:Stmt:=top 49
theorem zmk:FnScope ["thing"] ["thing"] (defScope Vw):={}
include T in
theorem zwz(d:Dfn K mg "is_frame" Vw ["thing"])(Tl:03 3 "is_name" ["thing"] zvn):03 4 "is_frame" ["thing"] zvo:=by
 apply d.cal zmk 09 51
 .nofun
 let(x,rfl,((k,O),hz),M,q):=h;apply⟨_,(zab (za3 (PW.pt<|zfx (zce<|zbv (za4 zbr 00 T.b_isinstance iq<|pa_c (pv 0) (pa_c (zcf (v:=.ty "list") 00 T.b_list boot_list 00) zaa))) (zeo<|zak zp0 086 (zbf 00 T.g_MOST_NAMES) 56)) 071 zan)<|zac (zah<|zdg (za4 (zch K R) 00 T.b_all jM<|pa_c (zay ["name"] [] 83 00 (za5 K<|pv 0) (λ_ _ _ _ _=>(zaq (i:=0) (show List.Nodup (["name"]:List Str) by decide+kernel) 00 54)) (λ_ _ _ _ _=>zbd) λ_ _ _ _ _=>(zag Tl hr 01 00 55)) zaa) (zd1<|zco zbn (za4 zjt 00 T.b_len i8<|pa_c (zby (zly R) 00 T.b_set boot_set 55) zaa) 086 56))),?_⟩;apply zav [G x] R ?_;trivial;apply⟨k,O,by decide,?_⟩;cases O with
 |lst e =>
  rename_i a xs;let(C,L):=M a xs R e;let u:SqL K H a xs:=.of e;let ef:frB H 07=frameB xs:=by simp only[frB,e]
  rw[ef]at q;apply iteF ⟨xs,.inl u,?_⟩;apply ite2 (λc=>?_) λc=>⟨⟨xs,u⟩,?_⟩
  .let c':=of_decide_eq_true c;let h:=q H 93;rw[show frameB xs=Fa by unfold frameB;rw[Xf 01,y1b,y1b]]at h;show h
  let c':=of_decide_eq_false<|y19.mpr c;let j:frameB xs=(xs.all isName&&decide xs.Nodup):=by unfold frameB;rw[Xg 01,y1c]
  rw[j]at q;apply zjn (K:=K) (a:=a) (xs:=xs) (λD i ys σ H'=>Same H H'/\(∃v,σ=[v])/\ys=(xs.take i).map λy=>V.bl<|isName y) (zad C) (λD I=>⟨zbb I _,⟨B,R⟩,R⟩) (λD i ys σ H' _ _ _ ⟨g,_⟩=>g.seq u) ?_ ?_
  .rintro D i ys σ H' y I hi J Y r ⟨g,⟨v,rfl⟩,rfl⟩;trivial;apply⟨y,R,(L y<|y0q J).same g,λH2 g2=>?_⟩;apply cstep (zad C) hi (g2 _ _ Y) r ⟨λb o e=>?_,⟨_,R⟩,?_⟩
   .rw[zaj<|zau e I];show g2 b o<|g b o e
   .rw[y14,J,y0y];rfl
  .rintro D ys σ H' I Y r ⟨g,_,rfl⟩;rw[y0n 43]at Y;apply⟨xs.map isName,.of (by rw[Y,y0t];rfl),?_⟩;rw[y23,show(id∘isName)=isName from rfl];apply ite2 (λca=>?_) λca=>?_
   .let(ks,l,p):=zh2 ca;let lk:ks.length=xs.length:=by rw[l,y01]
    apply⟨a,R,ks,l▸g.seq u,by omega,λb H3 U=>⟨ks,U.at',by omega,xs,.inl<|U.g.seq (g.seq u),?_⟩⟩;let h:=q _<|g.trans U.g;rw[ca,y1c]at h;let ed:decide xs.Nodup=decide (((onceK [] ks).length:Int)=(xs.length:Int)):=by
     apply decide_eq_decide.mpr ?_;rw[p,←zsq,lk];omega
    rw[ed]at h;show h
   .let h:=q H' g;rw[y19.mpr ca,y1b]at h;show h
 |non=>show q H 93
 |bl b=>show q H 93
 |int i=>show q H 93
 |str z=>show q H 93
 |tup e =>
  let h:=q H 93;simp only[frB,e]at h;show h
 |dK e =>
  let h:=q H 93;simp only[frB,e]at h;show h
include T in
theorem zk7(d:Dfn K mg "renamed" Kn ["rooms","numbers"]):03 1 "renamed" ["rooms","numbers"] (zfl K):=by
 apply d.cal zfa 09 51
 .nofun
 let(a,b,l,line,rfl,O,g,u,U,q):=h;apply⟨_,(zac<|zah (zby za2 00 T.b_tuple iR<|pa_c (zay ["room"] [(1,"numbers")] 83 00 (za5 K<|pv 0) (λ_ _ _ _ _=>(zaq (i:=0) (show List.Nodup (["room","numbers"]:List Str) by decide+kernel) 00 54)) (λ_ _ _ _ _=>zbd) λ_ _ _ _ _=>(zao 39 (pv 1) (pv 0) λ_ _=>rfl)) zaa)),?_⟩;apply zav [G 07,G 53] R ?_;trivial;apply⟨⟨_,.of O⟩,zgz (K:=K) (a:=a) (xs:=l.map nV) (λσ=>∃v,σ=[v,G 53]) (λy=>match y with|.int z=>nV (line.getD z.toNat 0)|v=>v) (by rw[y01];omega) (.of O) ⟨_,R⟩ ?_ ?_⟩
 .rintro D i σ H' x hi M J e I Y ⟨v,rfl⟩;let(r,o,rfl):=y0f.mp M;let z:atI (line.map nV) (r:Int)=G (nV<|line.getD r 0):=zam (by rw[y04,y02,y00<|U r o];rfl);trivial;show⟨_,u _,_,z,zb6 (by rw[y01];omega) J I Y e ⟨_,R⟩ R⟩
 intro D H1 I g1 j;let p:H1 D=G (.lst<|(l.map λx=>line.getD x 0).map nV):=by rw[j,y0t,y0t];rfl
 show⟨_,R,_,.inl ⟨.of p,λt H2 c=>q t H2 (g1.trans c.g) c.at'⟩⟩
abbrev Vh:Stmt:=top 32
theorem zkj:FnScope ["letter","tracks"] ["letter","tracks"] (defScope Vh):={}
include T in
theorem zmz(d:Dfn K mg "letter_of" Vh ["letter","tracks"]):03 1 "letter_of" ["letter","tracks"] zge:=by
 apply d.cal zkj 09 51
 .nofun
 let(l,a,ts,rfl,D,O,h5,h4,q):=h;apply⟨_,(zac<|zah (za4 (zc6 K R) 00 T.b_sum boot_sum<|pa_c (zay ["number","track"] [(0,"letter")] 83 00 (zi1 K 00 T.b_enumerate 96) (λ_ _ _ _ _=>(zeb K (n:=2) R<|zbj (zaq (i:=0) (show List.Nodup (["number","track","letter"]:List Str) by decide+kernel) 00 54) (zbj (zaq (i:=1) (show List.Nodup (["number","track","letter"]:List Str) by decide+kernel) 00 54) zea))) (λ_ _ _ _ _=>zbd) λ_ _ _ _ _=>(zax zol (zax op_and (zax op_shr (pv 2)<|pv 1) zaf)<|pv 0)) zaa)),?_⟩;apply zav [G<|nV l,G 07] R ?_;trivial;apply⟨⟨_,.of O⟩,znk (n:=ts.length) (λσ=>∃v U,σ=[v,U,G<|nV l]) (λj y H=>∃t,ts[j]?=G t/\y=.int (Builtin.bitAnd ((l:Int)/2^t) 1*2^j)) 01 ⟨_,_,R⟩ (λi H' hi gg=>⟨_,nV<|ix ts i,.of<|gg _ _ O,by rw[y04,zc3 hi];rfl⟩) (λH' gg=>⟨_,.of<|gg _ _ O,by rw[y01];show y06 _⟩) ?_ ?_⟩
 .rintro D' i ys σ H2 x H2' hi gg Y J C L ⟨v,U,rfl⟩ I;ac_rfl;let(p,x1,rfl,u,ex):=znu (.of<|gg _ _ O) I;apply zk ?_;rw[y04,zc3 hi]at ex;cases ex;let h4':=h4 _<|zez hi;trivial;let hbs:=(zu8 l D (ix ts i) 01).2;apply⟨_,.of u.at',R,_,_,R,_,_,R,R,by omega,⟨by omega,by omega,y22 hbs 06⟩,?_⟩;show zee (Gq:=λj y H=>∃t,ts[j]?=G t/\y=.int (Builtin.bitAnd ((l:Int)/2^t) 1*2^j)) (λj y H H' _ z=>z) 01 hi Y (u.g _ _ J) C L u.g.tups (gg.trans u.g) ⟨_,_,R⟩ ⟨ix ts i,zc3 hi,R⟩
 intro D2 ys H2 J c g bg r;let M:ys=(loL (l:Int) ts 0).map V.int:=by
  apply y29 λj=>?_;rw[y04,zy0];by_cases o:j<ys.length
  .let(t,et,e):=r j _<|y00 o;rw[y00 o,e,et,y3z];rfl
  .rw[y0z 01,y0z 01];rfl
 subst M;rw[←ztk]at q;show⟨_,R,_,.of g,q H2 c⟩
abbrev Pc:Stmt:=top 33
theorem Qaa:FnScope ["machine","tracks","width","seen"] ["machine","tracks","width"] (defScope Pc):={}
include T in
theorem zp1(d:Dfn K mg "spread" Pc ["machine","tracks","width"])(Qbg:03 1 "letter_of" ["letter","tracks"] zge)(Qs:03 1 "renamed" ["rooms","numbers"]<|zfl K):03 2 "spread" ["machine","tracks","width"] (ze5 K):=by
 apply d.cal Qaa 09 51
 .nofun
 let(a,b,m,ts,W,f,rfl,(b1,c1,ls,O,g,pr,bo),ok,u,h5,h4,hW,hf,q):=h;let d5:=zbq hW;let au:(1:Int)*2^((W:Nat):Int).toNat=((2^W:Nat):Int):=by rw[Int.one_mul,zr2];rfl
 let hfew:=ok.few;apply⟨_,(zab (zal (i:=3) Qaa.nd R (Or.inr R)<|zay ["letter"] [(1,"tracks")] 83 00 (zkv 00 T.b_range<|pa_c (zax zol zaf<|pv 2) zaa) (λ_ _ _ _ _=>(zaq (i:=0) (show List.Nodup (["letter","tracks"]:List Str) by decide+kernel) 00 54)) (λ_ _ _ _ _=>zbd) (λ_ _ _ _ _=>(zag Qbg hr 01 00 046)))<|zac (zah<|za0 (pa_c (pv 2)<|pa_c (zby za2 00 T.b_tuple iR<|pa_c (zay ["ways"] [(3,"seen")] 83 00 (zb4 K<|zao 39 (pv 0) zaf (λ_ _=>rfl)) (λ_ _ _ _ _=>(zaq (i:=0) (show List.Nodup (["ways","seen"]:List Str) by decide+kernel) 00 54)) (λ_ _ _ _ _=>zbd) λ_ _ _ _ _=>(zag Qs hr 01 00<|pa_c (pv 1) 55)) zaa) (pa_c (zao 39 (pv 0) zaf λ_ _=>rfl) zaa)))),?_⟩;apply zav [G 07,G 53,G<|nV W,B] R ?_;trivial;apply⟨⟨by omega,by omega,by decide⟩,by rw[au];omega,by rw[au];omega,?_⟩;rw[au,show((2^W:Nat):Int).toNat=2^W from rfl];apply zzf (λσ=>∃v,σ=[v,G 53]) (λi=>nV<|f i) 01 ⟨_,R⟩ ?_ ?_
 .rintro D i σ H' hi e I Y ⟨v,rfl⟩;trivial;apply⟨i,b,ts,by rw[Int.zero_add],by omega,e _ _ u,h5,h4,λH2 c=>zuq 01 hi I (c _ _ Y) (e.trans c) ⟨_,R⟩ ?_⟩;rw[(hf i hi).1]
 intro D1 H1 dq g1 eD1;let eD1':H1 D1=G (.lst<|((List.range<|2^W).map f).map nV):=by rw[eD1,y0t];rfl
 let bi:ls.length=m.ways.length:=SS.Paired.len pr;let d4:=ok.len;apply⟨_,O _,_,zam (j:=1) R,⟨_,g _⟩,znk (n:=ls.length) (λσ=>∃v,σ=[v,G<|.ref D1]) (λj y H=>Line H y<|(List.range<|2^W).map λl=>(m.ways.getD j []).getD (f l) 0) 01 ⟨_,R⟩ (λi H' hi e=>⟨_,_,g _,by rw[y04,y00 hi];rfl⟩) (λH' e=>⟨_,g _,by rw[y01];show y06 _⟩) ?_ ?_⟩
 .rintro D i ys σ H2 x H2' hi e I Y C L ⟨v,rfl⟩ ⟨rfl,yx⟩;let ex:=yx _<|g _;let hi':i<m.ways.length:=by omega
  let(a2,ev,e4):=Paired.at2 pr<|y00 hi';rw[y04,ev]at ex;cases ex;let hll:=ok.line _<|y0b hi';let eg:m.ways.getD i []=m.ways[i]:=by rw[y02,y00 hi'];rfl
  trivial;apply⟨D1,a2,(List.range<|2^W).map f,m.ways[i],R,e _ _ eD1',by rw[y01,y18];omega,e4,λx J=>?_,λp H3 r e3=>?_⟩
  .let(l,C,rfl):=y0f.mp J;rw[hll];show(hf l<|y0x.mp C).2
  apply zee (λj y H H' ts z=>z.ts ts) 01 hi I (r _ _ Y) C L r.tups (e.trans r) ⟨_,R⟩ ⟨p,R,?_⟩;rw[e3,eg];simp only[y0t];rfl
 intro D2 ys H2 d6 c bf bg f8;apply⟨_,R,_,.inl ⟨.of bf,λt1 H3 U=>⟨_,O _,_,zam (j:=2) R,mkT λt2 H4 n4=>?_⟩⟩⟩;let gh:Same H2 H4:=U.g.trans n4.g;let g04:Same H H4:=g1.trans<|c.trans gh;apply q t2 H4 g04 ⟨t1,c1,ys,n4.at',n4.g _ _ U.at',zcr (by rw[bg,bi];show(y01 _).symm) λj y l M e2=>?_,Or.inr bo⟩;let o:j<m.ways.length:=by rw[←bi,←bg];show(y0d.mp M).1
 let e2':G ((List.range<|2^W).map λl=>(m.ways.getD j []).getD (f l) 0)=G l:=by
  rw[←e2];change _=(m.ways.map λline=>(List.range<|2^W).map λl=>line.getD (f l) 0)[j]?;rw[y04,y00 o,y02,y00 o];rfl
 cases e2';show(f8 j y M).ts gh.tups
abbrev Q4:Stmt:=top 58
theorem zit:FnScope ["thing","sort","deepest"] ["thing","sort","deepest"] (defScope Q4):={}
theorem zsu{n k:Nat}(O:3<=k)(T:Txt K mg w tw rw ow fa pa ta cj ca ce co cn cSayError cs)(d:Dfn K mg "is_of_sort" Q4 ["thing","sort","deepest"])(a:03 2 "is_place" ["thing"]<|zii SMALL)(e:03 2 "is_set" ["thing"]<|zii GREAT)(g:03 3 "is_name" ["thing"] zvn)
  (i:03 k "has_form" ["thing","deepest"]<|zil n):03 (k+1) "is_of_sort" ["thing","sort","deepest"] (zmc n):=by
 apply d.cal zit 09 51
 .nofun
 let(v,j,rfl,ex,q):=h;let((kd,U),hz):=ex.thing;let M:∀b:Str,decide (V.str j=V.str b)=decide (j=b):=λb=>by simp
 apply⟨_,(zab (za3 (zak zbn (pv 1) zae 56) (zac<|zah (zag a hr 01 00 55)) zan)<|zab (za3 (zak zbn (pv 1) zae 56) (zac<|zah (zag e hr 01 00 55)) zan) (zab (za3 (zak zbn (pv 1) zae 56) (zac<|zah (zag g hr 01 00 55)) zan)<|zac (zah<|zag i hr 01 00 (pa_c (pv 0) 039)))),?_⟩;apply zav [G v,G<|.str j,G<|.int n] R ?_;trivial;unfold sortB at q;apply ite2 (λc=>?_) λc=>?_
 .rw[Xq<|of_decide_eq_true c]at q;show⟨v,kd,R,U,hz,q⟩
 rw[Xp<|of_decide_eq_false (y19.mpr c)]at q;apply ite2 (λc=>?_) λc=>?_
 .rw[Xq<|of_decide_eq_true c]at q;show⟨v,kd,R,U,hz,q⟩
 rw[Xp<|of_decide_eq_false (y19.mpr c)]at q;apply ite2 (λc=>?_) λc=>?_
 .rw[Xq<|of_decide_eq_true c]at q;show⟨v,R,⟨⟨kd,U⟩,hz⟩,q⟩
 rw[Xp<|of_decide_eq_false (y19.mpr c)]at q;show⟨v,R,ex,q⟩
abbrev Kx:Stmt:=top 59
theorem T6:FnScope ["thing","deepest","sorts"] ["thing","deepest"] (defScope Kx):={}
include T in
theorem zs4{n k:Nat}(d:Dfn K mg "has_form" Kx ["thing","deepest"])(Qa5:03 k "is_of_sort" ["thing","sort","deepest"]<|sp_sort' n):03 (k+1) "has_form" ["thing","deepest"] (zil n):=by
 apply d.cal T6 09 51
 .nofun
 let(v,rfl,ex,q):=h;apply⟨_,(zab (za3 (PW.pt<|zfx (zak zbn (pv 1) zaf 56) (zfx (zce 189)<|zeo (zak zbn 086 zaf 56))) 071 zan)<|zab (za3 (PW.pt<|zfx (zce<|zbv (za4 zbr 00 T.b_isinstance iq<|pa_c (zao 39 (pv 0) zaf λ_ _=>rfl) (pa_c (zcf (v:=.ty "str") 00 T.b_str boot_str 00) zaa))) (zeo<|zak (zfo K w) (zao 39 (pv 0) zaf λ_ _=>rfl) (zbf 00 T.g_FORMS) (by with_unfolding_all rfl))) 071 zan) (zab (zal (i:=2) T6.nd R 08<|zao (zy6 K w) (zbf 00 T.g_FORMS) (zao 39 (pv 0) zaf λ_ _=>rfl) (λ_ _=>rfl))<|zab (za3 (zak zsm 086 (zax zom zaf<|za4 (zaz K) 00 T.b_len i8 039) 56) 071 zan) (zac<|zah (za4 (zch K R) 00 T.b_all jM<|pa_c (zay ["part","sort"] [(1,"deepest")] 83 00 (pi_zipK K 00 T.b_zip<|pa_c (zck (zmf K) (pv 0) (zdd zaf) zde) 039) (λ_ _ _ _ _=>(zeb K (n:=2) R<|zbj (zaq (i:=0) (show List.Nodup (["part","sort","deepest"]:List Str) by decide+kernel) 00 54) (zbj (zaq (i:=1) (show List.Nodup (["part","sort","deepest"]:List Str) by decide+kernel) 00 54) zea))) (λ_ _ _ _ _=>zbd) λ_ _ _ _ _=>(zag Qa5 hr 01 00<|pa_c (pv 0) (pa_c (pv 1)<|pa_c (zax zok (pv 2) zaf) zaa))) zaa)))),?_⟩;apply zav [G v,G<|.int n,B] R ?_;trivial;cases n with
 |zero =>
  show itT (show((0:Nat):Int)=0 from rfl)<|q H 93
 |succ n =>
 rw[Xf<|show¬((n+1:Nat):Int)=0 by omega];ac_rfl;let(((kd,U),hz),cr):=id ex;apply zk ?_;apply iteF ⟨kd,U,by decide,?_⟩;cases U with
 |tup e =>
  rename_i a xs;let(C,J):=cr a xs R e;let hS:SqT K H a xs:=.of e;apply iteF ⟨xs,.inr hS,?_⟩;cases xs with
  |nil =>
   let h:=q H 93;simp only[formH,e]at h;show iteT h
  |cons x0 r =>
  rw[Xf<|show¬(((x0::r).length:Nat):Int)=0 by rw[y0i];omega];ac_rfl;let((k0,hk0),_):=(J x0 y0c).thing;apply zk ?_;apply iteF<|ixm hS zbp ⟨k0,hk0,by decide,?_⟩;cases hk0 with
  |str wd =>
   let L:∀H',Same H H'->Q (.bl<|match forms.lookup wd with|some o=>zipB (formH H n) r o|none=>Fa) H':=λH' g=>by
    let h:=q H' g;simp only[formH,e]at h;show h
   let(fm,hd,j):=T.f_FORMS.ex;apply iteF<|ixm hS zbp ⟨wd,R,fm,hd,?_⟩;rcases j wd with⟨o,b,hls,O,l⟩|⟨hls,O⟩
   .rw[hls]at L;replace L:∀H',Same H H'->Q (.bl<|zipB (formH H n) r o) H':=L;rw[O];apply iteF<|ixm hS zbp ⟨wd,R,fm,hd,.ref b,O,_,.inr hS,_,.inr<|l H,?_⟩;rw[y0i,y01];by_cases ag:r.length=o.length
    .rw[Xg<|show(((r.length+1:Nat)):Int)=1+(o.length:Int) by omega];apply iteF ⟨_,hS,zgk 05,λp H1 u=>?_⟩;let ec:cutL (V.str wd::r) (G 1) B=r:=by
      rw[show((1:Int))=((1:Nat):Int)from rfl,ze0];rfl
     rw[ec]at u;let lr:r.length<=1000:=by rw[y0i]at C;omega
     apply⟨b,R,⟨_,.of u.at'⟩,⟨_,l H1⟩,cz_map (K:=K) (a:=p) (b:=b) (xs:=r) (ys:=o.map V.str) (λσ=>∃v1 v2,σ=[v1,v2,G<|.int ((n+1:Nat):Int)]) (λi=>.bl<|sortB (formH H n) (r.getD i .non) (o.getD i "")) lr (by rw[y01];show ag) (.of u.at') (l H1) ⟨_,_,R⟩ ?_ ?_⟩
     .rintro D i σ Gq G' pp x y ex1 ey1 g I Y ⟨v1,v2,rfl⟩ nw;rw[y04]at ey1;let(sx,es,rfl):=y10.mp ey1;let hi:i<r.length:=(y0d.mp ex1).1;let mx:x∈r:=y0q ex1;let gx:Same H G':=u.g.trans<|g.trans nw.g;let exx:=J x<|y08 _ mx;trivial;apply⟨_,.of nw.at',R,_,_,R,_,_,R,R,?_⟩;let en:(((n+1:Nat):Int)-1)=(n:Int):=by omega
      rw[en];apply⟨x,sx,R,exx.same gx,λG2 c=>znf lr hi I (c _ _<|nw.g _ _ Y) (g.trans<|nw.g.trans c) ⟨_,_,R⟩ ?_⟩;let M:r.getD i .non=x:=by rw[y02,ex1];rfl
      let e2:o.getD i ""=sx:=by rw[y02,es];rfl
      rw[M,e2];unfold sortB;rw[zdy gx exx]
     .intro D Gq I g eD;apply⟨(List.range r.length).map λi=>sortB (formH H n) (r.getD i .non)<|o.getD i "",.of (by rw[eD,y0t];rfl),?_⟩;let h:=L Gq<|u.g.trans g;rw[zhd ag]at h;rw[y23];show h
    .rw[Xf<|show¬(((r.length+1:Nat)):Int)=1+(o.length:Int) by omega];let h:=L H 93;rw[znt ag]at h;show iteT h
   .rw[hls]at L;rw[O];show iteT<|L H 93
  |_ =>
   let h:=q H 93;simp only[formH,e]at h;show iteT h
 |non=>show iteT<|q H 93
 |bl b=>show iteT<|q H 93
 |int i=>show iteT<|q H 93
 |str z=>show iteT<|q H 93
 |lst e =>
  let h:=q H 93;simp only[formH,e]at h;show iteT h
 |dK e =>
  let h:=q H 93;simp only[formH,e]at h;show iteT h
theorem zpe(T:Txt K mg w tw rw ow fa pa ta cj ca ce co cn cSayError cs)(g:Dfn K mg "is_of_sort" Q4 ["thing","sort","deepest"])(p:Dfn K mg "has_form" Kx ["thing","deepest"])(e:03 2 "is_place" ["thing"]<|zii SMALL)(f:03 2 "is_set" ["thing"]<|zii GREAT)(a:03 3 "is_name" ["thing"] zvn):
  ∀n,03 (2*n+4) "has_form" ["thing","deepest"] (zil n)/\03 (2*n+5) "is_of_sort" ["thing","sort","deepest"] (zmc n)
 |0=>by
  let c:=zs4 (n:=0) T p ((g.never (sp:=sp_sort' 0) λvs H Q E h=>h).mono (y17 3):03 3 _ _ _);show⟨c,zsu 06 T g e f a c⟩
 |n+1=>by
  let A:=zpe T g p e f a n;let c:=zs4 (n:=n+1) T p A.2;show⟨c,zsu 01 T g e f a c⟩
abbrev Ka:Stmt:=top 60
theorem zfw:FnScope ["saying"] ["saying"] (defScope Ka):={}
include T in
theorem zwx(d:Dfn K mg "inner_sayings" Ka ["saying"]):03 1 "inner_sayings" ["saying"] zcv:=by
 apply d.cal zfw 09 51
 .nofun
 let(a,xs,rfl,e,C,O,q):=h;apply⟨_,(zac<|zah (zay ["thing"] [] 83 00 (zb4 K<|pv 0) (λ_ _ _ _ _=>(zaq (i:=0) (show List.Nodup (["thing"]:List Str) by decide+kernel) 00 54)) (λ_ _ _ _ _=>(zyu 189)) λ_ _ _ _ _=>(pv 0))),?_⟩;apply zav [G 07] R ?_;trivial;let u:SqT K H a xs:=.of e;apply⟨⟨xs,u⟩,cf_tup (λσ=>∃v,σ=[v]) (isT H) id C u ⟨_,R⟩ ?_ ?_⟩
 .rintro D i σ H' x hi M J g I Y ⟨v,rfl⟩;let(k,c):=O x M;trivial;apply⟨k,c.same g,by decide,?_⟩;rw[Kd.isT c];cases j:isT H x with
  |true=>show iteT<|cf_step C J j I Y g ⟨_,R⟩ R
  |false=>show iteF<|zu0 J j Y g ⟨_,R⟩
 .intro D H' I g Y;rw[List.map_id]at Y;show q D H' I g Y
abbrev Tw:Stmt:=top 61
theorem zpp:FnScope ["saying"] ["saying"] (defScope Tw):={}
include T in
theorem zs3(d:Dfn K mg "is_bare" Tw ["saying"])(y:03 1 "inner_sayings" ["saying"] zcv):03 2 "is_bare" ["saying"] zgf:=by
 apply d.cal zpp 09 51
 .nofun
 let(v,sy,rfl,r,q):=h;let U:=zfh hr 8 06;apply⟨_,(zac<|zah (zco (zyx U) (zag y hr 01 00 55) (zas zaa) 56)),?_⟩;apply zav [G v] R ?_;trivial;ac_rfl;let(a,xs,rfl,e,C,O,l):=r.items;apply zk ?_;apply⟨a,xs,R,e,by omega,O,λD H1 I g1 j=>⟨by decide,λp H2 c=>⟨_,(zvx (k:=0) (.of<|c.g _ _ j) c.lst).up 06,?_⟩⟩⟩;let h:=q H2<|g1.trans c.g;let u:sy.isBare=decide (xs.filter (isT H)=[]):=by
  generalize xs.filter (isT H)=ys at l;cases sy with
  |bare w n m=>cases l;rfl
  |neg s=>cases l;rfl
  |two w s t=>cases l;rfl
  |qu w n s=>cases l;rfl
 rw[u]at h;show h
abbrev Q0:Stmt:=top 62
theorem zg6:FnScope ["saying"] ["saying"] (defScope Q0):={}
include T in
theorem zw6{n:Nat}(d:Dfn K mg "count_parts" Q0 ["saying"])(y:03 1 "inner_sayings" ["saying"] zcv)(L:03 (n+1) "count_parts" ["saying"]<|zf3 n):03 (n+1+1) "count_parts" ["saying"] (zf3<|n+1):=by
 apply d.cal zg6 09 51
 .nofun
 let(v,sy,rfl,r,hd,q):=h;apply⟨_,(zac<|zah (zax zom zaf<|za4 (zc6 K R) 00 T.b_sum boot_sum (pa_c (zay ["inner"] [] 83 00 (za5 K<|zag y hr 01 00 55) (λ_ _ _ _ _=>(zaq (i:=0) (show List.Nodup (["inner"]:List Str) by decide+kernel) 00 54)) (λ_ _ _ _ _=>zbd) λ_ _ _ _ _=>(zag L hr 01 00 55)) zaa))),?_⟩;apply zav [G v] R ?_;trivial;let(a,xs,rfl,e,C,O,l):=r.items;apply⟨a,xs,R,e,by omega,O,λD1 H1 dq g1 M=>⟨⟨_,.of M⟩,?_⟩⟩;let z:=Paired.len l;let p:(xs.filter<|isT H).length<=1000:=y0v (y1n _ _) 01;apply znh (K:=K) (a:=D1) (xs:=xs.filter<|isT H) (λσ=>∃v,σ=[v]) (λi=>.int<|((sy.inner[i]?).map Sy.parts).getD 0) p (.of M) ⟨_,R⟩ ?_ ?_
 .rintro D i σ H' x hi J g I Y ⟨v,rfl⟩;let(t,o,rt):=Paired.at l J;let u:=(zgu<|y0q o).1;trivial;apply⟨x,t,R,rt.same<|g1.trans g,by omega,λH2 c=>znf p hi I (c _ _ Y) (g.trans c) ⟨_,R⟩<|by rw[o];rfl⟩
 .intro D H' I g j;apply⟨D,R,(List.range (xs.filter<|isT H).length).map λi=>(((sy.inner[i]?).map Sy.parts).getD 0:Nat),.of (by rw[j,y0t];rfl),?_⟩;let h:=q H'<|g1.trans g;let U:(1:Int)+((List.range (xs.filter<|isT H).length).map λi=>((((sy.inner[i]?).map Sy.parts).getD 0:Nat):Int)).sum=(sy.parts:Int):=by
   rw[z];cases sy with
   |bare w n m=>rfl
   |neg s=>change(1:Int)+((s.parts:Int)+0)=((s.parts+1:Nat):Int);omega
   |two w s t=>change(1:Int)+((s.parts:Int)+((t.parts:Int)+0))=((s.parts+t.parts+1:Nat):Int);omega
   |qu w n s=>change(1:Int)+((s.parts:Int)+0)=((s.parts+1:Nat):Int);omega
  rw[U];show h
theorem zl6(T:Txt K mg w tw rw ow fa pa ta cj ca ce co cn cSayError cs)(d:Dfn K mg "count_parts" Q0 ["saying"])(e:03 1 "inner_sayings" ["saying"] zcv):∀n,03 (n+1) "count_parts" ["saying"] (zf3 n)
 |0=>(d.never λvs H Q E h=>by let(v,s,_,_,hd,_):=h;show Xa hd<|y39 _).mono 06
 |n+1=>zw6 T d e<|zl6 T d e n
abbrev Q7:Stmt:=top 63
theorem zfv:FnScope ["thing"] ["thing"] (defScope Q7):={}
include T in
theorem zs7(d:Dfn K mg "is_any_saying" Q7 ["thing"])(i:03 28 "has_form" ["thing","deepest"]<|zil 12)(L:03 14 "count_parts" ["saying"]<|zf3 13):03 29 "is_any_saying" ["thing"] zen:=by
 apply d.cal zfv 09 51
 .nofun
 let(v,rfl,ex,q):=h;apply⟨_,(zac<|zah (zdg (zag i hr 01 00<|pa_c (pv 0) (pa_c (zbf 00 T.g_DEEPEST) zaa))<|zd1 (zco op_le (zag L hr 01 00 55) (zbf 00 T.g_MOST_PARTS) 56))),?_⟩;apply zav [G v] R ?_;trivial;apply⟨v,R,ex,λH1 g1=>⟨_,R,ite2 (λc=>?_) λc=>q Fa H1 g1 ⟨λz=>(by cases z),λ⟨s,r,O,hd,_⟩=>Xa (ziu r O hd) c⟩⟩⟩;let(sy,r,O,hd):=zc5 c;apply⟨v,sy,R,r.same g1,by omega,λH2 g2=>q _ H2 037 ⟨λz=>⟨sy,r,O,hd,?_⟩,λ⟨s,r',_,_,l⟩=>?_⟩⟩
 .let:=of_decide_eq_true z;omega
 .rw[r.det r'];show Xg 01
abbrev V1:Stmt:=top 64
theorem zru:FnScope ["saying","known","barred","most"] ["saying","known","barred","most"] (defScope V1):={}
include T in
theorem ok_let{n:Nat}{bw:List Str}(d:Dfn K mg "is_let" V1 ["saying","known","barred","most"])(Qk:03 1 "inner_sayings" ["saying"] zcv)(Qci:03 2 "is_bare" ["saying"] zgf)
  (Kf:03 (n+2) "is_let" ["saying","known","barred","most"]<|zhn K bw n):03 (n+1+2) "is_let" ["saying","known","barred","most"] (zhn K bw<|n+1):=by
 apply d.cal zru 09 51
 .nofun
 let(v,a,ba,sy,tl,mo,rfl,r,hd,ea,C,U,q):=h;apply⟨_,(zab (za3 (PW.pt<|zfx (zak zp0 104 (pv 3) 56) (zeo<|zak (zk5 K) (zao 39 (pv 0) zaf λ_ _=>rfl) (pv 2) (by with_unfolding_all rfl))) 071 zan)<|zab (za3 (zak (zk5 K) (zao 39 (pv 0) zaf λ_ _=>rfl) (zbf 00 T.g_TELLING_WORDS)<|by with_unfolding_all rfl) (zac<|zah (zdg (zco (zsl K) (zao 39 (pv 0) zaf λ_ _=>rfl) (pv 1)<|by with_unfolding_all rfl)<|zd1 (zag Kf hr 01 00<|pa_c (zao 39 (pv 0) zaf λ_ _=>rfl) (pa_c (zax zbt (pv 1)<|zas (pa_c (zao 39 (pv 0) zaf λ_ _=>rfl) zaa))<|pa_c (pv 2) 045)))) zan) (zab (za3 (zbv<|zag Qci hr 01 00 55) (zac<|zah (za4 (zch K R) 00 T.b_all jM<|pa_c (zay ["name"] [(1,"known")] 83 00 (zb4 K<|zck (zmf K) (pv 0) (zdd zaf) zde) (λ_ _ _ _ _=>(zaq (i:=0) (show List.Nodup (["name","known"]:List Str) by decide+kernel) 00 54)) (λ_ _ _ _ _=>zbd) λ_ _ _ _ _=>(zco (zk5 K) (pv 0) (pv 1)<|by with_unfolding_all rfl)) zaa)) zan)<|zac (zah<|za4 (zch K R) 00 T.b_all jM (pa_c (zay ["inner"] [(1,"known"),(2,"barred"),(3,"most")] 83 00 (za5 K<|zag Qk hr 01 00 55) (λ_ _ _ _ _=>(zaq (i:=0) (show List.Nodup (["inner","known","barred","most"]:List Str) by decide+kernel) 00 54)) (λ_ _ _ _ _=>zbd) λ_ _ _ _ _=>(zag Kf hr 01 00<|pa_c (pv 0) (pa_c (pv 1)<|pa_c (pv 2) 045))) zaa)))),?_⟩;apply zav [G v,G 07,G<|.ref ba,G<|.int mo] R ?_;trivial;rw[letB_eq]at q;apply⟨_,.inl<|.of ea,ite2 (λc=>?_) λc=>?_⟩
 .let c':=of_decide_eq_true c;rw[y01]at c';let h:=q H 93;rw[Xf 01,y1b,y1b]at h;show h
 let c':=of_decide_eq_false<|y19.mpr c;rw[y01]at c';rw[Xg 01,y1c]at q;let tw':=T.t_TELLING_WORDS H;ac_rfl;obtain⟨p0,rest,ev,e0⟩:∃p rest,v=.ref p/\H p=G (.tup (.str (wordOf sy)::rest)):=by
  cases r with
  |bare O e=>show⟨_,_,R,e⟩
  |neg e J=>show⟨_,_,R,e⟩
  |two O e Y h2=>show⟨_,_,R,e⟩
  |qu O e J=>show⟨_,_,R,e⟩
 apply zk ?_;subst ev;apply ixm (.of e0) zbp ⟨_,.inr<|U H,R,zcg bw,?_⟩;rw[zdw];by_cases hwb:wordOf sy∈bw
 .rw[Xg hwb];let h:=q H 93;rw[Xf λz=>z hwb,y1b]at h;show iteT h
 rw[Xf hwb];rw[Xg hwb,y1c]at q;apply iteF<|ixm (.of e0) zbp ⟨_,.inr tw',R,R,?_⟩;let ai:(∀w n t,sy ≠ .qu w n t)->sy.isBare=Fa->∀H1,Same H H1->zcv [.ref p0] H1 (λx H1=>asR x λa_1=>(∃xs,SqL K H1 a_1 xs)/\
   cBody ["inner"] [(1,"known"),(2,"barred"),(3,"most")] (gName 0) tYes (tCall (zhn K bw n) [] E0<|tCons (tVar 0) (tCons (tVar 1)<|tCons (tVar 2) (tCons (tVar 3) tNil)))
    [G<|.ref p0,G<|V.ref a,G<|V.ref ba,G<|V.int mo] (λx H1=>asR x λp=>∃x,SqL K H1 p (List.map V.bl x)/\Q (V.bl<|x.all id) H1) (Itl K a_1) H1) E0:=by
  intro nq nb H1 g1;ac_rfl;let(p1,xs,ev',e,hl3,hk,pr):=r.items;apply zk ?_;cases ev';rw[zqj nq nb]at q;let eis:xs.filter (isT H1)=xs.filter (isT H):=y34 λy L=>by
   let(k,z):=hk y L;rw[←Kd.isT z,←Kd.isT (z.same g1)]
  let ap:=Paired.len pr;let l3:(xs.filter<|isT H).length<=1000:=y0v (y1n _ _) 01;apply⟨p0,xs,R,g1 _ _ e,by omega,λy L=>let⟨k,z⟩:=hk y L;⟨k,z.same g1⟩,λD1 H2 dq g2 e2=>⟨⟨_,.of e2⟩,?_⟩⟩;rw[eis]at e2;let al:=g1.trans g2;apply znh (K:=K) (a:=D1) (xs:=xs.filter<|isT H) (λσ=>∃v,σ=[v,G<|V.ref a,G<|V.ref ba,G<|V.int mo]) (λi=>.bl<|((sy.inner[i]?).map<|letB bw mo tl).getD N) l3 (.of e2) ⟨_,R⟩ ?_ ?_
  .rintro D i σ H' x hi J g I ac ⟨v,rfl⟩;let(t,o,rt):=Paired.at pr J;let dt:=(zgu<|y0q o).1;let gx:=al.trans g;trivial;show⟨x,a,ba,t,tl,mo,R,rt.same gx,by omega,gx _ _ ea,by omega,U,λH3 g3=>znf l3 hi I (g3 _ _ ac) (g.trans g3) ⟨_,R⟩<|by rw[o];rfl⟩
  .intro D H' I g eD;apply⟨(List.range (xs.filter<|isT H).length).map λi=>((sy.inner[i]?).map<|letB bw mo tl).getD N,.of (by rw[eD,y0t];rfl),?_⟩;rw[ap,zdl];show q H'<|al.trans g
 cases r with
 |qu O e J =>
  rename_i wd nm x t;rw[show wordOf (Sy.qu wd nm t)=wd from rfl,zrd wd O];replace q:∀H',Same H H'->Q (.bl<|decide (nm∉tl)&&letB bw mo (tl++[nm]) t) H':=q;let dn:=zx3 wd nm t;apply iteT<|ixm (.of e) (zam (j:=1) R) ⟨_,.inl<|.of ea,R,zcg tl,?_⟩;rw[zdw];by_cases hn:nm∈tl
  .rw[Xg hn];let h:=q H 93;rw[Xf λz=>z hn,y1b]at h;show iteF h
  rw[Xf hn];rw[Xg hn,y1c]at q;apply iteT<|ixm (.of e) (zam (j:=2) R) (ixm (.of e) (zam (j:=1) R)<|mkT λp1 H1 u=>⟨_,u.g _ _ ea,_,u.at',zad (by rw[y01,y0u];omega),λl H2 n2=>?_⟩);let g2:=u.g.trans n2.g;show⟨x,l,ba,t,tl++[nm],mo,R,J.same g2,by omega,by rw[n2.at',y0y];rfl,by rw[y0j,y0u];omega,U,λH3 g3=>q H3<|g2.trans g3⟩
 |neg e J =>
  rw[show wordOf (Sy.neg _)=("not":Str)from rfl,zxa];show iteF ⟨_,_,R,.neg e J,λH1 g1=>by trivial;show iteF<|ai (λ_ _ _ z=>by cases z) R H1 g1⟩
 |two O e Y h2 =>
  rename_i wd x y t1 t2;rw[show wordOf (Sy.two wd t1 t2)=wd from rfl,ztp wd O];show iteF ⟨_,_,R,.two O e Y h2,λH1 g1=>by trivial;show iteF<|ai (λ_ _ _ z=>by cases z) R H1 g1⟩
 |bare O e =>
  rename_i wd nm m;rw[show wordOf (Sy.bare wd nm m)=wd from rfl,zu9 wd O];replace q:∀H',Same H H'->Q (.bl<|decide (nm∈tl)&&decide (m∈tl)) H':=q;apply iteF ⟨_,_,R,.bare O e,λH1 g1=>itB ⟨_,.of<|g1 _ _ e,zgk 05,λp H2 n2=>⟨⟨_,.of n2.at'⟩,?_⟩⟩⟩;let ec:cutL [V.str wd,V.str nm,V.str m] (G 1) B=[nm,m].map V.str:=by
   rw[show((1:Int))=((1:Nat):Int)from rfl,ze0];rfl
  rw[ec]at n2;let g:=g1.trans n2.g;apply zfr (K:=K) (a:=p) (xs:=[nm,m].map V.str) (λσ=>∃v,σ=[v,G 07]) (λy=>.bl<|inV y 010) 05 (.of n2.at') ⟨_,R⟩ ?_ ?_
  .rintro D i σ H' x hi M J g' I ac ⟨v,rfl⟩;let fx:flatV x=N:=by
    let(z,_,rfl):=y0f.mp M;rfl
   trivial;show⟨_,.inl<|.of (g' _ _<|g _ _ ea),fx,zcg tl,zb6 05 J I ac g' ⟨_,R⟩ R⟩
  .intro D H' I g' ac;apply⟨[decide (nm∈tl),decide (m∈tl)],.of ?_,?_⟩
   .rw[ac];change G (HO.lst [.bl<|inV (.str nm) 010,.bl<|inV (.str m) 010])=_;rw[zdw,zdw];rfl
   .let h:=q H'<|g.trans g';rw[show[decide (nm∈tl),decide (m∈tl)].all id=(decide (nm∈tl)&&(decide (m∈tl)&&N))from rfl,Bool.and_true];show h
theorem znr{bw:List Str}(T:Txt K mg w tw rw ow fa pa ta cj ca ce co cn cSayError cs)(d:Dfn K mg "is_let" V1 ["saying","known","barred","most"])(e:03 1 "inner_sayings" ["saying"] zcv)(f:03 2 "is_bare" ["saying"] zgf):
  ∀n,03 (n+2) "is_let" ["saying","known","barred","most"]<|zhn K bw n
 |0=>(d.never λvs H Q E h=>by let(v,a,c,s,tl,mo,_,_,hd,_):=h;show Xa hd<|y39 _).mono 06
 |n+1=>ok_let T d e f<|znr T d e f n
abbrev Vr:Stmt:=top 65
theorem zkk:FnScope ["thing","frame"] ["thing","frame"] (defScope Vr):={}
include T in
theorem zww(d:Dfn K mg "is_saying" Vr ["thing","frame"])(Kc:03 4 "is_frame" ["thing"] zvo)(Qj:03 29 "is_any_saying" ["thing"] zen)
  (M:03 15 "is_let" ["saying","known","barred","most"]<|zhn K treeWords 13):03 30 "is_saying" ["thing","frame"] (zf1 treeWords 4):=by
 apply d.cal zkk 09 51
 .nofun
 let(v,g,rfl,ex,y,j,q):=h;apply⟨_,(zac<|zah (zdg (zag Kc hr 01 00 96)<|zdg (zag Qj hr 01 00 55) (zd1<|zag M hr 01 00 (pa_c (pv 0)<|pa_c (pv 1) (pa_c (zbf 00 T.g_TREE_WORDS)<|pa_c (zbf 00 T.g_MOST_NAMES) zaa))))),?_⟩;apply zav [G v,G g] R ?_;trivial;apply⟨g,R,y,j,λH1 g1=>⟨_,R,ite2 (λc=>?_) λc=>q Fa H1 g1 ⟨λz=>(by cases z),λ⟨a,tl,s,C,e,u,_⟩=>Xa (show frB H g=N by rw[C];simp only[frB,e];show u) c⟩⟩⟩;ac_rfl;let(a,tl,rfl,e,u,p):=ztv c;apply zk ?_;apply⟨v,R,ex.same g1,λb H2 g2 U=>⟨_,R,?_⟩⟩;let back:(∃s,AnySay H1 v s)↔∃s,AnySay H v s:=⟨λ⟨s,r,O,hd,hp⟩=>by
   let Y:=ziu r O hd;rw[zdy g1 ex]at Y;ac_rfl;let(s',r',D,J):=zc5 Y;apply zk ?_;rw[r.det<|r'.same g1]at hp;show⟨s',r',D,J,hp⟩,λ⟨s,r,O,hd,hp⟩=>⟨s,r.same g1,O,hd,hp⟩⟩
 rw[back]at U;apply ite2 (λL=>?_) λL=>q Fa H2 037 ⟨λz=>(by cases z),λ⟨_,_,s,_,_,_,x,_⟩=>Xa (U.mpr ⟨s,x⟩) L⟩;ac_rfl;let(sy,x):=U.mp L;let(r,O,hd,hp):=id x;apply zk ?_;apply⟨v,a,rw,sy,tl,4,R,r.same 037,by omega,g2 _ _<|g1 _ _ e,by omega,T.t_TREE_WORDS,λH3 g3=>q _ H3 (g1.trans<|g2.trans g3) ⟨λz=>⟨a,tl,sy,R,e,u,x,z⟩,λ⟨I,tl',s',C,l,_,i,z⟩=>?_⟩⟩;cases C;rw[e]at l;let o:tl=tl':=by
  let:=(Option.some.inj l);show zei<|HO.lst.inj this
 subst o;rw[r.det i.1];show z
abbrev Ql:Stmt:=top 135
theorem zcx:FnScope ["text"] ["text"] (defScope Ql):={}
include T in
theorem zqe(d:Dfn K mg "words_between_blanks" Ql ["text"]):03 1 "words_between_blanks" ["text"] zdp:=by
 apply d.cal zcx 09 51
 .nofun
 let(z,rfl,hz,q):=h;apply⟨_,(zac<|zah (zay ["word"] [] 83 00 (za5 K<|zbz K PySem.F.plainAttrs_str PySem.F.slot_str_split PySem.F.type_str_split zoo (pv 0) 76) (λ_ _ _ _ _=>(zaq (i:=0) (show List.Nodup (["word"]:List Str) by decide+kernel) 00 54)) (λ_ _ _ _ _=>(zyu<|zak zsm (pv 0) zae 56)) λ_ _ _ _ _=>(pv 0))),?_⟩;apply zav [G 94] R ?_;trivial;let hc:=zgw 32<|ch z;let hs:=SS.split_len z 32;rw[←lit1.2.2]at hs;rw[←zbk]at hc;let C:(Txt.split z " ").length<=100000:=by omega
 apply⟨by decide+kernel,by rw[jc];omega,C,λp H1 u=>⟨⟨_,u.lst⟩,?_⟩⟩;apply zyc (K:=K) (a:=p) (xs:=(Txt.split z " ").map V.str) (λσ=>∃v,σ=[v]) (λy=>decide (y≠V.str "")) id (by rw[y01];show C) u.lst ⟨_,R⟩ ?_ ?_
 .rintro D i σ H' x hi M J g I Y ⟨v,rfl⟩;let(y,O,rfl):=y0f.mp M;trivial;by_cases c:y=""
  .rw[Xg c];show iteF<|zu0 J (by rw[c];show Xf λh=>h R) Y g ⟨_,R⟩
  .rw[Xf c];show iteT<|zyb (by rw[y01];show C) J (Xg λh=>c<|V.str.inj h) I Y g ⟨_,R⟩ R
 intro D H2 I g j;apply q D H2 (u.g.free I) (u.g.trans g) ?_;rw[j,List.map_id,y3p];apply congrArg (λl=>G<|HO.lst (List.map V.str l))<|y34 λy _=>?_;change decide (V.str y≠V.str "")=decide (y≠"");show decide_eq_decide.mpr ⟨λh e=>h (by rw[e]),λh e=>h<|V.str.inj e⟩
abbrev V3:Stmt:=top 136
theorem zmh:FnScope ["text"] ["text"] (defScope V3):={}
include T in
theorem zwk(d:Dfn K mg "words_of" V3 ["text"])(u:03 1 "words_between_blanks" ["text"] zdp):CalT P w K mg base 2 "words_of" ["text"] zn1:=by
 apply d.calT zmh 09 51
 .nofun
 let(z,rfl,hz,q):=h;apply⟨_,(zmr<|zr1 (zsh u hr 01 00<|paT_c (zgn<|zgn (PE.t<|pv 0)) (PA.t zaa))),?_⟩;apply zav [G 94] R ?_;trivial;let L:(" ( ":Str).length=3:=by decide+kernel
 let a:(" ) ":Str).length=3:=by decide+kernel
 let l1:(Txt.replace z "(" " ( ").length<=3*z.length:=by
  rw[zbk,zbk z,lit1.1,zdc];show zx0 (by rw[ch_lit1.2.1];decide) _
 let l2:(Txt.replace (Txt.replace z "(" " ( ") ")" " ) ").length<=3*z.length:=by
  rw[zbk,zsk,zbk z];show zoj _
 apply⟨by decide+kernel,by rw[L];omega,by decide+kernel,by rw[a];omega,_,R,by omega,λD H1 I g1 M=>q D H1 I g1 M⟩
abbrev Vq:Stmt:=top 137
theorem zkh:FnScope ["left"] ["left"] (defScope Vq):={}
include T in
theorem zmw(d:Dfn K mg "take_word" Vq ["left"]):03 1 "take_word" ["left"] zcd:=by
 apply d.cal zkh 09 51
 .nofun
 let(l,rfl,q):=h;apply⟨_,(zac<|zah (zer (zix (pv 0) λ_=>rfl) (pe_bm0K K PySem.F.plainAttrs_list PySem.F.slot_list_pop PySem.F.type_list_pop mt_pop<|pv 0) zae)),?_⟩;apply zav [G<|.ref l] R ?_;trivial;rcases q with⟨C,q⟩|⟨y,j,C,q⟩
 .exact⟨Fa,.inl ⟨_,.of C,R⟩,iteF q⟩
 .rw[zkp]at C;apply⟨N,.inl ⟨_,.of C,by cases revW j<;>rfl⟩,iteT ⟨.inl ⟨_,.of C⟩,_,C,.str y,?_,q _ (SameX.upd l H _) ?_⟩⟩
  .rw[y0j,y0u,Nat.add_sub_cancel,y13 43,y38];rfl
  .rw[zat,List.dropLast_concat]
abbrev Q1:Stmt:=top 138
theorem Qw:FnScope ["left","deepest","first","name","word"] ["left","deepest"] (defScope Q1):={}
theorem zwm{n k:Nat}(O:1<=k)(T:Txt K mg w tw rw ow fa pa ta cj ca ce co cn cSayError cs)(d:Dfn K mg "take_saying" Q1 ["left","deepest"])(T4:03 1 "take_word" ["left"] zcd)(Qe:CalE P w K mg base k "take_saying" ["left","deepest"]<|zej 043 n)(Qbs:CalE P w K mg base (k+1) "take_pair" ["left","deepest"]<|zfk 043 n):CalE P w K mg base (k+2) "take_saying" ["left","deepest"] (zej 043<|n+1):=by
 apply d.calE Qw 09 λf cdv A outer s H vs Q E hr h Rq=>?_
 .nofun
 let(l,j,dp,rfl,hdn,C,r,q,qx):=h;apply⟨_,(zab (za3 (zak zbn (pv 1) zaf 56) 122 zan)<|zab (zal (i:=2) Qw.nd R 08 103) (zab (za3 088 (zac<|zah (za0<|pa_c zae (pa_c (za1 Rq Qe hr 01 00<|pa_c (pv 0) (pa_c (zax zok (pv 1) zaf) zaa)) zaa))) zan)<|zab (za3 (zak (zk5 K) (pv 2) (zbf 00 T.g_TELLING_WORDS)<|by with_unfolding_all rfl) (zab (zal (i:=3) Qw.nd R 08 103)<|zac (zah<|za0 (pa_c (pv 2)<|pa_c (pv 3) (pa_c (za1 Rq Qe hr 01 00<|pa_c (pv 0) (pa_c (zax zok (pv 1) zaf) zaa)) zaa)))) zan) (zab (za3 088 (zac<|zah (za1 Rq Qbs hr 01 00<|pa_c (pv 0) (pa_c (zax zok (pv 1) zaf) zaa))) zan)<|zab (zal (i:=4) Qw.nd R 08 103) (zac<|zah (za0<|pa_c (pv 4) (pa_c (pv 2)<|pa_c 103 zaa)))))),?_⟩;apply zav [G<|.ref l,G<|.int dp,B,B,B] R ?_;trivial;cases dp with
 |zero =>
  show itT (show(((0:Nat):Int)=0)from rfl) ⟨zad 05,λc o=>qx R c H (SameX.refl _ _) o⟩
 |succ e =>
  rw[Xf (show¬(((e+1:Nat):Int)=0) by omega),show(((e+1:Nat):Int)-1)=(e:Int) by omega];apply iteF<|zb2 C λH1 y M=>⟨R,?_⟩;by_cases c1:j.headD ""="not"
  .let pa:parse (e+1) j=(parse e j.tail).map λp=>(.neg p.1,p.2):=by rw[parse,Xq c1]
   show itT (congrArg V.str c1) ⟨l,j.tail,e,R,by omega,M,zba r,λs rest hp v H2 J D Y r2=>⟨zad 05,λp H3 U=>q (.neg s) rest (by rw[pa,hp];rfl) _ H3 (y.trans<|J.trans (.of U.g)) (U.g _ _ D) Y<|.neg U.at' (r2.same U.g)⟩,λhp a H2 J g=>qx (by rw[pa,hp];rfl) a H2 (y.trans J) g⟩
  rw[Xf λz=>c1<|V.str.inj z];apply iteF ⟨_,.inr<|T.t_TELLING_WORDS _,R,R,?_⟩;by_cases x:j.headD ""∈(["some","all"]:List Str)
  .let pa:parse (e+1) j=(parse e j.tail.tail).map λp=>(.qu (j.headD "") (j.tail.headD "") p.1,p.2):=by rw[parse,Xp c1,Xq x]
   rw[show inV (V.str<|j.headD "") [.str "some",.str "all"]=N from(zdw _ ["some","all"]).trans (Xg x)];show iteT<|zb2 M λH2 J D=>⟨l,j.tail.tail,e,R,by omega,D,zba<|zba r,λs rest hp v H3 u L Y r3=>⟨zad 05,λp H4 I=>q (.qu _ _ s) rest (by rw[pa,hp];rfl) _ H4 (y.trans<|J.trans (u.trans<|.of I.g)) (I.g _ _ L) Y<|.qu (zca r) (zca<|zba r) I.at' (r3.same I.g)⟩,λhp a H3 u g=>qx (by rw[pa,hp];rfl) a H3 (y.trans<|J.trans u) g⟩
  rw[show inV (V.str<|j.headD "") [.str "some",.str "all"]=Fa from(zdw _ ["some","all"]).trans (Xf x)];apply iteF ⟨R,?_⟩;by_cases c3:j.headD ""="("
  .let pa:parse (e+1) j=pairOf e j.tail:=by rw[parse,Xp c1,Xp x,Xq c3];rfl
   show itT (congrArg V.str c3) ⟨l,j.tail,e,R,by omega,M,zba r,λs rest hp v H2 J D Y r2=>q s rest (by rw[pa,hp]) v H2 (y.trans J) D Y r2,λhp a H2 J g=>qx (by rw[pa,hp]) a H2 (y.trans J) g⟩
  let pa:parse (e+1) j=G (.bare (j.tail.headD "") (j.headD "")<|j.tail.tail.headD "",j.tail.tail.tail):=by rw[parse,Xp c1,Xp x,Xp c3]
  rw[Xf λz=>c3<|V.str.inj z];show iteF<|zb2 M λH2 J D=>zb2 D λH3 u L=>⟨zad 05,λp H4 I=>q _ _ pa _ H4 (y.trans<|J.trans (u.trans<|.of I.g)) (I.g _ _ L) (zba<|zba (zba r))<|.bare (zca<|zba r) (zca r) (zca<|zba (zba r)) I.at'⟩
abbrev Km:Stmt:=top 139
theorem Q9:FnScope ["left","deepest","one","word","other"] ["left","deepest"] (defScope Km):={}
theorem zk6{n k:Nat}(O:1<=k)(T:Txt K mg w tw rw ow fa pa ta cj ca ce co cn cSayError cs)(d:Dfn K mg "take_pair" Km ["left","deepest"])(T4:03 1 "take_word" ["left"] zcd)(U:CalE P w K mg base k "take_saying" ["left","deepest"]<|zej 043 n):CalE P w K mg base (k+1) "take_pair" ["left","deepest"] (zfk 043 n):=by
 apply d.calE Q9 09 λf cdv A outer s H vs Q E hr h Rq=>?_
 .nofun
 let(l,j,dp,rfl,hdn,C,sh,q,x):=h;apply⟨_,(zab (zal (i:=2) Q9.nd R 08<|za1 Rq U hr 01 00 046)<|zab (zal (i:=3) Q9.nd R 08 103) (zab (zal (i:=4) Q9.nd R 08<|za1 Rq U hr 01 00 046)<|zab (za3 (zak op_ne 103 zae 56) 122 zan) (zac<|zah (za0<|pa_c (pv 3) (pa_c (pv 2)<|pa_c (pv 4) zaa))))),?_⟩;apply zav [G<|.ref l,G<|.int dp,B,B,B] R ?_;trivial;apply⟨l,j,dp,R,hdn,C,sh,λs rest hp v H1 y M sr r1=>zb2 M λH2 J D=>⟨l,rest.tail,dp,R,hdn,D,zba sr,λt r e v3 H3 u L sr3 r3=>zb2 L λH4 I o=>⟨R,?_⟩,λe a H3 u g=>x (by unfold pairOf;rw[hp];change(parse dp rest.tail).bind _=B;rw[e];rfl) a H3 (y.trans<|J.trans u) g⟩,λhp a H1 y g=>x (by unfold pairOf;rw[hp];rfl) a H1 y g⟩;let pa:pairOf dp j=if r.headD ""=")" then G (.two (rest.headD "") s t,r.tail)else B:=by
  unfold pairOf;rw[hp];change(parse dp rest.tail).bind _=_;rw[e];rfl
 by_cases c:r.headD ""=")"
 .rw[Xq c]at pa;rw[Xg<|congrArg V.str c];show iteF ⟨zad 05,λp H5 Y=>q _ _ pa _ H5 (y.trans<|J.trans (u.trans<|I.trans (.of Y.g))) (Y.g _ _ o) (zba sr3)<|.two (zca sr) Y.at' ((((r1.sameX M J).sameX D u).sameX L I).same Y.g) ((r3.sameX L I).same Y.g)⟩
 .rw[Xp c]at pa;rw[Xf λz=>c<|V.str.inj z];show iteT ⟨zad 05,λa0 n0=>x pa a0 H4 (y.trans<|J.trans (u.trans I)) n0⟩
theorem zl5(T:Txt K mg w tw rw ow fa pa ta cj ca ce co cn cSayError cs)(g:Dfn K mg "take_saying" Q1 ["left","deepest"])(p:Dfn K mg "take_pair" Km ["left","deepest"])(C:03 1 "take_word" ["left"] zcd):∀n,CalE P w K mg base (2*n+1) "take_saying" ["left","deepest"] (zej 043 n)
 |0=>(g.neverE λvs H Q E h=>by let(l,j,d,_,hd,_):=h;show Xa hd<|y39 _).mono 06
 |n+1=>by
  let A:=zl5 T g p C n;show zwm 01 T g C A<|zk6 01 T p C A
abbrev Qa0:Stmt:=top 140
theorem P9:FnScope ["text","left","saying"] ["text"] (defScope Qa0):={}
include T in
theorem zwq(d:Dfn K mg "read" Qa0 ["text"])(Qb0:CalT P w K mg base 2 "words_of" ["text"] zn1)(Qe:CalE P w K mg base 27 "take_saying" ["left","deepest"]<|zej 043 13)(J:03 29 "is_any_saying" ["thing"] zen):CalET P w K mg base 30 "read" ["text"] (zih 043):=by
 apply d.calET P9 09 λf cdv A outer s H vs Q E hr h Rq=>?_
 .nofun
 let(v,rfl,h):=h;apply⟨_,(zbl (PS.t<|za3 178 122 zan)<|zbl (zi0 (i:=1) P9.nd R 08<|zi2 K R 00 T.b_list 00 T.b_reversed (paT_c (zk2 Qb0 hr 01 00<|PA.t 55)<|PA.t zaa)) (PSs.t<|zab (zal (i:=2) P9.nd R 08<|za1 Rq Qe hr 01 00 (pa_c (pv 1)<|pa_c (zbf 00 T.g_DEEPEST) zaa)) (zab (za3 (PW.pt<|zfx (zix (pv 1) λ_=>rfl) (zeo<|zce (zbv<|zag J hr 01 00 039))) 122 zan) 084))),?_⟩;apply zav [G v,B,B] R ?_;trivial;rcases h with⟨z,rfl,hz,sh,q,x⟩|⟨k,kd,O,x⟩
 .let e:(wordsT z).length<=100000:=by
   let Y:=zgw 32<|padL (ch z);let h2:=zoj<|ch z;let h3:(wordsT z).length=(wordsL<|padL (ch z)).length:=by rw[←zj0,y01]
   let p:(wordsL<|padL (ch z)).length<=(cutAt 32<|padL (ch z)).length:=y1n _ _;rw[zbk]at hz;omega
  apply⟨_,.str z,by decide,iteF ⟨z,R,hz,λD H1 I g1 M=>⟨D,R,_,.of M,by rw[y01];show e,λL H2 n2=>?_⟩⟩⟩;let e2:H2 L=G (.lst<|revW (wordsT z)):=by rw[n2.at'];unfold revW;rw[List.map_reverse]
  apply⟨L,wordsT z,12,R,by decide,e2,sh,λs rest l v H3 x3 e3 sr C=>?_,λl a H3 x3 g=>x (zpt l) a H3 (g1.trans<|x3.same n2.g n2.nil) g⟩;cases rest with
  |cons y r =>
   apply⟨N,.inl ⟨_,.of e3,by rw[zkp];cases revW r<;>rfl⟩,iteT ⟨zad 05,λa0 o=>x ?_ a0 H3 (g1.trans<|x3.same n2.g n2.nil) o⟩⟩;unfold readW;rw[l]
  |nil =>
   apply⟨Fa,.inl ⟨_,.of e3,R⟩,iteF ⟨v,R,C.exp 12,λb H4 g4 U=>?_⟩⟩;let j:readW (wordsT z)=if goodB s=N then G s else B:=by unfold readW;rw[l]
   let g04:=g1.trans<|(x3.same n2.g n2.nil).trans g4;by_cases c:goodB s=N
   .rw[Xq c]at j;let(Y,h2,h3,p):=goodB_iff.mp c;let u:b=N:=U.mpr ⟨s,C.rep Y,h2,h3,p⟩;subst u;show itN<|q s j v H4 g04 ((C.rep Y).same g4)
   .rw[Xp c]at j;let u:b=Fa:=y19.mpr λz=>by
     let(s',r',h2,h3,p):=U.mp z;let:=C.det r';subst this;show c<|goodB_iff.mpr ⟨r'.wd,h2,h3,p⟩
    subst u;show itN0 ⟨zad 05,λa0 o=>x j a0 H4 g04 o⟩
 .exact⟨k,kd,by decide,by rw[O];show iteT ⟨zad 05,λa0 o=>x a0 H 93 o⟩⟩
abbrev Q2:Stmt:=top 66
theorem zfb:FnScope ["thing","frame"] ["thing","frame"] (defScope Q2):={}
include T in
theorem zs2(d:Dfn K mg "is_tree_saying" Q2 ["thing","frame"])(Kc:03 4 "is_frame" ["thing"] zvo)(Qj:03 29 "is_any_saying" ["thing"] zen)
  (M:03 15 "is_let" ["saying","known","barred","most"]<|zhn K SS.rowWords 13):03 30 "is_tree_saying" ["thing","frame"] (zf1 SS.rowWords 3):=by
 apply d.cal zfb 09 51
 .nofun
 let(v,g,rfl,ex,y,j,q):=h;apply⟨_,(zac<|zah (zdg (zag Kc hr 01 00 96)<|zdg (zag Qj hr 01 00 55) (zd1<|zag M hr 01 00 (pa_c (pv 0)<|pa_c (pv 1) (pa_c (zbf 00 T.g_ROW_WORDS)<|pa_c (zbf 00 T.g_MOST_TREE_NAMES) zaa))))),?_⟩;apply zav [G v,G g] R ?_;trivial;apply⟨g,R,y,j,λH1 g1=>⟨_,R,ite2 (λc=>?_) λc=>q Fa H1 g1 ⟨λz=>(by cases z),λ⟨a,tl,s,C,e,u,_⟩=>Xa (show frB H g=N by rw[C];simp only[frB,e];show u) c⟩⟩⟩;ac_rfl;let(a,tl,rfl,e,u,p):=ztv c;apply zk ?_;apply⟨v,R,ex.same g1,λb H2 g2 U=>⟨_,R,?_⟩⟩;let back:(∃s,AnySay H1 v s)↔∃s,AnySay H v s:=⟨λ⟨s,r,O,hd,hp⟩=>by
   let Y:=ziu r O hd;rw[zdy g1 ex]at Y;ac_rfl;let(s',r',D,J):=zc5 Y;apply zk ?_;rw[r.det<|r'.same g1]at hp;show⟨s',r',D,J,hp⟩,λ⟨s,r,O,hd,hp⟩=>⟨s,r.same g1,O,hd,hp⟩⟩
 rw[back]at U;apply ite2 (λL=>?_) λL=>q Fa H2 037 ⟨λz=>(by cases z),λ⟨_,_,s,_,_,_,x,_⟩=>Xa (U.mpr ⟨s,x⟩) L⟩;ac_rfl;let(sy,x):=U.mp L;let(r,O,hd,hp):=id x;apply zk ?_;apply⟨v,a,ow,sy,tl,3,R,r.same 037,by omega,g2 _ _<|g1 _ _ e,by omega,T.t_ROW_WORDS,λH3 g3=>q _ H3 (g1.trans<|g2.trans g3) ⟨λz=>⟨a,tl,sy,R,e,u,x,z⟩,λ⟨I,tl',s',C,l,_,i,z⟩=>?_⟩⟩;cases C;rw[e]at l;let o:tl=tl':=by
  let:=(Option.some.inj l);show zei<|HO.lst.inj this
 subst o;rw[r.det i.1];show z
abbrev Ks:Stmt:=top 67
theorem zg7:FnScope ["frame"] ["frame"] (defScope Ks):={}
include T in
theorem ok_cf57(d:Dfn K mg "check_frame" Ks ["frame"])(g:03 4 "is_frame" ["thing"] zvo):CalE P w K mg base 5 "check_frame" ["frame"] (zgh 049):=by
 apply d.calE zg7 09 λf l A outer s H vs Q E L h Rq=>?_
 .nofun
 let(b,tl,rfl,J,q,x):=h;apply⟨_,(zac<|za3 (zce<|zbv (zag g L 01 00 55)) (zac<|zbg Rq R 00 T.m_NoFrame T.x_NoFrame F.excBase_ValueError 76) zan),?_⟩;apply zav [G 53] R ?_;trivial;apply⟨_,R,⟨⟨_,.lst J.e⟩,λz e=>by cases e⟩,(λa xs O e=>by cases O;rw[J.e]at e;cases e;show zd4 J.few J.len),λH1 g1=>?_⟩;let U:frB H 53=frameB 010:=by unfold frB;simp only[J.e]
 rw[U];cases h:frameB (tl.map V.str)with
 |true=>show itN<|q h H1 g1
 |false=>show itN0<|mkT λc o=>x h c H1 g1 o
theorem say57{H:Hp}{v:V}{b:Ad}{tl:List Str}{s:Sy}{bw:List Str}{mo:Nat}(r:Rep H v s)(g:goodB s=N)(e:H b=G (.lst 010))(j:frameB 010=N):SayOk H bw mo v 53↔letB bw mo tl s=N:=by
 let(Y,h2,h3,p):=goodB_iff.mp g;constructor
 .rintro⟨I,tl',s',D,q,f1,⟨r',O,hd,l⟩,C⟩;cases D;rw[e]at q;let o:tl=tl':=zei<|HO.lst.inj (Option.some.inj q);subst o;let i:=r.det r';subst i;show C
 .exactλC=>⟨b,tl,s,R,e,j,⟨r,h2,h3,p⟩,C⟩
abbrev Vg:Stmt:=top 68
theorem zkn:FnScope ["saying","frame"] ["saying","frame"] (defScope Vg):={}
include T in
theorem ok_cl57(d:Dfn K mg "check_let" Vg ["saying","frame"])(I:CalE P w K mg base 5 "check_frame" ["frame"]<|zgh 049)(i:03 30 "is_saying" ["thing","frame"]<|zf1 treeWords 4):CalE P w K mg base 31 "check_let" ["saying","frame"] (zmd 038):=by
 apply d.calE zkn 09 λf l A outer s H vs Q E L h Rq=>?_
 .nofun
 let(v,b,tl,sy,rfl,J,r,y,j,q,x):=h;apply⟨_,(zab (za8<|za1 Rq I L 01 00 96)<|zac (za3 (zce<|zbv (zag i L 01 00 046)) (zac<|zbg Rq R 00 T.m_NoSaying T.x_NoSaying F.excBase_ValueError 76) zan)),?_⟩;apply zav [G v,G 53] R ?_;trivial;apply⟨b,tl,R,J,λ_ H1 g1=>?_,λh=>by rw[j]at h;cases h⟩;let g:=J.same g1;let r1:=r.same g1;apply⟨v,.ref b,R,r1.exp (goodB_iff.mp y).2.1 12,⟨⟨_,.lst g.e⟩,λz e=>by cases e⟩,(λa xs O e=>by cases O;rw[g.e]at e;cases e;show zd4 J.few J.len),λY H2 g2 U=>?_⟩;rw[say57 r1 y g.e j]at U;cases Y with
 |true=>show itN<|q (U.mp R) H2 037
 |false=>show itN0<|mkT λc o=>x (y19.mpr λz=>by cases U.mpr z) c H2 (g1.trans g2) o
abbrev Qu:Stmt:=top 69
theorem zd9:FnScope ["frame"] ["frame"] (defScope Qu):={}
include T in
theorem zw5(d:Dfn K mg "check_tree_frame" Qu ["frame"])(I:CalE P w K mg base 5 "check_frame" ["frame"]<|zgh 049):CalE P w K mg base 6 "check_tree_frame" ["frame"] (zim 049):=by
 apply d.calE zd9 09 λf l A outer s H vs Q E L h Rq=>?_
 .nofun
 let(b,tl,rfl,J,q,x):=h;apply⟨_,(zab (za8<|za1 Rq I L 01 00 55)<|zac (za3 (zak zp0 086 (zbf 00 T.g_MOST_TREE_NAMES) 56) (zac<|zbg Rq R 00 T.m_NoFrame T.x_NoFrame F.excBase_ValueError 76) zan)),?_⟩;apply zav [G 53] R ?_;trivial;apply⟨b,tl,R,J,λU H1 g1=>⟨_,.inl<|.of (g1 _ _ J.e),?_⟩,λU=>x<|by unfold frT;rw[U,y1b]⟩;rw[y01];by_cases h3:tl.length<=3
 .exact itF 01<|q (by unfold frT;rw[U,Xg h3];rfl) H1 g1
 .exact itT 01<|mkT λc o=>x (by unfold frT;rw[Xf h3,y25]) c H1 g1 o
abbrev Q3:Stmt:=top 70
theorem zfc:FnScope ["saying","frame"] ["saying","frame"] (defScope Q3):={}
include T in
theorem zw4(d:Dfn K mg "check_tree_let" Q3 ["saying","frame"])(p:CalE P w K mg base 6 "check_tree_frame" ["frame"]<|zim 049)(i:03 30 "is_tree_saying" ["thing","frame"]<|zf1 SS.rowWords 3):CalE P w K mg base 31 "check_tree_let" ["saying","frame"] (zcj 038):=by
 apply d.calE zfc 09 λf l A outer s H vs Q E L h Rq=>?_
 .nofun
 let(v,b,tl,sy,rfl,J,r,y,j,C,x):=h;apply⟨_,(zab (za8<|za1 Rq p L 01 00 96)<|zac (za3 (zce<|zbv (zag i L 01 00 046)) (zac<|zbg Rq R 00 T.m_NoSaying T.x_NoSaying F.excBase_ValueError 76) zan)),?_⟩;apply zav [G v,G 53] R ?_;trivial;apply⟨b,tl,R,J,λ_ H1 g1=>?_,λh=>by rw[j]at h;cases h⟩;let g:=J.same g1;let r1:=r.same g1;apply⟨v,.ref b,R,r1.exp (goodB_iff.mp y).2.1 12,⟨⟨_,.lst g.e⟩,λz e=>by cases e⟩,(λa xs O e=>by cases O;rw[g.e]at e;cases e;show zd4 J.few J.len),λY H2 g2 U=>?_⟩;rw[say57 r1 y g.e (y2g.mp j).1,C]at U;cases Y with
 |true=>cases U.mp R
 |false=>show itN0<|mkT λc o=>x c H2 037 o
abbrev K5:Stmt:=top 132
theorem ziq:FnScope ["saying","frame","machine_of"] ["saying","frame"] (defScope K5):={}
include T in
theorem ok_tb57(d:Dfn K mg "tree_built" K5 ["saying","frame"])(a:CalE P w K mg base 31 "check_tree_let" ["saying","frame"]<|zcj 038):CalE P w K mg base 32 "tree_built" ["saying","frame"] (zcj 038):=by
 apply d.calE ziq 09 λf l A outer s H vs Q E L h Rq=>?_
 .nofun
 let(v,b,tl,sy,rfl,J,r,y,j,C,x):=h;apply⟨_,(zab (za8<|za1 Rq a L 01 00 046) zcq),?_⟩;apply zav [G v,G 53,B] R ?_;trivial;show⟨v,b,tl,sy,R,J,r,y,j,C,x⟩
abbrev Kk:Stmt:=top 133
theorem Vd:FnScope ["saying","frame","machine","found"] ["saying","frame"] (defScope Kk):={}
include T in
theorem ok_tv57(d:Dfn K mg "tree_verdict" Kk ["saying","frame"])(q:CalE P w K mg base 32 "tree_built" ["saying","frame"]<|zcj 038):CalE P w K mg base 33 "tree_verdict" ["saying","frame"] (zcj 038):=by
 apply d.calE Vd 09 λf l A outer s H vs Q E L h Rq=>?_
 .nofun
 let(v,b,tl,sy,rfl,J,r,y,j,C,x):=h;apply⟨_,(zab (zal (i:=2) Vd.nd R 08<|za1 Rq q L 01 00 046) zcq),?_⟩;apply zav [G v,G 53,B,B] R ?_;trivial;show⟨v,b,tl,sy,R,J,r,y,j,C,x⟩
abbrev Ve:Stmt:=top 150
theorem Tg:FnScope ["text","frame","saying"] ["text","frame"] (defScope Ve):={}
include T in
theorem zwn(d:Dfn K mg "saying_in" Ve ["text","frame"])(I:CalE P w K mg base 5 "check_frame" ["frame"]<|zgh 049)(o:CalET P w K mg base 30 "read" ["text"]<|zih 043)(c:CalE P w K mg base 31 "check_let" ["saying","frame"]<|zmd 038):CalET P w K mg base 32 "saying_in" ["text","frame"] (zn3 cs):=by
 apply d.calET Tg 09 λf l A outer s H vs Q E L h Rq=>?_
 .nofun
 let(z,b,tl,rfl,hz,O,J,y,x0,u,q):=h;apply⟨_,(zbl (PS.t<|za8 (za1 Rq I L 01 00 96))<|zbl (zi0 (i:=2) Tg.nd R 08<|zcz Rq o L 01 00 (PA.t 55)) (PSs.t<|zab (za8<|za1 Rq c L 01 00 (pa_c (pv 2) 96)) 084)),?_⟩;apply zav [G 94,G 53,B] R ?_;trivial;apply⟨b,tl,R,J,λj H1 g1=>⟨.str z,R,.inl ⟨z,R,by omega,by rw[zvj];show O,?_⟩⟩,y⟩;rw[zvj];apply⟨λsy hs v H2 g2 e=>?_,λhs a H2 g2 n=>x0 j hs a H2 037 n⟩;let D:=g1.trans g2;show⟨v,b,tl,sy,R,J.same D,e,zhs hs,j,λC H3 r=>q j sy hs C v H3 (D.trans r)<|e.same r,λC a H3 r n=>u j sy hs C a H3 (D.trans r) n⟩
abbrev Ke:Stmt:=top 151
theorem K2:FnScope ["ask","frame","text","saying"] ["ask","frame","text"] (defScope Ke):={}
include T in
theorem zmv(d:Dfn K mg "said_of_trees" Ke ["ask","frame","text"])(p:CalE P w K mg base 6 "check_tree_frame" ["frame"]<|zim 049)(o:CalET P w K mg base 30 "read" ["text"]<|zih 043)(q:CalE P w K mg base 32 "tree_built" ["saying","frame"]<|zcj 038)(I:CalE P w K mg base 33 "tree_verdict" ["saying","frame"]<|zcj 038):CalET P w K mg base 34 "said_of_trees" ["ask","frame","text"] (zga cs):=by
 apply d.calET K2 09 λf l A outer s H vs Q E L h Rq=>?_
 .nofun
 let(ak,z,b,tl,rfl,hz,O,J,y,x0,u):=h;apply⟨_,(zbl (PS.t<|za8 (za1 Rq p L 01 00 96))<|zbl (zi0 (i:=3) K2.nd R 08<|zcz Rq o L 01 00 (PA.t 039)) (PSs.t<|zab (za3 (zak zbn (pv 0) zae 56) (zac<|zah (zby zcm 00 T.b_str boot_str<|pa_c (za4 (zaz K) 00 T.b_len i8<|pa_c (zao 39 (za1 Rq q L 01 00<|pa_c (pv 3) 96) zaf λ_ _=>rfl) zaa) zaa)) zan) (zac<|zah (zao 39 (za1 Rq I L 01 00<|pa_c (pv 3) 96) zaf λ_ _=>rfl)))),?_⟩;apply zav [G<|.str ak,G 53,G 94,B] R ?_;trivial;apply⟨b,tl,R,J,λj H1 g1=>⟨.str z,R,.inl ⟨z,R,by omega,by rw[zvj];show O,?_⟩⟩,y⟩;rw[zvj];apply⟨λsy hs v H2 g2 e=>?_,λhs a H2 g2 n=>x0 j hs a H2 037 n⟩;let D:=g1.trans g2;let(C,x):=u j sy hs;let g:∀c,zcj 038 [v,V.ref b] H2 c E:=λc=>⟨v,b,tl,sy,R,J.same D,e,zhs hs,j,C,λa H3 r n=>x a H3 (D.trans r) n⟩;show ite2 (λ_=>g _) λ_=>g _
abbrev Vk:Stmt:=top 146
theorem zki:FnScope ["word"] ["word"] (defScope Vk):={}
include T in
theorem zws(d:Dfn K mg "number_in" Vk ["word"]):03 1 "number_in" ["word"] zn6:=by
 apply d.cal zki 09 51
 .nofun
 let(z,o,rfl,hz,Y,q):=h;let U:=zfh hr 8 01;apply⟨_,(zab (za3 (PW.pt<|zfx (zak zp0 (za4 zft 00 T.b_len i8 55) (zbf 00 T.g_MOST_FIGURES) 56) (zeo<|zce (zbv<|za4 (zch K R) 00 T.b_all jM (pa_c (zay ["sign"] [] 83 00 (zyt<|pv 0) (λ_ _ _ _ _=>(zaq (i:=0) (show List.Nodup (["sign"]:List Str) by decide+kernel) 00 54)) (λ_ _ _ _ _=>zbd) λ_ _ _ _ _=>(zco zgo (pv 0) (zbf 00 T.g_FIGURES)<|by with_unfolding_all rfl)) zaa)))) (zac<|zah zkw) zan)<|zac (zah<|zer (PW.pt<|pw_and (zbv<|zbz K PySem.F.plainAttrs_str PySem.F.slot_str_startswith PySem.F.type_str_startswith zte (pv 0) 76) (pw_and1<|zak zsm (pv 0) zae 56)) zkw (zby zjv 00 T.b_int boot_int 55))),?_⟩;apply zav [G 94] R ?_;trivial;let l:=zbk z;apply⟨by rw[jc];omega,?_⟩;unfold numS at Y;by_cases h3:3<z.length
 .rw[Xg h3]at Y;cases Y;show itT 01<|q H (Same.refl _)
 rw[Xf h3,y3w]at Y;apply itF 01 ?_;let p:z.cps.size<=3:=by have:=y20 h3;rw[l]at this;simpa using this
 apply cb_str (λD i ys σ H'=>Same H H'/\(∃v,σ=[v])/\ys=(z.cps.toList.take i).map λd=>V.bl<|signIn d FIGS) (y1i<|small1000 01) (λD I=>⟨zbb I _,⟨B,R⟩,R⟩) ?_ ?_
 .rintro D i ys σ H' d I hi hd u r ⟨g,⟨v,rfl⟩,rfl⟩;trivial;apply cstep (y1i<|small1000 01) hi u r ⟨λb o e=>?_,⟨_,R⟩,?_⟩
  .rw[zaj<|zau e I];show g b o e
  .let M:z.cps.toList[i]?=G d:=by simpa using hd
   rw[y14,M,y0y];rfl
 .rintro D ys σ H' I u r ⟨g,_,rfl⟩;rw[y0n 05]at u;trivial;apply⟨z.cps.toList.map λd=>signIn d FIGS,.of (by rw[u,y0t];rfl),?_⟩;let a:(z.cps.toList.map λd=>signIn d FIGS).all id=figB z:=by rw[y23];rfl
  rw[a];cases j:figB z with
  |false =>
   rw[j]at Y;cases Y;show iteT<|q H' g
  |true =>
   rw[j]at Y;apply iteF ⟨z,_,R,R,?_⟩;let fin:(Txt.startswith z "0"&&decide (z≠"0"))=Fa->rIntT [V.str z] H' Q:=λhs=>by
    let Y:(if(Txt.startswith z "0"&&decide (z≠"0"))=N then G B else(PySem.intText? z).map G)=G o:=Y;rw[hs,Xp 06]at Y;let(n,L,rfl):=y10.mp Y;show⟨z,n,R,L,by omega,q H' g⟩
   cases hs:Txt.startswith z "0" with
   |false=>show itB0<|fin (by rw[hs];rfl)
   |true =>
    apply itB ?_;by_cases c:z="0"
    .rw[Xg c];show iteF<|fin (by rw[Xf λh=>h c,y25])
    .rw[Xf c];let Y:(if(Txt.startswith z "0"&&decide (z≠"0"))=N then G B else(PySem.intText? z).map G)=G o:=Y;rw[hs,Xg c]at Y;cases Y;show iteT<|q H' g
abbrev K0:Stmt:=top 147
theorem zis:FnScope ["text"] ["text"] (defScope K0):={}
include T in
theorem zsy(d:Dfn K mg "numbers_in" K0 ["text"])(u:03 1 "words_between_blanks" ["text"] zdp)(Qbi:03 1 "number_in" ["word"] zn6):03 2 "numbers_in" ["text"] zgc:=by
 apply d.cal zis 09 51
 .nofun
 let(z,os,rfl,hz,Y,q):=h;let U:=zfh hr 8 01;apply⟨_,(zac<|zah (zay ["word"] [] 83 00 (za5 K<|zag u hr 01 00 55) (λ_ _ _ _ _=>(zaq (i:=0) (show List.Nodup (["word"]:List Str) by decide+kernel) 00 54)) (λ_ _ _ _ _=>zbd) λ_ _ _ _ _=>(zag Qbi hr 01 00 55))),?_⟩;apply zav [G 94] R ?_;trivial;apply⟨z,R,by omega,λD H1 I g1 j=>?_⟩;rw[wB_is]at j;let hfw:=zq7 z;trivial;apply⟨⟨_,.of j⟩,?_⟩;apply zgz (K:=K) (a:=D) (xs:=(wB z).map V.str) (λσ=>∃v,σ=[v]) (λx=>match x with|.str y=>oV ((numS y).getD B)|_=>.non) (by rw[y01];omega) (.of j) ⟨_,R⟩ ?_ ?_
 .rintro c i3 σ H4 x p M J e b9 bd ⟨v,rfl⟩;let(y,L,rfl):=y0f.mp M;let(k,O,l):=y1s L;let(o,_,r):=zvf Y<|y00 O;rw[l]at r;trivial;apply⟨y,o,R,y0v (zyi L) hz,r,λH5 g=>zb6 (by rw[y01];omega) J b9 (g _ _ bd) (e.trans g) ⟨_,R⟩ ?_⟩;change oV o=oV ((numS y).getD B);rw[r];rfl
 .intro c H4 b9 g4 C;apply q c H4 (g1.trans g4) ?_;rw[C,zpf Y,y0t,y0t];rfl
abbrev Td:Stmt:=top 23
theorem zmi:FnScope ["thing"] ["thing"] (defScope Td):={}
include T in
theorem zsr(d:Dfn K mg "is_whole" Td ["thing"]):03 1 "is_whole" ["thing"] zj8:=by
 apply d.cal zmi 09 51
 .nofun
 let(v,rfl,h):=h;apply⟨_,(zac<|zah (zdg (za4 zbr 00 T.b_isinstance iq<|pa_c (pv 0) (pa_c (zcf (v:=.ty "int") 00 T.b_int boot_int 00) zaa))<|zd1 (zyv<|za4 zbr 00 T.b_isinstance iq (pa_c (pv 0)<|pa_c (zcf (v:=.ty "bool") 00 T.b_bool boot_bool 00) zaa)))),?_⟩;apply zav [G v] R ?_;trivial;rcases h with⟨r,rfl,q⟩|⟨k,kd,p,q⟩
 .exact⟨_,.int r,by decide,iteT ⟨_,.int r,by decide,q⟩⟩
 .refine⟨_,kd,by decide,?_⟩;cases kd with
  |bl b=>show iteT ⟨_,.bl b,by decide,q⟩
  |int=>show Xa R p
  |_=>show iteF q
abbrev V0:Stmt:=top 24
theorem zml:FnScope ["thing","bound"] ["thing","bound"] (defScope V0):={}
include T in
theorem zs6(d:Dfn K mg "is_below" V0 ["thing","bound"])(a:03 1 "is_whole" ["thing"] zj8):03 2 "is_below" ["thing","bound"] zem:=by
 apply d.cal zml 09 51
 .nofun
 let(v,n,rfl,h):=h;apply⟨_,(zac<|zah (zdg (zag a hr 01 00 55)<|zd1 (zwc op_le zsn zaf (pv 0)<|pv 1))),?_⟩;apply zav [G v,G<|.int n] R ?_;trivial;rcases h with⟨r,rfl,h0,Y,q⟩|⟨⟨r,rfl,L⟩|⟨k,kd,p⟩,q⟩
 .refine⟨_,R,.inl ⟨r,R,_,R,iteT ?_⟩⟩;apply itT h0 ?_;trivial;rw[Xg Y];show q
 .refine⟨_,R,.inl ⟨r,R,_,R,iteT ?_⟩⟩;by_cases h0:0<=r
  .refine itT h0 ?_;trivial;rw[Xf λY=>L ⟨h0,Y⟩];show q
  .exact itF h0 q
 .exact⟨_,R,.inr ⟨k,kd,p,_,R,iteF q⟩⟩
abbrev Qx:Stmt:=top 86
theorem Qv:FnScope ["machine","counts","more","ways"] ["machine","counts"] (defScope Qx):={}
include T in
theorem ok_more(d:Dfn K mg "one_letter_more" Qx ["machine","counts"]):03 1 "one_letter_more" ["machine","counts"] zrf:=by
 apply d.cal Qv 09 51
 .nofun
 let(a,c,m,k,rfl,(b1,c1,rs,O,eb,pr,ec),ok,hc,q):=h;apply⟨_,(zab (zal (i:=2) Qv.nd R 08<|zas zaa)<|zab (zc7 PassesOwn.never R (zb4 K<|zao 39 (pv 0) zaf (λ_ _=>rfl)) (zaq (i:=3) Qv.nd 00 54)<|zac (za8<|zbz K PySem.F.plainAttrs_list PySem.F.slot_list_append PySem.F.type_list_append zbe (pv 2) (pa_c (za4 (zc6 K R) 00 T.b_sum boot_sum<|pa_c (zay ["room"] [(1,"counts")] 83 00 (zb4 K<|pv 3) (λ_ _ _ _ _=>(zaq (i:=0) (show List.Nodup (["room","counts"]:List Str) by decide+kernel) 00 54)) (λ_ _ _ _ _=>zbd) λ_ _ _ _ _=>(zao 72 (pv 1) (pv 0) λ_ _=>rfl)) zaa) zaa))) 084),?_⟩;apply zav [G 07,G<|.ref c,B,B] R ?_;trivial;let hn:(cl m k).length<=100:=by rw[zuw];show ok.few
 let d5:=zbq ok.wid;apply⟨zad 05,λp H1 u=>⟨_,.of<|u.g _ _ O,_,zam (j:=1) R,⟨_,.of<|u.g _ _ eb⟩,?_⟩⟩;apply zt9 (K:=K) (a:=b1) (xs:=rs) (λi σ H'=>Same H H'/\(∃v3,σ=[G 07,G<|.ref c,G 42,v3])/\H' p=G (.lst<|((m.ways.take i).map λline=>(line.map<|cnt m k).sum).map nV)) ⟨u.g,⟨B,R⟩,u.at'⟩ (λi σ H' _ z=>.of<|z.1 _ _ eb) ?_ ?_
 .rintro i y σ H' L ⟨g,⟨v3,rfl⟩,l⟩;let hi:i<m.ways.length:=by rw[←pr.length];show(y0d.mp L).1
  let(v,C,a2,rfl,o):=Paired.at2 pr<|y00 hi;rw[C]at L;cases L;let Y:=ok.line _<|y0b hi;let hrm:=ok.room _<|y0b hi;let hiw:m.ways.length<=100:=by rw[ok.len];show ok.few
  trivial;apply⟨.inl ⟨_,.of l⟩,⟨_,.of<|g _ _ o⟩,zfr (K:=K) (a:=a2) (xs:=m.ways[i].map nV) (λσ=>∃v,σ=[v,G<|.ref c]) (fC m k) (by rw[y01,Y];omega) (.of<|g _ _ o) ⟨_,R⟩ ?_ ?_⟩
  .rintro D3 i3 σ H4 x hi3 M J e D U ⟨v,rfl⟩;let(r,mr,rfl):=y0f.mp M;let at5:((cl m k).map nV)[r]?=G (nV<|cnt m k r):=by rw[y04,zya<|hrm r mr];rfl
   trivial;apply⟨_,.of<|e _ _ (g _ _ hc),_,zam at5,?_⟩;show zb6 (by rw[y01,Y];omega) J D U e ⟨_,R⟩ (fC_n _ _ _).symm
  intro D3 H4 D I cf;let dv:H4 D3=G (.lst<|((m.ways[i].map<|cnt m k).map λ(n:Nat)=>(n:Int)).map V.int):=by
   rw[cf,←zld,y0t,y0t];rw[show(fC m k∘nV)=nV∘cnt m k from funext λr=>fC_n m k r]
  apply⟨_,R,_,.of dv,_,I _ _ l,small1000 (by rw[y01,y01,y12];omega),?_⟩;apply⟨(g.trans I).wr u.nil _,?_⟩;rw[zat,y14,y00 hi,y21,y0y,y0y,zyk];rfl
 .rintro σ H' ⟨g,⟨v3,rfl⟩,l⟩;rw[pr.length,y0n 43,←cl_succ ok]at l;trivial;show q p H' u.nil g l
abbrev Ku:Stmt:=top 87
theorem Vt:FnScope ["machine","length","counts"] ["machine","length"] (defScope Ku):={}
include T in
theorem ok_from(d:Dfn K mg "counts_from" Ku ["machine","length"])(T1:03 1 "one_letter_more" ["machine","counts"] zrf):03 2 "counts_from" ["machine","length"] zri:=by
 apply d.cal Vt 09 51
 .nofun
 let(a,m,L,rfl,rm,ok,y,q):=h;let(b1,c1,rs,ea,u,pr,r):=id rm;apply⟨_,(zab (zal (i:=2) Vt.nd R 08<|zas (pa_c (zay ["end"] [] 83 00 (zb4 K<|zao 39 (pv 0) zaf (λ_ _=>rfl)) (λ_ _ _ _ _=>(zaq (i:=0) (show List.Nodup (["end"]:List Str) by decide+kernel) 00 54)) (λ_ _ _ _ _=>zbd) λ_ _ _ _ _=>(zby zu5 00 T.b_int boot_int 55)) zaa))<|zab (zep PassesOwn.never (zak op_le (za4 (zaz K) 00 T.b_len i8 039) (pv 1) 56)<|zac (za8<|zbz K PySem.F.plainAttrs_list PySem.F.slot_list_append PySem.F.type_list_append zbe (pv 2) (pa_c (zag T1 hr 01 00<|pa_c (pv 0) (pa_c (zao 72 (pv 2) (pe_un zq9 zaf) λ_ _=>rfl) zaa)) zaa))) 084),?_⟩;apply zav [G 07,G<|nV L,B] R ?_;trivial;apply⟨_,.of ea,_,zam (j:=2) R,⟨_,.of r⟩,zfr (K:=K) (a:=c1) (xs:=m.ends.map V.bl) (λσ=>∃v,σ=[v]) (λv=>match v with|.bl b=>nV (if b=N then 1 else 0)|_=>.non) (by rw[y01];let:=ok.few;omega) (.of r) ⟨_,R⟩ ?_ ?_⟩
 .rintro D3 i3 σ H4 x hi3 M J gg D U ⟨v,rfl⟩;let(b,mb,rfl):=y0f.mp M;trivial;show zb6 (by rw[y01];let:=ok.few;omega) J D U gg ⟨_,R⟩ (by cases b<;>rfl)
 intro D3 H4 D I cf;let dv:H4 D3=G (.lst<|(cl m 0).map nV):=by
  rw[cf,cl_zero,y0t,y0t];rfl
 apply⟨zad 05,λp H5 Y=>?_⟩;let f9:H p=B:=I.free Y.nil;apply⟨λmm σ H'=>∃(k:Nat) (xs:List V),mm=L+1-k/\0<k/\k<=L+1/\Same H H'/\σ=[G 07,G<|nV L,G 42]/\H' p=G 99/\i9 (CntL m H') xs (List.range k),⟨L,1,_,R,by omega,by omega,I.trans Y.g,R,Y.at',.cons ⟨D3,R,Y.g _ _ dv⟩ .nil⟩,?_⟩;rintro mm σ H' ⟨k,xs,rfl,k0,k1,g,rfl,l,pp⟩;let kt:xs.length=k:=by rw[pp.length,y18]
 trivial;apply⟨_,.inl<|.of l,?_⟩;by_cases O:k<=L
 .refine itT (by rw[kt];omega) ⟨λa6 ae=>∃o,o<L+1-k/\_,λa6 ae z=>z,?_⟩;obtain⟨j,rfl⟩:∃j,k=j+1:=⟨k-1,by omega⟩;let ax:∀c k,H' c=G (.lst<|(cl m k).map nV)->c≠p:=by
   rintro c k e rfl;rw[l]at e;injection e with e
   injection e with e
   let(v,C,c',rfl,_):=Paired.at2 pp<|y1a (show 0<j+1 by omega);rw[e,y04]at C;let(z,_,hz):=y10.mp C;cases hz
  let(v,C,c,rfl,ecj):=Paired.at2 pp<|y1a (show j<j+1 by omega);obtain⟨ini,v',hiv⟩:∃ini v',xs=ini++[v']:=by
   rcases List.eq_nil_or_concat xs with e|⟨i,x,e⟩
   .rw[e]at kt;cases kt
   .exact⟨i,x,by rw[e,List.concat_eq_append]⟩
  let hv':v'=.ref c:=by
   rw[hiv,y0j,y0u]at kt;let hij:ini.length=j:=by omega
   rw[hiv,←hij,y13 43,y38]at C;injection C
  subst hv';apply⟨.inl ⟨_,.of l⟩,_,.of l,_,by rw[hiv];show zjz _ _,a,c,m,j,R,rm.same g,ok,ecj,λD6 H6 ko g6 e6=>⟨_,g6 _ _ l,small1000 01,L+1-(j+2),by omega,j+2,R,by omega,by omega,(g.trans g6).wr f9 _,R,_,zat,?_⟩⟩;rw[y2x];apply SM.Paired.snoc (L2.Paired.mapP pp λv k h=>?_) ⟨D6,R,?_⟩
  .let(c,e,z):=h;show⟨c,e,by rw[zaj<|ax c k z];show g6 _ _ z⟩
  .rw[zaj λe=>by rw[e,l]at ko;cases ko];show e6
 .rw[Xf<|by rw[kt];omega];let:k=L+1:=by omega
  subst this;show iteF<|q p xs H' f9 g l pp
abbrev Kj:Stmt:=top 88
theorem zgl:FnScope ["length"] ["length"] (defScope Kj):={}
include T in
theorem zs5(d:Dfn K mg "check_length" Kj ["length"])(a:03 2 "is_below" ["thing","bound"] zem):CalE P w K mg base 3 "check_length" ["length"] (zel 066):=by
 apply d.calE zgl 09 λf l A outer s H vs Q E J h Rq=>?_
 .nofun
 let(v,rfl,h):=h;apply⟨_,(zac<|za3 (zce<|zbv (zag a J 01 00<|pa_c (pv 0) (pa_c (zax zom (zbf 00 T.g_LONGEST) zaf) zaa))) (zac<|zbg Rq R 00 T.m_NoNumber T.x_NoNumber F.excBase_ValueError 76) zan),?_⟩;apply zav [G v] R ?_;trivial;rcases h with⟨L,rfl,y,q⟩|⟨i,q⟩
 .exact⟨_,_,R,.inl ⟨L,R,by omega,by change(L:Int)<101;omega,itN q⟩⟩
 .exact⟨_,_,R,.inr ⟨i,itM ⟨zad 05,q⟩⟩⟩
abbrev V9:Stmt:=top 89
theorem zmm:FnScope ["machine","length"] ["machine","length"] (defScope V9):={}
include T in
theorem ok_many(d:Dfn K mg "how_many" V9 ["machine","length"])(u:CalE P w K mg base 3 "check_length" ["length"]<|zel 066)(o:03 2 "counts_from" ["machine","length"] zri):CalE P w K mg base 4 "how_many" ["machine","length"] (zrg 066):=by
 apply d.calE zmm 09 λf l A outer s H vs Q E J h Rq=>?_
 .nofun
 let(a,m,v,rfl,Y,ok,h):=h;apply⟨_,(zab (za8<|za1 Rq u J 01 00 96)<|zac (zah<|zao 72 (zao 72 (zag o J 01 00 046) (pv 1) λ_ _=>rfl) zaf (λ_ _=>rfl))),?_⟩;apply zav [G 07,G v] R ?_;trivial;rcases h with⟨L,rfl,y,q⟩|⟨i,q⟩
 .refine⟨_,R,.inl ⟨L,R,y,a,m,L,R,Y,ok,y,λD xs H' I g j pp=>?_⟩⟩;let(v,C,c,rfl,r):=Paired.at2 pp<|y1a (show L<L+1 by omega);let e:((cl m L).map nV)[0]?=G (nV<|cnt m L 0):=by rw[y04,zya ok.pos];rfl
  show⟨_,.of j,_,zam C,_,.of r,_,zam e,q H' g⟩
 .exact⟨_,R,.inr ⟨i,q⟩⟩
abbrev Qax:Stmt:=top 12
theorem P4:FnScope ["machine","row","rooms","letter"] ["machine","row"] (defScope Qax):={}
include T in
theorem ok_gone(d:Dfn K mg "gone" Qax ["machine","row"]):03 1 "gone" ["machine","row"] (zrh K):=by
 apply d.cal P4 09 51
 .nofun
 let(a,b,m,row,rfl,(b1,c1,rs,O,eb,c,ec),ok,U,C,h300,q):=h;apply⟨_,(zab (zal (i:=2) P4.nd R 08<|zas (pa_c zaf zaa))<|zab (zc7 PassesOwn.never R (za5 K<|pv 1) (zaq (i:=3) P4.nd 00 54)<|zac (za8<|zbz K PySem.F.plainAttrs_list PySem.F.slot_list_append PySem.F.type_list_append zbe (pv 2) (pa_c (zao 39 (zao 39 (zao 39 (pv 0) zaf λ_ _=>rfl) (zao 72 (pv 2) (pe_un zq9 zaf) λ_ _=>rfl) λ_ _=>rfl) (pv 3) λ_ _=>rfl) zaa))) 084),?_⟩;apply zav [G 07,G 53,B,B] R ?_;trivial;apply⟨by decide,λp H1 u=>⟨⟨_,u.g.seq U⟩,?_⟩⟩;apply zed (K:=K) (a:=b) (xs:=row.map nV) (λi σ H'=>Same H H'/\(∃v3,σ=[G 07,G 53,G 42,v3])/\H' p=G (.lst<|(m.path 0<|row.take i).map nV)) ⟨u.g,⟨B,R⟩,u.at'⟩ (λi σ H' _ ⟨g,_⟩=>g.seq U) ?_ ?_
 .rintro i y σ H' L ⟨g,⟨v3,rfl⟩,ep⟩;rw[y04]at L;let(l,el,rfl):=y10.mp L;let Y:=C l<|y0q el;let(I,e):=m.path_last (row.take i) 0;let z:=m.path_len (row.take i) 0;let a7:=ok.run_lt (row.take i) 0 ok.pos λx J=>C x<|List.mem_of_mem_take J;let(line,M,D,e3):=ok.at a7 Y;let(v,ev,r,rfl,o):=Paired.at2 c M;let en:m.path 0 (row.take<|i+1)=I++[m.run 0<|row.take i]++[m.go (m.run 0<|row.take i) l]:=by rw[y14,el,y21,m.path_snoc,e]
  let ep':H' p=G (.lst<|I.map nV++[nV<|m.run 0 (row.take i)]):=by rw[ep,e,y0y];rfl
  let at4:(line.map nV)[l]?=G (nV<|m.go (m.run 0<|row.take i) l):=by rw[y04,D];rfl
  let hln:(I.map nV++[nV<|m.run 0 (row.take i)]).length<=400:=by
   rw[e,y0j,y0u,y12]at z;rw[y0j,y01,y0u];omega
  trivial;apply⟨.inl ⟨_,.of ep'⟩,_,.of<|g _ _ O,_,zam (j:=1) R,_,.of ep',_,zjz _ _,_,.of<|g _ _ eb,_,zam ev,_,.of<|g _ _ o,_,zam at4,_,ep',small1000 01,?_⟩;apply⟨g.wr u.nil _,?_⟩;rw[zat,en,y0y,y0y];rfl
 .rintro σ H' ⟨g,⟨v3,rfl⟩,ep⟩;rw[y01,y0n 43]at ep;trivial;show q p H' u.nil g ep
abbrev P7:Stmt:=top 13
theorem zvt:FnScope ["machine","row"] ["machine","row"] (defScope P7):={}
include T in
theorem zwl(d:Dfn K mg "takes" P7 ["machine","row"])(o:03 1 "gone" ["machine","row"]<|zrh K):03 2 "takes" ["machine","row"] (zn2 K):=by
 apply d.cal zvt 09 51
 .nofun
 let(a,b,m,row,rfl,Y,ok,U,C,i,q):=h;let(v,M,rs,O,u,c,r):=id Y;apply⟨_,(zac<|zah (zao 39 (zao 39 (pv 0) zaf λ_ _=>rfl) (zao 72 (zag o hr 01 00 046) (pe_un zq9 zaf) λ_ _=>rfl) λ_ _=>rfl)),?_⟩;apply zav [G 07,G 53] R ?_;trivial;apply⟨_,.of O,_,zam (j:=2) R,a,b,m,row,R,Y,ok,U,C,i,λD H' I g y=>?_⟩;let(z,e):=m.path_last row 0;let p:H' D=G (.lst<|z.map nV++[nV 041]):=by rw[y,e,y0y];rfl
 let x:=ok.run_lt row 0 ok.pos C;let l:(m.ends.map V.bl)[m.run 0 row]?=G (.bl<|m.fin 041):=by rw[y04,Mc.fin_at x];rfl
 show⟨_,.of p,_,zjz _ _,_,.of<|g _ _ r,_,zam l,q H' g⟩
abbrev Vi:Stmt:=top 91
theorem zkl:FnScope ["thing","tracks"] ["thing","tracks"] (defScope Vi):={}
include T in
theorem zqb(d:Dfn K mg "is_letter" Vi ["thing","tracks"])(a:03 2 "is_below" ["thing","bound"] zem):03 3 "is_letter" ["thing","tracks"] zhp:=by
 apply d.cal zkl 09 51
 .nofun
 let(o,k,rfl,O,q):=h;let e:(1:Int)*2^((k:Nat):Int).toNat=2^k:=by rw[Int.one_mul,y2r]
 apply⟨_,(zac<|zah (zag a hr 01 00<|pa_c (pv 0) (pa_c (zax zol zaf<|pv 1) zaa))),?_⟩;apply zav [G<|oV o,G<|nV k] R ?_;trivial;apply⟨⟨by omega,by omega,by decide⟩,_,_,R,?_⟩;rw[e];cases o with
 |none=>show .inr ⟨.inr ⟨_,.non,by decide⟩,q⟩
 |some r =>
  by_cases h:0<=r/\r<2^k
  .rw[show letO k (G r)=N by change(decide (0<=r)&&decide (r<2^k))=N;rw[Xg h.1,Xg h.2];rfl]at q;show .inl ⟨r,R,h.1,h.2,q⟩
  .rw[show letO k (G r)=Fa from y19.mpr λz=>h<|by simpa[letO]using z]at q;show .inr ⟨.inl ⟨r,R,h⟩,q⟩
abbrev Vo:Stmt:=top 92
theorem zkm:FnScope ["frame","row"] ["frame","row"] (defScope Vo):={}
include T in
theorem zw7(d:Dfn K mg "check_row" Vo ["frame","row"])(y:03 3 "is_letter" ["thing","tracks"] zhp):CalE P w K mg base 4 "check_row" ["frame","row"] (zoc<|cs.getD 2 0):=by
 apply d.calE zkm 09 λf l A outer s H vs Q E L h Rq=>?_
 .nofun
 let(b,Y,tl,os,rfl,u,p,j,z,q,qx):=h;apply⟨_,(zac<|za3 (PW.pt<|zfx (zce<|zbv (za4 zbr 00 T.b_isinstance iq<|pa_c (pv 1) (pa_c (zcf (v:=.ty "list") 00 T.b_list boot_list 00) zaa))) (zeo<|zce (zbv<|za4 (zch K R) 00 T.b_all jM (pa_c (zay ["thing"] [(0,"frame")] 83 00 (za5 K<|pv 1) (λ_ _ _ _ _=>(zaq (i:=0) (show List.Nodup (["thing","frame"]:List Str) by decide+kernel) 00 54)) (λ_ _ _ _ _=>zbd) λ_ _ _ _ _=>(zag y L 01 00<|pa_c (pv 0) (pa_c 104 zaa))) zaa)))) (zac<|zbg Rq R 00 T.m_NoRow T.x_NoRow F.excBase_ValueError 76) zan),?_⟩;apply zav [G 53,G<|.ref Y] R ?_;trivial;apply⟨_,.lst j,by decide,iteF ⟨⟨_,.of j⟩,zgz (K:=K) (a:=Y) (xs:=os.map oV) (λσ=>∃v,σ=[v,G 53]) (λv=>match v with|.int x=>.bl (letO tl.length<|G x)|_=>.bl Fa) (by rw[y01];omega) (.of j) ⟨_,R⟩ ?_ ?_⟩⟩
 .rintro c i σ H3 x hi M J e D U ⟨v,rfl⟩;let(o,I,rfl):=y0f.mp M;trivial;apply⟨_,.inl<|.of (e _ _ u),?_⟩;rw[y01];show⟨o,tl.length,R,p,zb6 (by rw[y01];omega) J D U e ⟨_,R⟩<|by cases o<;>rfl⟩
 intro c H3 D r C;let g:H3 c=G (.lst<|(os.map<|letO tl.length).map V.bl):=by
  rw[C,y0t,y0t];congr 2;apply y1l λo _=>?_;cases o<;>rfl
 trivial;apply⟨_,.of g,?_⟩;let O:(os.map<|letO tl.length).all id=os.all (letO tl.length):=by rw[y23];rfl
 rw[O];cases h:os.all (letO tl.length)with
 |true=>show iteF<|q h H3 r
 |false=>show iteT<|mkT λa n=>qx h a H3 r n
abbrev Ph:Stmt:=top 148
theorem Qab:FnScope ["text","frame","row"] ["text","frame"] (defScope Ph):={}
include T in
theorem zwo(d:Dfn K mg "row_in" Ph ["text","frame"])(v:03 2 "numbers_in" ["text"] zgc)(c:CalE P w K mg base 4 "check_row" ["frame","row"]<|zoc (cs.getD 2 0)):CalE P w K mg base 5 "row_in" ["text","frame"] (zn4<|cs.getD 2 0):=by
 apply d.calE Qab 09 λf l A outer s H vs Q E L h Rq=>?_
 .nofun
 let(z,b,tl,os,rfl,hz,u,p,Y,q,x):=h;apply⟨_,(zab (zal (i:=2) Qab.nd R 08<|zag v L 01 00 55)<|zab (za8<|za1 Rq c L 01 00 (pa_c (pv 1) 039)) 084),?_⟩;apply zav [G 94,G 53,B] R ?_;trivial;let g:=zpg Y;let O:=zq7 z;show⟨z,os,R,hz,Y,λD H1 g1 j=>⟨b,D,tl,os,R,g1 _ _ u,p,j,by omega,λh H2 g2=>q h D H2 037<|g2 _ _ j,λh a H2 g2 n=>x h a H2 037 n⟩⟩
abbrev Vf:Stmt:=top 149
theorem K1:FnScope ["text","numbers","length"] ["text"] (defScope Vf):={}
include T in
theorem zwv(d:Dfn K mg "length_in" Vf ["text"])(v:03 2 "numbers_in" ["text"] zgc)(u:CalE P w K mg base 3 "check_length" ["length"]<|zel 066):CalE P w K mg base 4 "length_in" ["text"] (zn7 066):=by
 apply d.calE K1 09 λf l A outer s H vs Q E L h Rq=>?_
 .nofun
 let(z,os,rfl,hz,Y,q,x):=h;apply⟨_,(zab (zal (i:=1) K1.nd R 08<|zag v L 01 00 55)<|zab (zal (i:=2) K1.nd R 08<|zer (zak zbn 104 zaf 56) (zao 72 (pv 1) zaf λ_ _=>rfl) zkw) (zab (za8<|za1 Rq u L 01 00 039) 084)),?_⟩;apply zav [G 94,B,B] R ?_;trivial;apply⟨z,os,R,hz,Y,λD H1 g1 j=>?_⟩;trivial;apply⟨_,.inl<|.of j,?_⟩;rw[y01];let g:lenO os=B->zel 066 [V.non] H1 (λ_ H2=>Q V.non H2) E:=λh=>⟨.non,R,.inr ⟨.inr ⟨_,.non,by decide⟩,λa n=>x h a H1 g1 n⟩⟩
 match os,Y,q,x,j,g with
 |[],Y,q,x,j,g=>show itF 06<|g R
 |[o],Y,q,x,j,g =>
  apply itT R ⟨_,.of j,_,zbp,?_⟩;cases o with
  |none=>show g R
  |some n =>
   by_cases h:0<=n/\n<101
   .let e:lenO [G n]=G n.toNat:=by change(if(decide (0<=n)&&decide (n<101))=N then G n.toNat else B)=_;rw[Xg h.1,Xg h.2];rfl
    let p:oV (G n)=nV n.toNat:=congrArg V.int 01;apply⟨_,R,.inl ⟨n.toNat,p,by omega,?_⟩⟩;rw[p];show q _ e H1 g1
   .let e:lenO [G n]=B:=by
     change(if(decide (0<=n)&&decide (n<101))=N then G n.toNat else B)=_;rw[Xp λz=>h<|by simpa using z]
    show⟨_,R,.inr ⟨.inl ⟨n,R,h⟩,λa m=>x e a H1 g1 m⟩⟩
 |I::_::r,Y,q,x,j,g=>show itF (by simp only[y0i];omega)<|g (by cases I<;>rfl)
abbrev Te:Stmt:=top 145
theorem Vp:FnScope ["line","parts","words"] ["line"] (defScope Te):={}
include T in
theorem zp7(d:Dfn K mg "parts_of" Te ["line"])(Qa:03 1 "words_between_blanks" ["text"] zdp):CalE P w K mg base 2 "parts_of" ["line"] (zhl<|cs.getD 5 0):=by
 apply d.calE Vp 09 λf l A outer s H vs Q E L h Rq=>?_
 .nofun
 let(z,rfl,hz,x,q):=h;let U:=zfh L 8 01;apply⟨_,(zab (za3 178 (zac<|zbg Rq R 00 T.m_NoLine T.x_NoLine F.excBase_ValueError 76) zan)<|zab (zal (i:=1) Vp.nd R 08<|zbz K PySem.F.plainAttrs_str PySem.F.slot_str_split PySem.F.type_str_split zoo (pv 0) 76) (zab (zal (i:=2) Vp.nd R 08<|zag Qa L 01 00 (pa_c (zao 72 (pv 1) zaf λ_ _=>rfl) zaa))<|zab (za3 (PW.pt<|zfx (zce<|zix (pv 2) (λ_=>rfl)) (zfx (zak (zfo K w) (zao 72 (pv 2) zaf λ_ _=>rfl) (zbf 00 T.g_PARTS)<|by with_unfolding_all rfl)<|zeo (zak op_ne 104 (zao (zy6 K w) (zbf 00 T.g_PARTS) (zao 72 (pv 2) zaf λ_ _=>rfl) λ_ _=>rfl) 56))) (zac<|zbg Rq R 00 T.m_NoLine T.x_NoLine F.excBase_ValueError 76) zan) (zac<|zah (zax zbt (zas 039)<|zck (zf4 K) (pv 1) (zdd zaf) zde)))),?_⟩;apply zav [G 94,B,B] R ?_;trivial;let(J,hd,hdx):=T.f_PARTS.ex;obtain⟨h0,r0,j⟩:∃h0 r0,pts z=h0::r0:=y3q<|zyp z;let O:ws57 z=wB h0:=by unfold ws57;rw[j];rfl
 let hl0:h0.length<=z.length:=zrz (by rw[j];show y0c);apply⟨_,.str z,by decide,iteF ⟨by decide+kernel,by rw[jc];omega,by rw[zyq];let:=zry z;omega,λp H1 u=>?_⟩⟩;rw[zyq,j,y0o]at u;apply⟨_,.of u.at',_,zbp,h0,R,by omega,λW H2 hW c y=>?_⟩;rw[wB_is]at y;let D:=u.g.trans c;let g:bdL z=(match wB h0 with|[]=>N|w::_=>match parts57.lookup w with|none=>N|some k=>decide 090):=by unfold bdL;rw[O];try rfl
 cases e:wB h0 with
 |nil =>
  rw[e]at y g;show⟨Fa,.inl ⟨_,.of y,R⟩,iteT<|mkT λa n=>x g a H2 D n⟩
 |cons wd r =>
  rw[e]at y g;apply⟨N,.inl ⟨_,.of y,R⟩,iteF ?_⟩;trivial;apply⟨_,.of y,_,zbp,wd,R,J,hd,?_⟩;rw[hdx];cases ek:parts57.lookup wd with
  |none =>
   let g:bdL z=N:=by rw[g];change(match parts57.lookup wd with|none=>N|some k=>decide 090)=N;rw[ek]
   show iteT<|mkT λa n=>x g a H2 D n
  |some k =>
   let g:bdL z=decide 090:=by rw[g];change(match parts57.lookup wd with|none=>N|some k=>decide 090)=_;rw[ek]
   let M:((h0::r0).map V.str).length=(pts z).length:=by rw[y01,j]
   apply iteF ⟨_,.inl<|.of (c _ _ u.at'),_,.of y,_,zbp,wd,R,J,hd,.int k,by rw[hdx,ek];rfl,R,?_⟩;rw[show(V.str h0::r0.map V.str).length=(pts z).length from M];by_cases hk:((pts z).length:Int)=k
   .rw[Xf λh=>h hk]at g;rw[Xg<|congrArg V.int hk];apply iteF<|mkT λp3 H3 n3=>⟨_,.of<|(c.trans n3.g) _ _ u.at',λp4 H4 I=>⟨_,I.g _ _ n3.at',_,I.at',?_,λo H5 Y=>?_⟩⟩
    .let:=zpb (V.str h0::r0.map V.str) (G 1) B;let h2:=zry z;rw[j]at h2;rw[y0i,y01]at this;rw[y0i]at h2;show zad (by rw[y0u];omega)
    .let C:=n3.g.trans<|I.g.trans Y.g;apply q g o W H5 (D.trans C) ?_ (by rw[O,e];show C _ _ y);rw[Y.at',show(G (1:Int))=G ((1:Nat):Int)from rfl,zji,j];rfl
   .rw[Xg hk]at g;rw[Xf λh=>hk<|V.int.inj h];show iteT<|mkT λa n=>x g a H2 D n
include T in
theorem zmx(d:Dfn K mg "renamed" Kn ["rooms","numbers"]):03 1 "renamed" ["rooms","numbers"] zgb:=by
 apply d.cal zfa 09 51
 .nofun
 let(a,b,rs,ls,fs,rfl,O,pr,g,u,J,q):=h;let U:=zfh hr 8 06;let hrl:=SS.Paired.len pr;apply⟨_,(zac<|zah (zby za2 00 T.b_tuple iR<|pa_c (zay ["room"] [(1,"numbers")] 83 00 (za5 K<|pv 0) (λ_ _ _ _ _=>(zaq (i:=0) (show List.Nodup (["room","numbers"]:List Str) by decide+kernel) 00 54)) (λ_ _ _ _ _=>zbd) λ_ _ _ _ _=>(zdq U (pv 1) (pv 0) λ_ _=>rfl)) zaa)),?_⟩;apply zav [G 07,G 53] R ?_;trivial;apply⟨⟨_,.of O⟩,znk (n:=ls.length) (λσ=>∃v,σ=[v,G 53]) (λj y H=>y=nV (nOf fs<|ls.getD j [])) 01 ⟨_,R⟩ (λi H' hi e=>⟨_,rs[i]'(01),.of<|e _ _ O,y00 _⟩) (λH' e=>⟨_,.of<|e _ _ O,by omega⟩) ?_ ?_⟩
 .rintro D i ys σ H1 x H1' hi e I Y C L ⟨v,rfl⟩ ⟨rfl,yx⟩;ac_rfl;let ex:=yx _<|.of (e _ _ O);let(l,r,t,rfl,et):=SS.Paired.at pr ex;let M:=e _ _ et;apply zk ?_;rw[←zh7]at M;let z:=DGet.t (e _ _ u) M;rw[ze4 zbs<|J l (y0q r)]at z;trivial;apply⟨_,z,zee (λj y H H' ts z=>z) 01 hi I Y C L (Same.refl _).tups e ⟨_,R⟩ ?_⟩;rw[y02,r];rfl
 intro D ys H1 I g1 eD C L;let p:H1 D=G (.lst<|(ls.map<|nOf fs).map nV):=by
  rw[eD];congr 2;apply y29 λj=>?_;by_cases o:j<ls.length
  .rw[y00 (show j<ys.length by omega),L j _<|y00 (show j<ys.length by omega),y04,y04,y02,y00 o];rfl
  .rw[y0z 01,y0z<|by rw[y01,y01];omega]
 show⟨_,R,_,.inl ⟨.of p,λt H2 c=>q t H2 (g1.trans c.g) c.at'⟩⟩
abbrev V4:Stmt:=top 27
theorem Qq:FnScope ["tracks","first","comings","is_end","numbers","found","ways","coming_here","thing"] ["tracks","first","comings","is_end"] (defScope V4):={}
include T in
theorem zm0{Pt:Ad}(d:Dfn K mg "explored" V4 ["tracks","first","comings","is_end"])(Qs:03 1 "renamed" ["rooms","numbers"] zgb)(Tn:03 5 "reduced" ["machine"]<|zd5 Pt qs_reduced):
  03 6 "explored" ["tracks","first","comings","is_end"] (zgg P w K mg base Pt qs_reduced):=by
 apply d.cal Qq 09 51
 .nofun
 let(a,fc,fe,fdc,fde,Th,Gq,Rq,t0,rfl,tab,ea,efc,efe,clc,cle,hR,hRs,O,hG0,b0,bj,q):=h;let U:=zfh hr 8 06;apply⟨_,(zab (zal (i:=4) Qq.nd R 08<|zky U (pv 1) zaf)<|zab (zal (i:=5) Qq.nd R 08<|zas 96) (zab (zal (i:=6) Qq.nd R 08<|zas zaa)<|zab (zep PassesOwn.never (zak zsn (za4 (zaz K) 00 T.b_len i8<|pa_c (pv 6) zaa) (za4 (zaz K) 00 T.b_len i8<|pa_c (pv 5) zaa) 56)<|zab (zal (i:=7) Qq.nd R 08<|zdf P w K mg base 2 4 1 (ze9 Rq Th Gq) hr 01 (pa_c (zao 72 (pv 5) (za4 (zaz K) 00 T.b_len i8<|pa_c (pv 6) zaa) λ_ _=>rfl) zaa)) (zab (zc7 PassesOwn.never R (za5 K<|pv 7) (zaq (i:=8) Qq.nd 00 54)<|zac (za3 (zak (zcs U) (pv 8) (pv 4)<|by with_unfolding_all rfl) (zab (zeq U (pv 4) (pv 8) (za4 (zaz K) 00 T.b_len i8<|pa_c (pv 5) zaa) R)<|zac (za8<|zbz K PySem.F.plainAttrs_list PySem.F.slot_list_append PySem.F.type_list_append zbe (pv 5) (pa_c (pv 8) zaa))) zan))<|zab (za3 (zak zp0 (za4 (zaz K) 00 T.b_len i8<|pa_c (pv 5) zaa) (zbf 00 T.g_MOST_COME_TO) 56) (zac ziz) zan) (zac<|za8 (zbz K PySem.F.plainAttrs_list PySem.F.slot_list_append PySem.F.type_list_append zbe (pv 6)<|pa_c (zag Qs hr 01 00<|pa_c (pv 7) (pa_c (pv 4) zaa)) zaa)))) (zac<|zah (zag Tn hr 01 00<|pa_c (za0<|pa_c (pv 0) (pa_c (zby za2 00 T.b_tuple iR<|pa_c (pv 6) zaa)<|pa_c (zby za2 00 T.b_tuple iR<|pa_c (zay ["thing"] [(3,"is_end")] 83 00 (za5 K<|pv 5) (λ_ _ _ _ _=>(zaq (i:=0) (show List.Nodup (["thing","is_end"]:List Str) by decide+kernel) 00 54)) (λ_ _ _ _ _=>zbd) λ_ _ _ _ _=>(zdf P w K mg base 1 4 1 (zik Rq Th Gq) hr 01 55)) zaa) zaa)) zaa)))),?_⟩;apply zav [G<|nV Th.w,G 07,G<|.ref fc,G<|.ref fe,B,B,B,B,B] R ?_;trivial
 applyλkd Hk nk=>⟨nk.at',keyL t0,by rw[zh7];show nk.g _ _ ea,mkT λpf H2 c=>⟨by decide,λpw H3 n3=>?_⟩⟩
 generalize eH:upd Hk kd (.dT [(keyL t0,V.int 0)])=Hk2 at c;let gk:Same H Hk2:=by rw[←eH];show nk.g.wr nk.nil _
 let ek:Hk2 kd=G (.dT<|tabF keyL 0 [t0]):=by rw[←eH,zat];rfl
 let r:Same H H3:=gk.trans<|c.g.trans n3.g;let nfk:kd≠pf:=zau ek c.nil;let nwk:kd≠pw:=zau (c.g _ _ ek) n3.nil;let nfw:pf≠pw:=zau c.at' n3.nil;let hkd:H kd=B:=nk.nil;let hpf:H pf=B:=gk.free c.nil;let hpw:H pw=B:=(gk.trans c.g).free n3.nil;let d5:=zbq O;apply⟨λmm σ H'=>∃(k:Nat) (fs:List<|List Nat) (rs rw:List V) (v7 v8:Option V),mm=100-k/\Same H H'/\σ=[G<|nV Th.w,G 07,G<|.ref fc,G<|.ref fe,G<|.ref kd,G<|.ref pf,G<|.ref pw,v7,v8]/\H' kd=G (.dT<|tabF keyL 0 fs)/\H' pf=G (.lst rs)/\i9 (Line H') rs fs/\H' pw=G (.lst rw)/\i9 (Line H') rw ((fs.take k).map λt=>(Th.step t).map<|nOf fs)/\Fnd Th Gq t0 fs k,
  ⟨100,0,[t0],[.ref a],[],B,B,R,r,R,(c.g.trans n3.g) _ _ ek,n3.g _ _ c.at',.cons ⟨a,R,r _ _ ea⟩ .nil,n3.at',.nil,Fnd.start hG0⟩,?_⟩
 rintro mm σ H' ⟨k,fs,rs,rw',v7,v8,rfl,g,rfl,ek',dy,pr,ew',pw',F⟩;let hrl:=SS.Paired.len pr;let d4:=SS.Paired.len pw';rw[y01,y12,y3o F.le]at d4;let Y:=bj fs k F;trivial;apply⟨_,.inl<|.of ew',_,.inl<|.of dy,?_⟩;by_cases a7:k<fs.length
 .refine itT 01 ⟨λa6 J=>∃m',m'<100-k/\_,λa6 J z=>z,?_⟩;ac_rfl;let et:fs[k]?=G fs[k]:=y00 a7;let(v,ev,ta,rfl,eta):=Paired.at2 pr et;let hGt:=F.good _<|y0b a7;apply zk ?_;generalize fs[k]=t at et eta hGt;let(gf,hsG):=b0 t hGt;apply⟨fc,R,fdc,g _ _ efc,_,.inl<|.of ew',_,.of dy,_,by rw[d4];show zam ev,g _ _ efc,clc.mono g.frz,R,ta,t,R,hRs _ _ g hR,eta,hGt,λD d8 H1 I g1 eD cu=>⟨⟨_,.of eD⟩,?_⟩⟩;let nkD:kd≠D:=zau ek' I;let nfD:pf≠D:=zau dy I;let ap:=SS.Paired.len cu;apply zed (K:=K) (a:=D) (xs:=d8) (λj σ J=>Same H J/\TupS H1 J/\(∃v8,σ=[G<|nV Th.w,G 07,G<|.ref fc,G<|.ref fe,G<|.ref kd,G<|.ref pf,G<|.ref pw,G 71,v8])/\J D=G (.lst d8)/\J pw=G (.lst rw')/\∃cw,J kd=G (.dT<|tabF keyL 0 (news fs<|(Th.step t).take j))/\J pf=G (.lst cw)/\i9 (Line J) cw (news fs<|(Th.step t).take j))
   ⟨g.trans g1,TupS.refl _,⟨_,R⟩,eD,g1 _ _ ew',rs,g1 _ _ ek',g1 _ _ dy,L2.Paired.mapP pr λ_ _ z=>z.ts g1.tups⟩ (λj σ J _ z=>.of z.2.2.2.1) ?_ ?_
  .rintro j y σ J L ⟨g2,ts,⟨v8',rfl⟩,bf,fh,cw,M,d7,dw⟩;ac_rfl;let(u,eu,tu,rfl,etu):=SS.Paired.at cu L;let me:=ts _ _ etu;let mh:J tu=G (.tup<|(keyL u).map kV):=by rw[zh7];show me
   let hjl:=SS.Paired.len dw;let be:=zf6 ((Th.step t).take j) fs;apply zk ?_;rw[y12]at be;trivial;apply⟨_,DGet.t M mh,?_⟩;by_cases cr:u∈news fs ((Th.step t).take j)
   .rw[ze4 zbs cr];apply iteF ?_;rw[zh0 eu,zta cr];show⟨g2,ts,bf,fh,M,cw,d7,dw⟩
   .rw[zfz zbs cr];let ef3:∀o,upd J kd o pf=G (.lst cw):=λo=>by rw[zaj<|Ne.symm nfk];show d7
    apply iteT ⟨_,.inl<|.of d7,_,DPut.t M mh (by rw[zdn];show small1000 01),.inl ⟨_,.of<|ef3 _⟩,_,ef3 _,small1000 01,?_⟩;rw[zh0 eu,zm1 cr];generalize news fs ((Th.step t).take j)=ds at cr M dw hjl be;let ep:putK (tabF keyL 0 ds) (keyL u) (V.int (cw.length:Int))=tabF keyL 0 (ds++[u]):=by
     rw[←zig zbs cr,zdn,hjl]
    let fg:TupS J (upd (upd J kd<|.dT (putK (tabF keyL 0 ds) (keyL u)<|V.int (cw.length:Int))) pf<|.lst (cw++[.ref tu])):=(TupS.wrT M _).trans<|TupS.wr (ef3 _) _;apply⟨(g2.wr hkd _).wr hpf _,ts.trans fg,by rw[zaj<|Ne.symm nfD,zaj<|Ne.symm nkD];show bf,by rw[zaj<|Ne.symm nfw,zaj<|Ne.symm nwk];show fh,by rw[zaj nfk,zat,ep],cw++[.ref tu],zat,SM.Paired.snoc (L2.Paired.mapP dw λ_ _ z=>z.ts fg) ⟨tu,R,fg _ _ me⟩⟩
  .rintro σ J ⟨g2,ts,⟨v8',rfl⟩,bf,fh,cw,M,d7,dw⟩;rw[ap,y0n 43]at M dw;let F':=F.next et hsG;let h2:=bj _ _ F';let hjl:=SS.Paired.len dw;trivial;apply⟨_,.inl<|.of d7,?_⟩;apply itF 01 ⟨.inl ⟨_,.of fh⟩,D,kd,d8,Th.step t,news fs<|Th.step t,R,bf,L2.Paired.mapP cu λ_ _ z=>z.ts ts,by omega,M,(λl C=>(zb9 _ _ _).mpr<|.inr C),λp H4 g4 ep=>⟨_,g4 _ _ fh,small1000 01,?_⟩⟩;let tsB:TupS J (upd H4 pw<|.lst (rw'++[.ref p])):=g4.tups.trans<|TupS.wr (g4 _ _ fh) _;apply⟨100-(k+1),by omega,k+1,R,(g2.trans g4).wr hpw _,news fs<|Th.step t,by rw[zaj nwk];show g4 _ _ M,cw,by rw[zaj nfw];show g4 _ _ d7,L2.Paired.mapP dw λ_ _ z=>z.ts tsB,rw'++[.ref p],zat,?_,F'⟩;rw[zq6 F et];show SM.Paired.snoc (L2.Paired.mapP pw' λ_ _ z=>z.ts<|g1.tups.trans (ts.trans tsB)) ⟨p,R,TupS.wr (g4 _ _ fh) _ _ _ ep⟩
 .rw[Xf 01];let hk:k=fs.length:=by have:=F.le;omega
  subst hk;apply iteF ?_;let hF:∀t∈fs,Gq t:=F.good;apply⟨_,.inl ⟨.of ew',λt1 H4 n4=>⟨⟨_,.of<|n4.g _ _ dy⟩,?_⟩⟩⟩;apply znk (n:=fs.length) (λσ=>∃v,σ=[v,G<|.ref fe]) (λj y H=>y=.bl (Th.fin<|fs.getD j [])) 01 ⟨_,R⟩ (λi H5 hi e=>⟨_,rs[i]'(01),.of<|e _ _ (n4.g _ _ dy),y00 _⟩) (λH5 e=>⟨_,.of<|e _ _ (n4.g _ _ dy),by omega⟩) ?_ ?_
  .rintro D i ys σ H5 x H5' hi e I ac C L ⟨v,rfl⟩ ⟨rfl,yx⟩;ac_rfl;let ex:=yx _<|.of (e _ _<|n4.g _ _ dy);let(l,el,tl,rfl,etl):=SS.Paired.at pr ex;let gg':=g.trans<|n4.g.trans e;apply zk ?_;trivial;apply⟨fe,R,fde,gg' _ _ efe,gg' _ _ efe,cle.mono gg'.frz,R,tl,l,R,hRs _ _ gg' hR,(n4.g.trans e) _ _ etl,F.good l<|y0q el,λH6 g6=>zee (λj y H H' ts z=>z) 01 hi I (g6 _ _ ac) C L g6.tups (e.trans g6) ⟨_,R⟩ ?_⟩;rw[y02,el];rfl
  intro D ys H5 I g5 eD C L;let eD':H5 D=G (.lst<|(fs.map Th.fin).map V.bl):=by
   rw[eD];congr 2;apply y29 λj=>?_;by_cases hj:j<fs.length
   .rw[y00 (show j<ys.length by omega),L j _<|y00 (show j<ys.length by omega),y04,y04,y02,y00 hj];rfl
   .rw[y0z 01,y0z<|by rw[y01,y01];omega]
  apply⟨D,R,_,.inl ⟨.of eD',λt2 H6 n6=>mkT λt3 H7 n7=>?_⟩⟩;let gA:=n4.g.trans<|g5.trans (n6.g.trans n7.g);rw[y0n 43]at pw';let rp:RepM H7 t3 (expl Th fs):=⟨t1,t2,rw',n7.at',(g5.trans<|n6.g.trans n7.g) _ _ n4.at',L2.Paired.mapP pw' λ_ _ z=>z.ts gA.tups,n7.g _ _ n6.at'⟩;apply⟨t3,expl Th fs,R,tab.same<|g.trans gA,rp,expl_ok O F 01 λt h=>(b0 t h).1,λp m' H8 g8 r8 Rd=>q p m' H8 (g.trans<|gA.trans g8) r8 Rd.ok Rd.w Rd.canon λrow hr=>?_⟩;rw[←Rd.par row hr,zqs F (λt h=>(b0 t h).1) row hr]
abbrev T8:Stmt:=top 28
theorem Qac:FnScope ["one","other","is_end","comings"] ["one","other","is_end"] (defScope T8):={}
abbrev qs_paired:List (Pos×Str):=[(⟨110,4,111,60⟩,"paired.<locals>.comings"),(⟨112,45,112,100⟩,"paired.<locals>.<lambda>")]
include T in
theorem zp9{c Pp Pt:Ad}(d:DfnC K mg "paired" T8 ["one","other","is_end"] c Pp)(kb:BltK base mg)(Qbx:03 6 "explored" ["tracks","first","comings","is_end"]<|zgg P w K mg base Pt qs_reduced):
  03 7 "paired" ["one","other","is_end"] (zhm P w K mg base Pt qs_reduced Pp qs_paired):=by
 apply d.cal Qac 09 λf A outer s H vs Q E hr h=>?_
 .nofun
 let(a,b,pf,fd,I,m2,op,rfl,tr,tp,df,gi,i,o2,O,bj,ef,cl,q):=h;let(b1,c1,kr,ea,az,cu,bo):=id df;let(b2,c2,rs2,eb,eb2,pr2,ec2):=id gi;apply⟨_,(zab (za3 (zak op_ne (zao 39 (pv 0) zaf λ_ _=>rfl) (zao 39 (pv 1) zaf λ_ _=>rfl) 56) (zac ziz) zan)<|zab (ps_dfn (qs:=qs_paired) "paired.<locals>.comings" (j:=3) R d.code kb 00 00 Qac.nd R R) (zac<|zah (zgm Qbx hr 01 00 (λ_=>rfl)<|pa_c (zao 39 (pv 0) zaf λ_ _=>rfl) (pa_c (za0<|pa_c zaf (pa_c zaf zaa))<|pa_c (pv 3) (pa_c (zr7 (qs:=qs_paired) "paired.<locals>.<lambda>" rfl d.code kb 00 00) zaa))))),?_⟩;apply zav [G 07,G 53,G<|.ref pf,B] R ?_;trivial;apply⟨_,.of ea,_,zbp,_,.of eb,_,zbp,R,?_⟩;rw[show(!decide (nV I.w=nV m2.w))=Fa by rw[O];simp];apply iteF ⟨tp,λf1 H1 M1=>⟨_,.of<|M1.old _ _ ea,_,zbp,mkT λt0 H2 n2=>⟨tp.same<|M1.old.trans n2.g,λf2 H3 M2 Hq ad=>?_⟩⟩⟩;ac_rfl;let r:Same H H3:=M1.old.trans<|n2.g.trans M2.old;let gq:Same H Hq:=r.trans ad.up;let(e8,ef1):=M1.fn;let(fd2,d7):=M2.fn;let clc:CloH P w K mg base 4 Hq f1 1 (ze9 (λH=>RepMK K H a I/\RepMK K H b m2) (pairT I m2 op)<|PairG I m2):=by
  apply M1.clo_s (own:=["pair"]) (ps:=["pair"]) (cap:=["one","other"]) (cv:=[.ref a,.ref b]) (k:=3) (n2.g.trans M2.old) ad ⟨R,R,R,by decide+kernel,R,by decide+kernel,by decide+kernel,by decide+kernel⟩ 43 (.cons ⟨0,R,R,.inl R⟩<|.cons ⟨1,R,R,.inl R⟩ .nil) (λcl ct cd pm=>L2.fit1 λ_=>rfl) ?_;rintro clo c' A' cg s' H' vs Q' hr U fz du C ⟨pa,t,rfl,⟨hR1,hR2⟩,et,⟨x,y,rfl,J,hy⟩,q'⟩;apply⟨_,(zac<|zah (zms R 00 T.b_list 00 T.b_zip<|pa_c (zao 39 (zao 39 (pv 1) zaf λ_ _=>rfl) (zao 39 (pv 0) zaf λ_ _=>rfl) λ_ _=>rfl) (pa_c (zao 39 (zao 39 (pv 2) zaf λ_ _=>rfl) (zao 39 (pv 0) zaf λ_ _=>rfl) λ_ _=>rfl) zaa))),?_⟩;apply zav [G<|.ref pa,G 07,G 53] R ?_;trivial;let(b1',c1',rs1',ea',mi,mn,mp):=hR1.ts<|SameN.tups U.n;let(b2',c2',rs2',fi,mt,bx,mj):=hR2.ts<|SameN.tups U.n;let c9:=U.n _ _ et λ_ _ z=>nomatch z;let(l1,w1,M,u,r1):=zdm i J;let(l2,w2,D,n2',r2):=zdm o2 hy;let(v1,ev1,u1,rfl,eu1):=Paired.at2 mn w1;let(v2,ev2,u2,rfl,eh):=Paired.at2 bx w2;let d5:=zbq i.wid;apply⟨_,.of ea',_,zam (j:=1) R,_,.of c9,_,zbp,_,.of mi,_,zam ev1,_,.of fi,_,zam (j:=1) R,_,.of c9,_,zam (j:=1) R,_,.of mt,_,zam ev2,u1,R,u2,R,_,.of eu1,_,.of eh,by rw[y01,y01,u,n2',O],by rw[y01,u];omega,λL ps H5 hL g5 eL lps PL hn=>q' L (ps.map V.ref) (mixL clo H' H5) (zlp hL eL hn) (zc1 g5) (zh5 hn _ _ eL) ?_⟩;change i9 _ _ (((I.ways.getD x []).zip<|m2.ways.getD y []).map λp=>[p.1,p.2]);rw[M,D];apply zcr (by rw[y01,y01,List.length_zip,lps,y01,u,n2',←O,Nat.min_self]) λj v l ev el=>?_;rw[y04]at ev el;let(p,ep,rfl):=y10.mp ev;let((z1,z2),ez,rfl):=y10.mp el;let(x',y',Y,h2,h3):=PL j p ep;let(hz1,hz2):=y3s.mp ez;rw[y04,hz1]at Y;rw[y04,hz2]at h2;cases Y;cases h2;show⟨p,R,zh5 hn _ _ h3⟩
 let cle:CloH P w K mg base 4 Hq f2 1 (zik (λH=>RepMK K H a I/\RepMK K H b m2) (pairT I m2 op)<|PairG I m2):=by
  apply M2.clo_e (own:=["pair"]) (ps:=["pair"]) (cap:=["is_end","one","other"]) (cv:=[.ref pf,.ref a,.ref b]) (k:=3) (Same.refl _) ad ⟨R,R,R,by decide+kernel,R,by decide+kernel,by decide+kernel,by decide+kernel⟩ 43 (.cons ⟨2,R,R,.inl R⟩<|.cons ⟨0,R,R,.inl R⟩ (.cons ⟨1,R,R,.inl R⟩ .nil)) (λcl ct cd pm=>L2.fit1 λ_=>rfl) ?_;rintro clo c' A' cg s' H' vs Q' hr U fz du C ⟨pa,t,rfl,⟨hR1,hR2⟩,et,⟨x,y,rfl,J,hy⟩,q'⟩;apply⟨_,(zdf P w K mg base 1 2 2 (zin op) hr 01<|pa_c (zao 39 (zao 39 (pv 2) zaf λ_ _=>rfl) (zao 39 (pv 0) zaf λ_ _=>rfl) λ_ _=>rfl) (pa_c (zao 39 (zao 39 (pv 3) zaf λ_ _=>rfl) (zao 39 (pv 0) zaf λ_ _=>rfl) λ_ _=>rfl) zaa)),?_⟩;apply rd_se [G<|.ref pa,G<|.ref pf,G 07,G 53] R ?_;trivial;let(b1',c1',rs1',ea',mi,mn,mp):=hR1.ts<|SameN.tups U.n;let(b2',c2',rs2',fi,mt,bx,mj):=hR2.ts<|SameN.tups U.n;let c9:=U.n _ _ et λ_ _ z=>nomatch z;show⟨pf,R,fd,du _ _ _<|r _ _ ef,_,.of ea',_,zam (j:=2) R,_,.of c9,_,zbp,_,mp.sq,_,zam (by rw[y04,Mc.fin_at J];rfl),_,.of fi,_,zam (j:=2) R,_,.of c9,_,zam (j:=1) R,_,mj.sq,_,zam (by rw[y04,Mc.fin_at hy];rfl),du _ _ _<|r _ _ ef,cl.mono<|r.frz.trans du,R,_,_,R,λhn=>q' _<|zc1 (Same.refl _)⟩
 apply zk ?_;apply⟨t0,f1,f2,e8,fd2,pairT I m2 op,PairG I m2,(λH=>RepMK K H a I/\RepMK K H b m2),[0,0],R,tr.same gq,(M2.old.trans ad.up) _ _ n2.at',((n2.g.trans M2.old).trans ad.up) _ _ ef1,ad.up _ _ d7,clc,cle,⟨df.same gq,gi.same gq⟩,(λH1 H2 g z=>⟨z.1.same g,z.2.same g⟩),i.wid,⟨0,0,R,i.pos,o2.pos⟩,(λt h=>zsj i o2 O h),(λfs k F=>y0v (zwh F) bj),λp o H5 g5 rp ok' ew cn tk=>?_⟩;show q p o _ (r.trans<|ad.same g5) (rp.ts λb xs e=>ad.keep g5 e λ_ _ z=>nomatch z) ok' ew cn λrow hr=>by rw[tk row hr,zoi i o2 O row i.pos o2.pos hr];rfl
abbrev Qb1:Stmt:=top 30
theorem Qdg:FnScope ["one","other"] ["one","other"] (defScope Qb1):={}
abbrev qs_met:List (Pos×Str):=[(⟨116,30,116,68⟩,"met.<locals>.<lambda>")]
include T in
theorem ok_metK{c r l Y:Ad}(d:DfnC K mg "met" Qb1 ["one","other"] c r)(kb:BltK base mg)(Qc2:03 7 "paired" ["one","other","is_end"]<|zhm P w K mg base Y qs_reduced l qs_paired):
  03 8 "met" ["one","other"] (zgd K Y qs_reduced l qs_paired r qs_met λx y=>x&&y):=by
 apply d.cal Qdg 09 λf A outer s H vs Q E L h=>?_
 .nofun
 let(a,b,I,m2,rfl,tr,tp,tm,df,gi,i,o2,O,u,q):=h;apply⟨_,(zac<|zah (zgm Qc2 L 01 00 (λ_=>rfl)<|pa_c (pv 0) (pa_c (pv 1)<|pa_c (zr7 (qs:=qs_met) "met.<locals>.<lambda>" rfl d.code kb 00 00) zaa))),?_⟩;apply zav [G 07,G 53] R ?_;trivial;apply⟨tm,λJ H1 M Hq ad=>?_⟩;let gq:Same H Hq:=M.old.trans ad.up;let(fdl,efl):=M.fn;let cl:CloH P w K mg base 2 Hq J 2 (zin λx y=>x&&y):=by
  apply M.clo_e (own:=["first","second"]) (ps:=["first","second"]) (cap:=[]) (cv:=[]) (k:=1) (Same.refl _) ad ⟨R,R,R,by decide+kernel,R,by decide+kernel,by decide+kernel,by decide+kernel⟩ 43 .nil (λcl ct cd j=>L2.fit2 λ_ _=>rfl) ?_;rintro clo c' A' v s' H' vs Q' L aa D du C ⟨x,y,rfl,q'⟩;apply⟨_,(zdg (pv 0)<|zd1 (pv 1)),?_⟩;apply rd_se [G<|.bl x,G<|.bl y] R ?_;trivial;let hm:mixL clo H' (dropL clo H')=H':=by
   classical
   funext b;unfold mixL dropL;by_cases U:InCl clo b
   .rw[Xq U]
   .rw[Xp U,Xp U]
  rw[hm];cases x with
  |true=>show iteT λ_=>q'
  |false=>show iteF λ_=>q'
 show⟨a,b,J,fdl,I,m2,_,R,tr.same gq,tp.same gq,df.same gq,gi.same gq,i,o2,O,u,ad.up _ _ efl,cl,λp o H5 g rp ok' ew cn tk=>q p o _ (M.old.trans<|ad.same g) (rp.ts λb xs e=>ad.keep g e λ_ _ z=>nomatch z) ok' ew cn tk⟩
abbrev Tm:Stmt:=top 29
theorem zpq:FnScope ["machine"] ["machine"] (defScope Tm):={}
include T in
theorem zqc{Pt:Ad}(d:Dfn K mg "flipped" Tm ["machine"])(Tn:03 5 "reduced" ["machine"]<|zd5 Pt qs_reduced):03 6 "flipped" ["machine"] (ze8 Pt qs_reduced):=by
 apply d.cal zpq 09 51
 .nofun
 let(a,m,rfl,tab,(b1,c1,kr,O,g,cu,L),ok,q):=h;let hf:m.ends.length<=100:=ok.few;apply⟨_,(zac<|zah (zag Tn hr 01 00<|pa_c (za0<|pa_c (zao 39 (pv 0) zaf λ_ _=>rfl) (pa_c (zao 39 (pv 0) zaf λ_ _=>rfl)<|pa_c (zby za2 00 T.b_tuple iR<|pa_c (zay ["end"] [] 83 00 (zb4 K<|zao 39 (pv 0) zaf (λ_ _=>rfl)) (λ_ _ _ _ _=>(zaq (i:=0) (show List.Nodup (["end"]:List Str) by decide+kernel) 00 54)) (λ_ _ _ _ _=>zbd) λ_ _ _ _ _=>(zyv<|pv 0)) zaa) zaa)) zaa)),?_⟩;apply zav [G 07] R ?_;trivial;apply⟨_,.of O,_,zbp,_,.of O,_,zam (j:=1) R,_,.of O,_,zam (j:=2) R,⟨_,.of L⟩,zfr (K:=K) (a:=c1) (xs:=m.ends.map V.bl) (λσ=>∃v,σ=[v]) (λy=>match y with|.bl x=>.bl (!x)|v=>v) (by rw[y01];omega) (.of L) ⟨_,R⟩ ?_ ?_⟩
 .rintro D i σ H' x hi M J e I Y ⟨v,rfl⟩;let(r,u,rfl):=y0f.mp M;trivial;show zb6 (by rw[y01];omega) J I Y e ⟨_,R⟩ R
 intro D H1 I g1 eD;let eD':H1 D=G (.lst<|(m.ends.map λb=>!b).map V.bl):=by rw[eD,y0t,y0t];rfl
 apply⟨_,R,_,.inl ⟨.of eD',λt1 H2 c=>mkT λC H3 U=>?_⟩⟩;let l:=g1.trans<|c.g.trans U.g;let rt:RepM H3 C (turned m):=⟨b1,t1,kr,U.at',l _ _ g,L2.Paired.mapP cu λ_ _ z=>z.ts l.tups,U.g _ _ c.at'⟩;show⟨C,turned m,R,tab.same l,rt,zra ok,λp o H4 g4 rp Rq=>q p o H4 (l.trans g4) rp Rq⟩
abbrev K3:Stmt:=top 77
theorem Qp:FnScope ["frame","machine","track","name"] ["frame"] (defScope K3):={}
include T in
theorem zw0{Pr Pp Pm:Ad}(d:Dfn K mg "fitting_of" K3 ["frame"])(Q5:03 2 "is_place" ["thing"]<|zii SMALL)(Vz:03 2 "spread" ["machine","tracks","width"]<|ze5 K)(Pi:03 8 "met" ["one","other"]<|zgd K Pr qs_reduced Pp qs_paired Pm qs_met λx y=>x&&y):03 9 "fitting_of" ["frame"] 155:=by
 apply d.cal Qp 09 51
 .nofun
 let(a,names,rfl,r,tp,tm,ea,fo,q):=h;let p:=fo.1;apply⟨_,(zab (zal (i:=1) Qp.nd R 08<|zag Vz hr 01 00 (pa_c (zbf 00 T.g_ANY_ROW)<|pa_c (zas zaa) (pa_c 086 zaa)))<|zab (zc7 PassesOwn.never R (zi1 K 00 T.b_enumerate 55) (zeb K (n:=2) R<|zbj (zaq (i:=2) Qp.nd 00 54) (zbj (zaq (i:=3) Qp.nd 00 54) zea))<|zac (za3 (zbv<|zag Q5 hr 01 00 045) (zac<|zal (i:=1) Qp.nd R 08 (zag Pi hr 01 00<|pa_c (pv 1) (pa_c (zag Vz hr 01 00<|pa_c (zbf 00 T.g_JUST_ONCE) (pa_c (zas 039)<|pa_c 086 zaa)) zaa))) zan)) (zac<|zah (pv 1))),?_⟩;apply zav [G 07,B,B,B] R ?_;trivial;let bl:=zjx names;let h01:∀l:Nat,l<2^names.length->(λ_:Nat=>0) l<2^anyM.w:=λl _=>(by decide:(0:Nat)<2^anyM.w);apply mkT λp0 U o=>⟨_,.inl<|.of (o.g _ _ ea),?_⟩;rw[y01];apply⟨ca,p0,anyM,[],names.length,λ_=>0,R,T.c_ANY_ROW,zvd,o.at',by decide,(λt h=>nomatch h),p,(λl C=>⟨R,h01 l C⟩),λpm0 H1 g1 r1=>⟨⟨_,.of<|(o.g.trans g1) _ _ ea⟩,?_⟩⟩;let M:=(o.g.trans g1) _ _ ea;let ok0:(sprd anyM (λ_=>0) names.length).Ok:=zmb zvd p h01;apply fb_enum (K:=K) (a:=a) (xs:=names.map V.str) (λi σ H'=>Same H1 H'/\∃(j:Ad) (m:Mc) (v2 v3:Option V),σ=[G 07,G<|.ref j,v2,v3]/\RepMK K H' j m/\m.Ok/\Canon m/\m.w=names.length/\∀row,m.Row row->m.fin 041=fitP (psOf<|sofar (bsOf names) i) row)
  ⟨Same.refl _,pm0,_,B,B,R,r1,ok0,zhb ok0 R,R,λrow hr=>?_⟩ (λi σ H' _ z=>.of<|z.1 _ _ M) ?_ ?_
 .rw[zt0,zf0 (W:=names.length) zvd h01 row 0 06 hr,zvc _ λl C=>(y0f.mp C).elim λx J=>J.2.symm];rfl
 .rintro i y σ H' pt H4 L ⟨g,j,m,v2,v3,rfl,Y,ok,cn,O,tk⟩ I;rw[y04]at L;let(z,ez,rfl):=y10.mp L;let hi:=(y0d.mp ez).1;let bz:=bsOf_at ez;trivial;apply⟨_,.of I.at',R,_,_,R,_,_,R,R,.str z,_,R,.str z,(λz' ez'=>by injection ez' with ez';subst ez';show zxc<|fo.2 z (y0q ez)),λH5 g5=>?_⟩;let c:Same H' H5:=I.g.trans g5;let hv:isNm 94 SMALL=isP z:=rfl;rw[hv];cases hP:isP z with
  |false =>
   rw[hP]at bz;apply itO ⟨g.trans c,m,Y.same c,ok,cn,O,λrow hr=>?_⟩;rw[ztz (by rw[bl];show hi) bz];show tk row hr
  |true =>
   rw[hP]at bz;let n17:=zty (bs:=sofar (bsOf names) i) (by rw[zdb,bl];show p) cn tk;apply itB<|mkT λp6 H6 D=>⟨_,.inl<|.of ((g.trans<|c.trans D.g) _ _ M),?_⟩;rw[y01];let u:∀l:Nat,l<2^names.length->loI (l:Int) [i] 0=(bitN i l:Int)/\bitN i l<2^justM.w:=λl C=>⟨bit_lo i 01 l (by have:=zbq p;omega),y3b _ 06⟩;apply⟨cj,p6,justM,[i],names.length,bitN i,R,T.c_JUST_ONCE,znb,D.at',by simp,(λt h=>by rw[y0e.mp h];omega),p,u,λp7 H7 e r7=>?_⟩;let g07:Same H H7:=o.g.trans<|g1.trans (g.trans<|c.trans (D.g.trans e));let ok7:(sprd justM (bitN i) names.length).Ok:=zmb znb p λl C=>(u l C).2;apply⟨j,p7,m,_,R,r.same g07,tp.same g07,tm.same g07,Y.same<|c.trans (D.g.trans e),r7,ok,ok7,O,?_,λp8 m8 H8 g8 r8 ok8 w8 cn8 tk8=>?_⟩
   .let:(sprd justM (bitN i) names.length).n=3:=rfl;rw[this];omega
   .refine⟨g.trans<|c.trans (D.g.trans<|e.trans g8),p8,R,m8,r8.k,ok8,cn8,w8.trans O,λrow hr=>?_⟩;let v:m.Row row:=λl C=>by rw[←w8];show hr l C
    rw[tk8 row v,tk row v,zt2 (by rw[bl];show hi) bz,zf0 znb (λl C=>(u l C).2) row 0 06 λl C=>by rw[←O];show v l C];change(_&&justM.fin _)=_;rw[zql]
 .rintro σ H' ⟨g,j,m,v2,v3,rfl,Y,ok,cn,O,tk⟩;trivial;apply q j m H' (o.g.trans<|g1.trans g) Y ⟨ok,cn,O,λrow hr=>?_⟩;rw[tk row hr,y01,←bl,zrk]
abbrev Tt:Stmt:=top 79
theorem zpn:FnScope ["word"] ["word"] (defScope Tt):={}
include T in
theorem ok_rule(d:Dfn K mg "rule_of" Tt ["word"]):03 1 "rule_of" ["word"] (zre K):=by
 apply d.cal zpn 09 51
 .nofun
 let(wd,rfl,q):=h;apply⟨_,(zab (za3 (zak zbn (pv 0) zae 56) (zac<|zah (zbf 00 T.g_COMES_AHEAD)) zan)<|zab (za3 (zak zbn (pv 0) zae 56) (zac<|zah (zbf 00 T.g_COMES_NEXT)) zan) (zac<|zah (zbf 00 T.g_EACH_IN))),?_⟩;apply zav [G<|.str wd] R ?_;trivial;unfold ruleM at q;by_cases Y:wd="ahead"
 .rw[Xq Y]at q;show itT Y<|q _ T.c_COMES_AHEAD
 rw[Xp Y]at q;apply itF Y ?_;by_cases h2:wd="next"
 .rw[Xq h2]at q;show itT h2<|q _ T.c_COMES_NEXT
 rw[Xp h2]at q;show itF h2<|q _ T.c_EACH_IN
abbrev Tq:Stmt:=top 80
theorem Pu:FnScope ["saying","frame","tracks"] ["saying","frame"] (defScope Tq):={}
include T in
theorem zw8{Pr Pp Pm:Ad}(d:Dfn K mg "bare_of" Tq ["saying","frame"])(Qct:03 1 "rule_of" ["word"]<|zre K)(Vz:03 2 "spread" ["machine","tracks","width"]<|ze5 K)(K8:03 9 "fitting_of" ["frame"] 155)(Pi:03 8 "met" ["one","other"]<|zgd K Pr qs_reduced Pp qs_paired Pm qs_met λx y=>x&&y):
  03 10 "bare_of" ["saying","frame"] (zod K Pr qs_reduced Pp qs_paired Pm qs_met):=by
 apply d.cal Pu 09 51
 .nofun
 let(v,b,tl,wd,n,m,rfl,r,tp,tm,rp,u,j,hn,M,hwd,q):=h;let U:=zfh hr 8 06;apply⟨_,(zab (ziy (i:=2) Pu.nd R 08 ["name"] [(1,"frame")] 83 00 (zb4 K<|zck (zmf K) (pv 0) (zdd zaf) zde) (λ_ _ _ _ _=>(zaq (i:=0) (show List.Nodup (["name","frame"]:List Str) by decide+kernel) 00 54)) (λ_ _ _ _ _=>zbd) λ_ _ _ _ _=>(zbz K PySem.F.plainAttrs_list PySem.F.slot_list_index PySem.F.type_list_index (zqh K U) (pv 1) 55))<|zac (zah<|zag Pi hr 01 00 (pa_c (zag Vz hr 01 00<|pa_c (zag Qct hr 01 00<|pa_c (zao 39 (pv 0) zaf λ_ _=>rfl) zaa) (pa_c (pv 2)<|pa_c 104 zaa))<|pa_c (zag K8 hr 01 00 96) zaa))),?_⟩;apply zav [G v,G 53,B] R ?_;trivial;cases rp with
 |bare O e =>
 rename_i a;apply⟨_,.of e,zgk (by simp),λp3 H3 n3=>⟨⟨_,.of n3.at'⟩,?_⟩⟩;let ec:cutL [V.str wd,V.str n,V.str m] (G 1) B=[n,m].map V.str:=by
  rw[show((1:Int))=((1:Nat):Int)from rfl,ze0];rfl
 rw[ec]at n3;let fo:=j.ok;let hz4:=j.four;let hl3:tl.length<=4:=fo.1;let hi:=y1e.mpr hn;let o:=y1e.mpr M;apply zfr (K:=K) (a:=p3) (xs:=[n,m].map V.str) (λσ=>∃v,σ=[v,G 53]) (λv=>match v with|.str z=>nV (tl.idxOf z)|_=>.non) 05 (.of n3.at') ⟨_,R⟩ ?_ ?_
 .rintro D3 i σ H4 x hx0 hmm J gg b9 bd ⟨v,rfl⟩;let(z,mz,rfl):=y0f.mp hmm;let hz:z∈tl:=by
   simp only[y09,y0l,or_false]at mz;rcases mz with rfl|rfl
   .exact hn
   .exact M
  trivial;show⟨.inl ⟨_,.of<|(n3.g.trans gg) _ _ u⟩,_,.of<|(n3.g.trans gg) _ _ u,hz,by omega,zb6 05 J b9 bd gg ⟨_,R⟩ R⟩
 intro D H4 I g4 eD;let L:=n3.g.trans g4;let p:H4 D=G (.lst<|([tl.idxOf n,tl.idxOf m]:List Nat).map nV):=eD;let h16:∀l:Nat,l<2^tl.length->l<16:=λl C=>by
  let:2^tl.length<=2^4:=Nat.pow_le_pow_right 06 hl3;omega
 let(rok,rw2,rn):=zvv wd;let gf:∀l:Nat,l<2^tl.length->seen2 (tl.idxOf n) (tl.idxOf m) l<2^(ruleM wd).w:=λl _=>by rw[rw2];show zvr _ _ _
 apply ixm (.of<|L _ _ e) zbp ⟨wd,R,λp0 CM=>⟨_,.inl<|.of (L _ _ u),p0,D,ruleM wd,[tl.idxOf n,tl.idxOf m],tl.length,seen2 (tl.idxOf n)<|tl.idxOf m,by rw[y01],CM,rok,p,by simp,(λt j=>by simp only[y09,y0l,or_false]at j;rcases j with rfl|rfl<;>omega),by omega,(λl C=>⟨zvs 01 01<|h16 l C,gf l C⟩),λp5 H5 g Y=>?_⟩⟩;let c:=L.trans g;apply⟨b,tl,R,r.same c,tp.same c,tm.same c,c _ _ u,fo,λp6 mF H6 g6 rF FF=>?_⟩;let g06:=c.trans g6;let ku:=zty (by rw[zjx];omega) FF.canon FF.takes;apply⟨p5,p6,_,mF,R,r.same g06,tp.same g06,tm.same g06,Y.same g6,rF,zmb rok 01 gf,FF.ok,FF.w.symm,?_,λp7 m' H7 g7 r7 ok7 w7 can fin7=>q p7 m' H7 (g06.trans g7) r7 ⟨ok7,can,w7,λrow hr=>?_⟩⟩
 .change(ruleM wd).n*mF.n<=100;show y0v (y3e rn ku) 06
 .let gl:(sprd (ruleM wd) (seen2 (tl.idxOf n)<|tl.idxOf m) tl.length).Row row:=λl C=>by have:=hr l C;rw[w7]at this;show this
  rw[fin7 row gl,zvl,zf0 rok gf row 0 rok.pos gl,zvu,FF.takes row λl C=>by rw[FF.w];show gl l C]
abbrev P8:Stmt:=top 38
theorem Qa8:FnScope ["bare_of","fitting_of","met","joined","flipped","dropped","machine_of"] ["bare_of","fitting_of","met","joined","flipped","dropped"] (defScope P8):={}
abbrev qs_maker:List (Pos×Str):=[(⟨144,4,156,37⟩,"maker.<locals>.machine_of")]
abbrev SPN(c l r:Ad)(n:Nat):Sp:=sp_mofN c qs_reduced l qs_paired r qs_met n
include T in
theorem zs1{c Pk Pr Pp Pm fb ff fm J:Ad}(d:DfnC K mg "maker" P8 ["bare_of","fitting_of","met","joined","flipped","dropped"] c Pk)(kb:BltK base mg)(Qc9:CalF P w K mg base 10 fb ["saying","frame"]<|zod K Pr qs_reduced Pp qs_paired Pm qs_met)(Qdc:CalF P w K mg base 9 ff ["frame"] 155)(Qdh:CalF P w K mg base 8 fm ["one","other"]<|zgd K Pr qs_reduced Pp qs_paired Pm qs_met λx y=>x&&y)(Qc5:CalF P w K mg base 6 J ["machine"]<|ze8 Pr qs_reduced):
  03 1 "maker" ["bare_of","fitting_of","met","joined","flipped","dropped"] (zkf P w K mg base fb ff fm J Pk qs_maker<|SPN Pr Pp Pm):=by
 apply d.calR Qa8 09 R (j:=6) R (.inr 027) 06 06 λf A outer s H vs Q E L h=>?_
 .nofun
 let(v4,v6,rfl,tk,q):=h;apply⟨_,ps_dfnC (qs:=qs_maker) "maker.<locals>.machine_of" (j:=6) R d.code kb 00 00 Qa8.nd R (.inr R) R,tk,λf1 H1 M1=>⟨.ref f1,R,λHq ad=>?_⟩⟩;let(e8,ef1):=M1.fn;let efq:=ad.up _ _ ef1;apply q f1 e8 Hq (M1.old.trans ad.up) efq λn=>?_
 induction n with
 |zero =>
  rintro A outer s H' us vs Q E L e0 fz r C ⟨v,b,tl,s,M,_,_,_,_,_,_,hm,_⟩;show Xa hm (by have:=zth s;omega)
 |succ n ih =>
 apply M1.clo_sE (own:=["saying","frame","word"]) (ps:=["saying","frame"]) (cap:=["met","machine_of","joined","flipped","fitting_of","dropped","bare_of"]) (cv:=[.ref fm,.ref f1,v4,.ref J,.ref ff,v6,.ref fb]) (k:=11+n) (Same.refl _) ad ⟨R,R,R,by decide+kernel,R,by decide+kernel,by decide+kernel,by decide+kernel⟩ 06
  (.cons ⟨2,R,R,.inl R⟩<|.cons ⟨6,R,R,.inl R⟩ (.cons ⟨3,R,R,.inl R⟩<|.cons ⟨4,R,R,.inl R⟩ (.cons ⟨1,R,R,.inl R⟩<|.cons ⟨5,R,R,.inl R⟩ (.cons ⟨0,R,R,.inl R⟩ .nil)))) (λcl ct cd pm=>L2.fit2 λ_ _=>rfl) ?_
 rintro clo c' A' cg s' H' vs Q' E' L e0 U fz du C ⟨v,b,tl,sy,M,rfl,tb,rp,eb,bn,mo,hc,q'⟩ Rq;apply⟨_,(zab (zal (i:=2) (show FnNd ["saying","frame","word","met","machine_of","joined","flipped","fitting_of","dropped","bare_of"] by decide+kernel).nd R 08<|zao 39 (pv 0) zaf (λ_ _=>rfl))<|zab (za3 088 zcq zan) (zab (za3 088 zcq zan)<|zab (za3 088 (zac<|zah (zf5 Qdh L 01 (pa_c (zf5 Qc5 L 01 (pa_c (zpw e0 U Rq (i:=4) (k:=(11+n)) (n:=2) (sp:=(SPN Pr Pp Pm n)) R (by first|show Or.inl rfl|show Or.inr (Or.inl R)|show Or.inr (Or.inr R)) L<|pa_c (zao (zai K) (pv 0) zaf λ_ _=>rfl) 96) zaa) (i:=6))<|pa_c (zf5 Qdc L 01 96 (i:=7)) zaa) (i:=3))) zan) (zab (za3 088 zcq zan)<|zab (za3 088 zcq zan) (zac<|zah (zf5 Qc9 L 01 046 (i:=9)))))),?_⟩;apply zav [G v,G 53,B,G<|.ref fm,G<|.ref f1,G v4,G<|.ref J,G<|.ref ff,G v6,G<|.ref fb] R ?_;trivial;let efd:dropL clo H' f1=G (fnO e8 f1):=du _ _ _ ef1;let self:∀(Gq:Hp),Same (dropL clo H') Gq->(∀b,InCl clo b->Gq b=B)->∀(x:V) (b':Ad) (tl':List Str) (s':Sy) (M':Mc) (Qc:VK) (EE:XK),Rep Gq x s'->Gq b'=G (.lst<|tl'.map V.str)->bnB s'=N->MOr s' tl' M'->mcost s'<=n->(∀p G',Same Gq (dropL clo G')->RepM (dropL clo G') p M'->Qc 42 G')->(Gq f1=G (fnO e8 f1)/\CloHE P w K mg base (11+n) (mixL clo H' Gq) f1 2 (SPN Pr Pp Pm n)/\[x,V.ref b'].length=2/\SPN Pr Pp Pm n [x,.ref b'] (mixL clo H' Gq) Qc EE):=by
  intro Gq g hn x b' tl' s' M' Qc EE rx fi bn' mo' aw qc;apply⟨g _ _ efd,ih.mono<|fz.trans (mix_frz λb o u e=>g _ _ e),R,x,b',tl',s',M',R,tb.same<|zc1 g,rx.same<|zh5 hn,zh5 hn _ _ fi,bn',mo',aw,λp H2 g2 r2=>?_⟩;show qc p _ (zue hn g2)<|r2.ts (SameN.tups (SM.ClOk.same (SM.ClOk.same U<|zc1 g) g2).n)
 let d9:=tb.drop U;let rpd:Rep (dropL clo H') v sy:=SM.Rep.ts rp<|SameN.tups U.n;let ebd:=U.n _ _ eb λ_ _ z=>nomatch z;let fin:∀(p:Ad) (m':Mc) (Gq:Hp),Same (dropL clo H') Gq->RepM Gq p m'->m'=M->(∀b,InCl clo b->Gq b=B)->Q' 42 (mixL clo H' Gq):=λp m' Gq g r e hn=>q' p _ (zc1 g) (by rw[←e];show r.same<|zh5 hn);cases mo with
 |bare hf hn hm O Bq =>
  cases rpd with
  |bare hw' e =>
  rename_i wd nn mm a;let nw:∀z:Str,z∈(["and","or","not","some","all"]:List Str)->¬V.str wd=V.str z:=λz hz e0=>by
   let:=V.str.inj e0;subst this;simp only[SM.rowWords,y09,y0l,or_false]at O hz;rcases O with rfl|rfl|rfl|rfl|rfl<;>revert hz<;>decide
  apply ixm (.of e) zbp ⟨R,?_⟩;apply itF (nw _ 06) ⟨R,?_⟩;apply itF (nw _ 06) ⟨R,?_⟩;apply itF (nw _ 06) ⟨R,?_⟩;apply itF (nw _ 06) ⟨R,?_⟩;apply itF (nw _ 06) ⟨R,.ref a,b,tl,wd,nn,mm,R,d9.r,d9.p,d9.m,.bare hw' e,ebd,hf,hn,hm,O,λp M' H2 g2 r2 B' hno=>fin p M' H2 g2 r2 (zva B' Bq) hno⟩
 |@neg s1 _ M1 _ hf Y o1 w1 few ok can O l =>
  cases rpd with
  |neg e r1 =>
  rename_i a x;let aw:mcost s1+1<=n+1:=hc;apply ixm (.of e) zbp ⟨R,?_⟩;apply itF 06 ⟨R,?_⟩;apply itF 06 ⟨R,?_⟩;apply itT R ⟨R,R,f1,R,e8,efd,ixm (.of e) (zam (j:=1) R) λhn=>self _ (Same.refl _) hn _ _ _ _ _ _ _ r1 ebd bn Y 01 λp1 G1' g1 q1=>?_⟩;generalize dropL clo G1'=G1 at g1 q1 ⊢;apply⟨p1,M1,R,d9.r.same g1,q1,o1,λp2 m2 G2 g2 r2 RD2=>?_⟩;let D:=g1.trans g2;apply⟨R,b,tl,R,d9.r.same D,d9.p.same D,d9.m.same D,D _ _ ebd,hf.ok,λp3 mF G3 g3 r3 FF=>?_⟩;let bc:=D.trans g3;let hl4:tl.length<=4:=hf.ok.1;let ku:=zzb FF.canon FF.takes;let hle:m2.n<=M1.n:=by have:=RD2.le;rw[show(turned M1).n=M1.n from y01 _]at this;show this
  let w2:m2.w=tl.length:=by rw[RD2.w,←w1];rfl
  apply⟨p2,p3,m2,mF,R,d9.r.same bc,d9.p.same bc,d9.m.same bc,(r2.same g3).k,r3,RD2.ok,FF.ok,by rw[w2,FF.w],y0v (y3e hle ku) few,λp m' G4 I r4 ok4 w4 c4 l4 hno=>fin p m' G4 (bc.trans I) r4 ?_ hno⟩;apply zlw (by rw[w4,w2,O]) ok4 ok c4 can λrow L=>?_;let hr2:∀c∈row,c<2^tl.length:=λc hc=>by have:=L c hc;rw[w4,w2]at this;show this
  rw[l4 row λc hc=>by rw[w2];show hr2 c hc,l row λc hc=>by rw[O];show hr2 c hc,FF.takes row λc hc=>by rw[FF.w];show hr2 c hc];let gl:M1.Row row:=λc hc=>by rw[w1];show hr2 c hc
  rw[←RD2.par row gl,zhf,zhg<|o1.run_lt row 0 o1.pos gl]
 |and=>cases bn
 |or=>cases bn
 |some=>cases bn
 |all=>cases bn
abbrev P2:Stmt:=top 81
theorem Qay:FnScope ["saying","frame","machine_of"] ["saying","frame"] (defScope P2):={}
include T in
theorem zqd{Pk Pr Pp Pm fb U x J:Ad}(d:Dfn K mg "built" P2 ["saying","frame"])(Vs:CalE P w K mg base 31 "check_let" ["saying","frame"]<|zmd 038)(y:mg "bare_of"=G (.ref fb))(a:mg "fitting_of"=G (.ref U))(ng:mg "met"=G (.ref x))(z:mg "flipped"=G (.ref J))(Qdb:03 1 "maker" ["bare_of","fitting_of","met","joined","flipped","dropped"]<|zkf P w K mg base fb U x J Pk qs_maker (SPN Pr Pp Pm)):
  CalE P w K mg base 32 "built" ["saying","frame"] 127:=by
 apply d.calE Qay 09 λf cdv A outer s H vs Q E L h Rq=>?_
 .nofun
 let(v,b,tl,sy,M,rfl,Y,tk,e,u,O,q):=h;let(fj,uj,I,o):=T.v_joined;obtain rfl:uj=Va.ref fj:=o;let(fp,up,j,l):=T.v_dropped;obtain rfl:up=Va.ref fp:=l;apply⟨_,(zab (za8<|za1 Rq Vs L 01 00 046)<|zab (zal (i:=2) Qay.nd R 08<|zag Qdb L 01 00 (pa_c (zbf (v:=V.ref _) 00 ⟨_,y,R⟩)<|pa_c (zbf (v:=V.ref _) 00 ⟨_,a,R⟩) (pa_c (zbf (v:=V.ref _) 00 ⟨_,ng,R⟩)<|pa_c (zbf (v:=V.ref _) 00 ⟨_,I,R⟩) (pa_c (zbf (v:=V.ref _) 00 ⟨_,z,R⟩)<|pa_c (zbf (v:=V.ref _) 00 ⟨_,j,R⟩) zaa)))) (zac<|zah (zsb Rq (i:=2) (k:=27) (n:=2) (sp:=(SPN Pr Pp Pm 16)) R (by first|show Or.inl rfl|show Or.inr (Or.inl R)|show Or.inr (Or.inr R)) (L.mono<|by omega)<|pa_c (pv 0) (pa_c (pv 1) zaa)))),?_⟩;apply zav [G v,G<|.ref b,B] R ?_;trivial;apply⟨v,b,tl,sy,R,O.frl u,e,O.good,O.fr,λ_ H1 g1=>⟨_,_,R,tk.same g1,λf1 g H2 c ef cl=>?_⟩,λh=>by rw[O.lt]at h;cases h⟩;let D:=g1.trans c;show⟨f1,R,g,ef,ef,cl 16,R,v,b,tl,sy,M,R,Y.same D,e.same D,D _ _ u,O.bn,O.mo,O.hc,λp H3 r C=>q p H3 (D.trans r) C⟩
abbrev Pe:Stmt:=top 21
theorem Qn:FnScope ["one","other","rows","pairs","at","pair","letter","coming"] ["one","other"] (defScope Pe):={}
include T in
theorem zp8(d:Dfn K mg "parted" Pe ["one","other"]):03 1 "parted" ["one","other"] ze7:=by
 apply d.cal Qn 09 51
 .nofun
 let(a,b,I,m2,rfl,(b1,c1,kr,ea,az,cu,bo),(b2,c2,rs2,eb,eb2,pr2,ec2),o1,o2,O,h900,same,qn):=h;let U:=zfh hr 8 06;let d5:=zbq o1.wid;apply⟨_,(zab (za3 (zak op_ne (zao 39 (pv 0) zaf λ_ _=>rfl) (zao 39 (pv 1) zaf λ_ _=>rfl) 56) (zac ziz) zan)<|zab (zal (i:=2) Qn.nd R 08<|zky U (za0<|pa_c zaf (pa_c zaf zaa)) (zas zaa)) (zab (zal (i:=3) Qn.nd R 08<|zas (pa_c (za0<|pa_c zaf (pa_c zaf zaa)) zaa))<|zab (zal (i:=4) Qn.nd R 08 zaf) (zab (zep PassesOwn.never (zak zsn (pv 4) (za4 (zaz K) 00 T.b_len i8 045) 56)<|zab (zal (i:=5) Qn.nd R 08<|zao 72 (pv 3) (pv 4) (λ_ _=>rfl)) (zab (za3 (zak op_ne (zao 39 (zao 39 (pv 0) zaf λ_ _=>rfl) (zao 39 (pv 5) zaf λ_ _=>rfl) λ_ _=>rfl) (zao 39 (zao 39 (pv 1) zaf λ_ _=>rfl) (zao 39 (pv 5) zaf λ_ _=>rfl) λ_ _=>rfl) 56) (zac<|zah (zdq U (pv 2) (pv 5) λ_ _=>rfl)) zan)<|zab (zc7 PassesOwn.never R (pi_ezK K 00 T.b_enumerate 00 T.b_zip<|pa_c (zao 39 (zao 39 (pv 0) zaf λ_ _=>rfl) (zao 39 (pv 5) zaf λ_ _=>rfl) λ_ _=>rfl) (pa_c (zao 39 (zao 39 (pv 1) zaf λ_ _=>rfl) (zao 39 (pv 5) zaf λ_ _=>rfl) λ_ _=>rfl) zaa)) (zeb K (n:=2) R<|zbj (zaq (i:=6) Qn.nd 00 54) (zbj (zaq (i:=7) Qn.nd 00 54) zea))<|zac (za3 (zak (zcs U) (pv 7) (pv 2)<|by with_unfolding_all rfl) (zab (zeq U (pv 2) (pv 7) (zax zbt (zdq U (pv 2) (pv 5) λ_ _=>rfl)<|zas (pa_c (pv 6) zaa)) R)<|zac (za8<|zbz K PySem.F.plainAttrs_list PySem.F.slot_list_append PySem.F.type_list_append zbe (pv 3) (pa_c (pv 7) zaa))) zan)) (zac<|zyr (i:=4) Qn.nd R 08 zaf zy8)))<|zac (zah zkw)))),?_⟩;apply zav [G 07,G 53,B,B,B,B,B,B] R ?_;trivial;apply⟨_,.of ea,_,zbp,_,.of eb,_,zbp,R,?_⟩;rw[show(!decide (nV I.w=nV m2.w))=Fa by rw[O];simp];apply iteF λkd H1 n1=>mkT λt0 H2 c=>mkT λr0 H3 n3=>⟨n3.g _ _<|c.g _ _ n1.at',([.inl 0,.inl 0]:List Key),n3.g _ _ c.at',mkT λt1 H4 n4=>mkT λp H5 n5=>?_⟩;let hkd:H kd=B:=n1.nil;let h3:Same H H3:=n1.g.trans<|c.g.trans n3.g;let h3u:Same H (upd H3 kd<|.dT [(([.inl 0,.inl 0]:List Key),V.ref r0)]):=h3.wr hkd _;let g5:Same H H5:=h3u.trans<|n4.g.trans n5.g;let f9:H p=B:=(h3u.trans n4.g).free n5.nil;let hr0:H r0=B:=(n1.g.trans c.g).free n3.nil;let nrk:r0≠kd:=Ne.symm<|zau (c.g _ _ n1.at') n3.nil;let er3:upd H3 kd (.dT [(([.inl 0,.inl 0]:List Key),V.ref r0)]) r0=G (.lst []):=by rw[zaj nrk];show n3.at'
 let er4:=n4.g _ _ er3;let nrp:r0≠p:=zau er4 n5.nil;apply⟨λmm σ H'=>∃(ls rws:List<|List Nat) (rs:List V) (kvs:List<|List Key×V) (at':Nat) (v5 v6 v7:Option V),mm=I.n*m2.n-at'/\Same H H'/\σ=[G 07,G 53,G<|.ref kd,G 42,G<|nV at',v5,v6,v7]/\H' p=G (.lst rs)/\i9 (Line H') rs ls/\H' kd=G (.dT kvs)/\RowD H H' p kvs ls rws/\PWk I m2 ls rws/\at'<=ls.length,
  ⟨I.n*m2.n,[[0,0]],[[]],[.ref t1],_,0,B,B,B,R,g5,R,n5.at',.cons ⟨t1,R,n5.g _ _ n4.at'⟩ .nil,n5.g _ _<|n4.g _ _ zat,⟨R,λx J=>?_,λi x u Y h2=>?_⟩,PWk.start o1.pos o2.pos,y17 _⟩,?_⟩
 .rw[zbi λe=>J<|by rw[y0e];show(zbs [0,0] x e).symm];rfl
 .let hi:=zlf Y;simp only[y0u]at hi;let e:i=0:=by omega
  subst e;simp only[y2n,Option.some.injEq]at Y h2;subst Y;subst h2;show⟨r0,zbh R,hr0,nrp,n5.g _ _ er4⟩
 rintro mm σ H' ⟨ls,rws,rs,kvs,at',v5,v6,v7,rfl,g,rfl,ep,pr,ek,rd,pc,ha⟩;let hll:=pc.few;let hrl:=SS.Paired.len pr;trivial;apply⟨_,.inl<|.of ep,?_⟩;by_cases a7:at'<ls.length
 .refine itT (show(at':Int)<(rs.length:Int) by omega) ⟨λa6 ae=>∃o,o<I.n*m2.n-at'/\_,λa6 ae z=>z,?_⟩;ac_rfl;let(x,y,exy,J,L):=pc.rg _<|y0b a7;let eli:ls[at']?=G [x,y]:=by rw[y00 a7,exy]
  let(u,eu):=some_of (xs:=rws) (i:=at') (by rw[pc.len];show a7);let(v,ev,t,rfl,et):=Paired.at2 pr eli;let f1:atI (I.ends.map V.bl) ((x:Nat):Int)=G (.bl<|I.fin x):=zam (by rw[y04,Mc.fin_at J];rfl);let f2:atI (m2.ends.map V.bl) ((y:Nat):Int)=G (.bl<|m2.fin y):=zam (by rw[y04,Mc.fin_at L];rfl);let ty:atI (([x,y]:List Nat).map nV) 1=G (nV y):=zam (j:=1) rfl;apply zk ?_;apply⟨_,.of ep,_,zam ev,_,.of<|g _ _ ea,_,zam (j:=2) R,?_⟩;trivial;apply⟨_,.of et,_,zbp,?_⟩;trivial;apply⟨_,.of<|g _ _ bo,_,f1,_,.of<|g _ _ eb,_,zam (j:=2) R,_,.of et,_,ty,?_⟩;trivial;apply⟨_,.of<|g _ _ ec2,_,f2,⟨R,?_⟩⟩;by_cases hd:I.fin x=m2.fin y
  .rw[show(!decide (V.bl (I.fin x)=V.bl (m2.fin y)))=Fa by rw[hd];simp];ac_rfl;let ao:x<I.ways.length:=by rw[o1.len];show J
   let hw2:y<m2.ways.length:=by rw[o2.len];show L
   let(v,ev1,u1,rfl,e41):=Paired.at2 cu<|y00 ao;let(v',ev2,u2,rfl,e42):=Paired.at2 pr2<|y00 hw2;let bi:=o1.line _<|y0b ao;let bg:=o2.line _<|y0b hw2;apply zk ?_;apply iteF ⟨_,.of<|g _ _ ea,_,zam (j:=1) R,_,.of et,_,zbp,?_⟩;trivial;apply⟨_,.of<|g _ _ az,_,zam ev1,_,.of<|g _ _ eb,_,zam (j:=1) R,_,.of et,_,ty,?_⟩;trivial;apply⟨_,.of<|g _ _ eb2,_,zam ev2,_,R,⟨_,.of<|g _ _ e41⟩,⟨_,.of<|g _ _ e42⟩,?_⟩;apply fb_ez (K:=K) (a:=u1) (b:=u2) (xs:=I.ways[x].map nV) (ys:=m2.ways[y].map nV) (λl σ ae=>Same H ae/\∃(ls rws:List<|List Nat) (rs:List V) (kvs:List<|List Key×V) (v6 v7:Option V),σ=[G 07,G 53,G<|.ref kd,G 42,G<|nV at',G<|.ref t,v6,v7]/\ae p=G (.lst rs)/\i9 (Line ae) rs ls/\ae kd=G (.dT kvs)/\RowD H ae p kvs ls rws/\PWk I m2 ls rws/\ls[at']?=G [x,y]/\rws[at']?=G u/\ae t=G (.tup<|([x,y]:List Nat).map nV))
    (by rw[y01,y01,bi,bg,O]) ⟨g,ls,rws,rs,kvs,_,_,R,ep,pr,ek,rd,pc,eli,eu,et⟩ (λi σ ae _ z=>⟨.of<|z.1 _ _ e41,.of<|z.1 _ _ e42⟩) ?_ ?_
   .rintro l xv yv σ ae q r H6 H7 hxv hyv ⟨g2,ky,fu,d8,ft,v6',v7',rfl,ay,bx,av,gm,dg,cy,eh,et2⟩ n6 n7;let hll2:=dg.few;let md:=SS.Paired.len bx;rw[y04]at hxv hyv;ac_rfl;let(r1,er1,rfl):=y10.mp hxv;let(r2,er2,rfl):=y10.mp hyv;let C:l<2^I.w:=by rw[←bi];show zlf er1
    let ah:l<2^m2.w:=by rw[←O];show C
    let eg1:r1=I.go x l:=by
     let(line,f1,f2,f3):=o1.at J C;rw[y00 ao]at f1;cases f1;rw[er1]at f2;show Option.some.inj f2
    let eg2:r2=m2.go y l:=by
     let(line,f1,f2,f3):=o2.at L ah;rw[y00 hw2]at f1;cases f1;rw[er2]at f2;show Option.some.inj f2
    apply zk ?_;subst eg1 eg2;let g7:Same ae H7:=n6.g.trans n7.g;let eq7:H7 q=G (.tup<|(keyL [I.go x l,m2.go y l]).map kV):=n7.g _ _ n6.at';let et7:H7 t=G (.tup<|(keyL [x,y]).map kV):=by rw[zh7];show g7 _ _ et2
    let gp:=g7 _ _ av;let ep7:=g7 _ _ ay;let rd7:=gm.keep λD xs _ z=>g7 _ _ z;trivial;apply⟨_,.of n7.at',R,_,_,R,_,_,R,R,_,DGet.t gp eq7,?_⟩;by_cases hm:[I.go x l,m2.go y l]∈ky
    .let(v,hv):=gm.inn dg.len hm;rw[hv];show iteF ⟨g2.trans g7,ky,fu,d8,ep7,L2.Paired.mapP bx λ_ _ z=>z.ts g7.tups,_,gp,rd7,dg,cy,eh,g7 _ _ et2⟩
    .rw[gm.out _ hm];ac_rfl;let(D,M,e2,e3,e4):=rd7.at' at' _ u cy eh;let hul:=dg.ln at' u eh;let hal:=zlf cy;apply zk ?_;apply iteT ⟨.ref D,by rw[←M];show DGet.t gp et7,mkT λq8 H8 n8=>⟨_,n8.g _ _ e4,_,n8.at',by rw[y01];show zad (by simp;omega),λq9 H9 n9=>?_⟩⟩;let g9:Same H7 H9:=n8.g.trans n9.g;let ek9:=g9 _ _ gp;let ep9:=g9 _ _ ep7;let nn:p≠kd:=zm4 ep9 ek9 (by intro z;cases z);let np9:q9≠p:=Ne.symm<|zau (n8.g _ _ ep7) n9.nil;let h09:H q9=B:=(g2.trans<|g7.trans n8.g).free n9.nil;let nk9:q9≠kd:=Ne.symm<|zau (n8.g _ _ gp) n9.nil;apply⟨_,DPut.t ek9 (g9 _ _ eq7) (by rw[gm.len];show small1000 01),.inl ⟨_,.of<|by rw[zaj nn];show ep9⟩,_,by rw[zaj nn];show ep9,small1000 01,?_⟩;let ep9':upd H9 kd (.dT<|putK ft (keyL [I.go x l,m2.go y l]) (.ref q9)) p=G (.lst d8):=by rw[zaj nn];show ep9
     let fg:TupS H9 (upd (upd H9 kd<|.dT (putK ft (keyL [I.go x l,m2.go y l])<|.ref q9)) p<|.lst (d8++[.ref q])):=(TupS.wrT ek9 _).trans<|TupS.wr ep9' _;apply⟨((g2.trans<|g7.trans g9).wr hkd _).wr f9 _,ky++[[I.go x l,m2.go y l]],fu++[u++[l]],d8++[.ref q],zat,SM.Paired.snoc (L2.Paired.mapP bx λ_ _ z=>((z.ts g7.tups).ts g9.tups).ts fg) ⟨q,R,fg _ _<|g9 _ _ (n7.g _ _ n6.at')⟩,_,by rw[zaj<|Ne.symm nn,zat],
      (rd7.keep λD xs hp z=>?_).put dg.len hm h09 np9 ?_,dg.new (zlf cy) eh (o1.go_lt J C) (o2.go_lt L ah) hm,zrl cy,zrl eh,fg _ _<|g9 _ _ (g7 _ _ et2)⟩
     .rw[zaj hp,zaj<|zm4 z gp (by intro w;cases w)];show g9 _ _ z
     .rw[zaj np9,zaj nk9,y0y];show n9.at'
   .rintro σ ae ⟨g2,ky,fu,d8,ft,v6',v7',rfl,ay,bx,av,gm,dg,cy,eh,et2⟩;trivial;let db:=zlf cy;let hll2:=dg.few;show⟨_,R,_,R,I.n*m2.n-(at'+1),by omega,ky,fu,d8,ft,at'+1,R,g2,R,ay,bx,av,gm,dg,by omega⟩
  .exact Xa (same x y J L) hd
 .rw[Xf<|show¬(at':Int)<(rs.length:Int) by omega];let e:at'=ls.length:=by omega
  subst e;apply iteF ?_;show qn H' g
abbrev V6:Stmt:=top 84
theorem T5:FnScope ["machine","takes_none"] ["machine"] (defScope V6):={}
include T in
theorem zsv(d:Dfn K mg "shortest" V6 ["machine"])(Qc4:03 1 "parted" ["one","other"] ze7):03 2 "shortest" ["machine"] zkb:=by
 apply d.cal T5 09 51
 .nofun
 let(a,m,rfl,rm,ok,C,q1):=h;let h30:m.n<=100:=ok.few;let(v,c1,kr,O,az,l,bo):=id rm;let o:=zbq ok.wid;let hwid:=ok.wid;let e:(1:Int)*2^((m.w:Nat):Int).toNat=((2^m.w:Nat):Int):=by rw[Int.one_mul,zr2];rfl
 apply⟨_,(zab (zal (i:=1) T5.nd R 08<|za0 (pa_c (zao 39 (pv 0) zaf λ_ _=>rfl)<|pa_c (za0<|pa_c (zax op_repT (za0<|pa_c zaf zaa)<|zax zol zaf (zao 39 (pv 0) zaf λ_ _=>rfl)) zaa) (pa_c (za0<|pa_c zes zaa) zaa)))<|zac (zah<|zag Qc4 hr 01 00 046)),?_⟩;apply zav [G 07,B] R ?_;trivial;let fin:∀(D pb pe j:Ad) (H1:Hp),Same H H1->H1 D=G (.tup<|List.replicate (2^m.w) (V.int 0))->H1 pb=G (.tup [.ref D])->H1 pe=G (.tup [.bl Fa])->H1 j=G (.tup [nV m.w,.ref pb,.ref pe])->ze7 [V.ref a,V.ref j] H1 Q E0:=by
  intro D pb pe j H1 g r z q em;let rn:RepM H1 j (noneM m.w):=⟨pb,pe,[.ref D],em,z,.cons ⟨D,R,by rw[r,List.map_replicate];rfl⟩ .nil,q⟩;show⟨a,j,m,noneM m.w,R,rm.same g,rn,ok,zxb ok.wid,R,(show m.n*1<=900 by omega),(λx y J L=>by rw[C x J,show y=0 by have:y<1:=L;omega];rfl),λH' g'=>q1 H'<|g.trans g'⟩
 apply⟨_,.of O,_,zbp,mkT λp H1 u=>⟨_,.of<|u.g _ _ O,_,zbp,?_⟩⟩;trivial;apply⟨⟨by omega,by omega,by decide⟩,_,u.at',by rw[e];omega,by rw[e];omega,λY=>?_,λh2 D H2 c=>?_⟩
 .let M:2^m.w=1:=by rw[e]at Y;omega
  apply mkT λpb H2 c=>mkT λpe H3 U=>mkT λj H4 I=>fin p pb pe j H4 (u.g.trans<|c.g.trans (U.g.trans I.g)) ?_ ((U.g.trans I.g) _ _ c.at') (I.g _ _ U.at') I.at';rw[(c.g.trans<|U.g.trans I.g) _ _ u.at',M];rfl
 .refine mkT λpb H3 U=>mkT λpe H4 I=>mkT λj H5 n5=>fin D pb pe j H5 (u.g.trans<|c.g.trans (U.g.trans<|I.g.trans n5.g)) ?_ ((I.g.trans n5.g) _ _ U.at') (n5.g _ _ I.at') n5.at';rw[(U.g.trans<|I.g.trans n5.g) _ _ c.at',e];rfl
abbrev Tj:Stmt:=top 78
theorem zpr:FnScope ["frame"] ["frame"] (defScope Tj):={}
include T in
theorem zw1{Pr Pp Pm:Ad}(d:Dfn K mg "fitting" Tj ["frame"])(I:CalE P w K mg base 5 "check_frame" ["frame"]<|zgh 049)(a:03 9 "fitting_of" ["frame"] 155):03 10 "fitting" ["frame"] (zn9 K Pr qs_reduced Pp qs_paired Pm qs_met):=by
 apply d.cal zpr 09 51
 .nofun
 let(b,tl,rfl,Y,u,j,x,q):=h;apply⟨_,(zab (za8<|zse I hr 01 00 55)<|zac (zah<|zag a hr 01 00 55)),?_⟩;apply zav [G 53] R ?_;trivial;apply⟨b,tl,R,⟨u,by have:=x.ok.1;omega,λz hz=>by have:=x.four z hz;omega⟩,λ_ H1 g1=>⟨b,tl,R,Y.r.same g1,Y.p.same g1,Y.m.same g1,g1 _ _ u,x.ok,λp m H2 g2 y c=>q p m H2 037 y c⟩,λh=>by rw[j]at h;cases h⟩
abbrev Tk:Stmt:=top 85
theorem V7:FnScope ["saying","frame","machine","row"] ["saying","frame"] (defScope Tk):={}
include T in
theorem zss{Pk Pr Pp Pm:Ad}(d:Dfn K mg "verdict" Tk ["saying","frame"])(Ky:03 32 "built" ["saying","frame"] 127)(Qcg:03 10 "fitting" ["frame"]<|zn9 K Pr qs_reduced Pp qs_paired Pm qs_met)(Qcm:03 6 "flipped" ["machine"]<|ze8 Pr qs_reduced)(Pi:03 8 "met" ["one","other"]<|zgd K Pr qs_reduced Pp qs_paired Pm qs_met λx y=>x&&y)(Qb3:03 2 "shortest" ["machine"] zkb):
  03 33 "verdict" ["saying","frame"] (zj9 Pr qs_reduced Pp qs_paired Pm qs_met Pk qs_maker):=by
 apply d.cal V7 09 51
 .nofun
 let(v,b,tl,sy,M,rfl,tb,tk,e,u,O,h5,U,q):=h;apply⟨_,(zab (zal (i:=2) V7.nd R 08<|zag Ky hr 01 00 046)<|zab (zal (i:=3) V7.nd R 08<|zag Qb3 hr 01 00 (pa_c (zag Pi hr 01 00<|pa_c (zag Qcg hr 01 00 96) (pa_c (zag Qcm hr 01 00 039) zaa)) zaa)) (zab (za3 (zak op_isN (pv 3) zkw 56) (zac<|zah (za0 76)) zan)<|zac (zah<|za0 (pa_c zae 045)))),?_⟩;apply zav [G v,G 53,B,B] R ?_;trivial;apply⟨v,b,tl,sy,M,R,tb,tk,e,u,O,λp H1 g1 r1=>?_⟩;apply⟨b,tl,R,tb.same g1,g1 _ _ u,O.fr,O.frm,λl mF H2 g2 r2 a=>?_⟩;let tb2:=tb.same 037;apply⟨p,M,R,tb2.r,r1.same g2,O.ok,λp3 m3 H3 r C RD3=>?_⟩;let tb3:=tb2.same r;let hl4:tl.length<=4:=O.frm.ok.1;let ku:mF.n<=17:=y0v (zzb a.canon a.takes) (by
  let Y:(psOf<|bsOf tl).length<=4:=by
   let:=y1n (λk=>(bsOf tl).getD k Fa)<|List.range (bsOf tl).length;rw[y18]at this;show y0v this (by rw[zjx];show hl4)
  let:=Nat.pow_le_pow_right (show 0<2 by decide) Y;omega)
 let z:m3.n<=5:=by have:=RD3.le;rw[show(turned M).n=M.n from y01 _]at this;show y0v this h5
 let w3:m3.w=tl.length:=by rw[RD3.w,←O.w];rfl
 apply⟨l,p3,mF,m3,R,tb3.r,tb3.p,tb3.m,r2.same r,C.k,a.ok,RD3.ok,by rw[w3,a.w],y0v (y3e ku z) 06,λp4 o H4 I r4 ok4 w4 c4 l4=>?_⟩;let L:=g1.trans<|g2.trans (r.trans I);apply⟨p4,o,R,r4,ok4,all_off c4 λrow hr=>?_,λH5 g=>?_⟩
 .let J:∀c∈row,c<2^tl.length:=λc hc=>by have:=hr c hc;rw[w4,a.w]at this;show this
  let hrF:mF.Row row:=λc hc=>by rw[a.w];show J c hc
  let hrM:M.Row row:=λc hc=>by rw[O.w];show J c hc
  rw[l4 row hrF,a.takes row hrF,←RD3.par row hrM,zhf,zhg<|O.ok.run_lt row 0 O.ok.pos hrM];cases j:fitP (psOf<|bsOf tl) row with
  |false=>rfl
  |true=>rw[U row hrM j];rfl
 .change(if decide (V.non=V.non)=N then _ else _);show itT R<|mkT λp5 H6 D=>q p5 H6 (L.trans<|g.trans D.g) D.at'
abbrev K9:Stmt:=top 152
theorem zir:FnScope ["frame","saying","row"] ["frame","saying","row"] (defScope K9):={}
include T in
theorem zst{Pk Pr Pp Pm:Ad}(d:Dfn K mg "said_takes" K9 ["frame","saying","row"])(a:03 32 "built" ["saying","frame"] 127)(g:03 2 "takes" ["machine","row"]<|zn2 K):03 33 "said_takes" ["frame","saying","row"] (zka Pr qs_reduced Pp qs_paired Pm qs_met Pk qs_maker):=by
 apply d.cal zir 09 51
 .nofun
 let(v,b,r,rfl,Y,D,e,u,j,q):=h;apply⟨_,(zac<|zah (zer (zbv<|zag g hr 01 00 (pa_c (zag a hr 01 00<|pa_c (pv 1) 55) 039)) zae zae)),?_⟩;apply zav [G 53,G v,G<|.ref r] R ?_;trivial;let(M,O,c,_):=own_A;apply⟨v,b,_,_,M,R,Y,D,e,u,O,λp H1 g1 r1=>⟨p,r,M,[0,1,0],R,r1,O.ok,.of<|g1 _ _ j,?_,by decide,λH2 g2=>?_⟩⟩
 .rw[O.w];decide
 .rw[c];show itB<|q H2 037
abbrev Kq:Stmt:=top 153
theorem Vv:FnScope ["frame","saying","found"] ["frame","saying"] (defScope Kq):={}
include T in
theorem zp3{g c l r:Ad}(d:Dfn K mg "said_always" Kq ["frame","saying"])(a:03 33 "verdict" ["saying","frame"]<|zj9 c qs_reduced l qs_paired r qs_met g qs_maker):03 34 "said_always" ["frame","saying"] (zhj c qs_reduced l qs_paired r qs_met g qs_maker):=by
 apply d.cal Vv 09 51
 .nofun
 let(v,b,rfl,Y,D,e,u,q):=h;apply⟨_,(zab (zal (i:=2) Vv.nd R 08<|zag a hr 01 00 (pa_c (pv 1) 55))<|zac (zah<|zer (zak op_eq (zao 39 (pv 2) zaf λ_ _=>rfl) zae 56) (zao 39 (pv 2) zaf λ_ _=>rfl) (zbz K PySem.F.plainAttrs_str PySem.F.slot_str_join PySem.F.type_str_join (zxj K) zae<|pa_c (zax zbt (zas 76)<|zay ["letter"] [] 83 00 (za5 K<|zao 39 (pv 2) zaf (λ_ _=>rfl)) (λ_ _ _ _ _=>(zaq (i:=0) (show List.Nodup (["letter"]:List Str) by decide+kernel) 00 54)) (λ_ _ _ _ _=>zbd) (λ_ _ _ _ _=>(zby zcm 00 T.b_str boot_str 55))) zaa))),?_⟩;apply zav [G 53,G v,B] R ?_;trivial;let(M,O,h5,U):=own_B;apply⟨v,b,_,_,M,R,Y,D,e,u,O,h5,U,λt H1 g1 o=>?_⟩;trivial;apply⟨_,.of o,_,zbp,R,itT R ⟨_,.of o,_,zbp,q H1 g1⟩⟩
abbrev Qa3:Stmt:=top 154
theorem Kz:FnScope ["line","parts","ask","frame","saying","length"] ["line"] (defScope Qa3):={}
include T in
theorem zsw{Pk Pr Pp Pm:Ad}(d:Dfn K mg "said" Qa3 ["line"])(Qcb:CalE P w K mg base 2 "parts_of" ["line"]<|zhl (cs.getD 5 0))(Py:CalET P w K mg base 34 "said_of_trees" ["ask","frame","text"]<|zga cs)(Qbb:CalET P w K mg base 32 "saying_in" ["text","frame"]<|zn3 cs)(Qa2:03 33 "said_takes" ["frame","saying","row"]<|zka Pr qs_reduced Pp qs_paired Pm qs_met Pk qs_maker)(Qc0:CalE P w K mg base 5 "row_in" ["text","frame"]<|zn4 (cs.getD 2 0))(Qbo:CalE P w K mg base 4 "length_in" ["text"]<|zn7 066)(Qcf:CalE P w K mg base 4 "how_many" ["machine","length"]<|zrg 066)(Ky:03 32 "built" ["saying","frame"] 127)(Qaf:03 34 "said_always" ["frame","saying"]<|zhj Pr qs_reduced Pp qs_paired Pm qs_met Pk qs_maker):CalET P w K mg base 35 "said" ["line"] 184:=by
 apply d.calET Kz 09 λf cdv A outer s H vs Q E L h Rq=>?_
 .nofun
 let(z,rfl,lb,h):=h;let(hz,d4):=zxl lb;apply⟨_,(zbl (PS.t<|zal (i:=1) Kz.nd R 08 (za1 Rq Qcb L 01 00 55))<|zbl (PS.t<|zal (i:=2) Kz.nd R 08 (zao 72 (zao 72 (pv 1) zaf λ_ _=>rfl) zaf λ_ _=>rfl)) (zbl (PS.t<|zal (i:=3) Kz.nd R 08 (zck (zf4 K) (zao 72 (pv 1) zaf λ_ _=>rfl) (zdd zaf) zde))<|zbl (zys (PT.t<|zak (zk5 K) (pv 2) (zbf 00 T.g_TREE_ASKS) (by with_unfolding_all rfl)) (zmr<|zr1 (zcz Rq Py L 01 00<|PA.t (pa_c (pv 2)<|pa_c (pv 3) (pa_c (zao 72 (pv 1) zaf λ_ _=>rfl) zaa))))<|PSs.t zan) (zbl (zi0 (i:=4) Kz.nd R 08<|zcz Rq Qbb L 01 00 (PA.t<|pa_c (zao 72 (pv 1) zaf λ_ _=>rfl) 045))<|PSs.t (zab (za3 (zak zbn (pv 2) zae 56) (zac<|zah (zag Qa2 L 01 00<|pa_c (pv 3) (pa_c (pv 4)<|pa_c (za1 Rq Qc0 L 01 00<|pa_c (zao 72 (pv 1) zaf λ_ _=>rfl) 045) zaa))) zan)<|zab (za3 (zak zbn (pv 2) zae 56) (zab (zal (i:=5) Kz.nd R 08<|za1 Rq Qbo L 01 00 (pa_c (zao 72 (pv 1) zaf λ_ _=>rfl) zaa))<|zac (zah<|zby zcm 00 T.b_str boot_str (pa_c (za1 Rq Qcf L 01 00<|pa_c (zag Ky L 01 00<|pa_c (pv 4) 045) (pa_c (pv 5) zaa)) zaa))) zan) (zab (za3 (zak zbn (pv 2) zae 56) (zac<|zah (zby zcm 00 T.b_str boot_str<|pa_c (za4 (zaz K) 00 T.b_len i8<|pa_c (zao 39 (zag Ky L 01 00<|pa_c (pv 4) 045) zaf λ_ _=>rfl) zaa) zaa)) zan)<|zac (zah<|zag Qaf L 01 00 (pa_c (pv 3)<|pa_c (pv 4) zaa))))))),?_⟩;apply zav [G 94,B,B,B,B,B] R ?_;trivial;let hb5:bdL z=N->∀a H',Same H H'->H' a=B->E (.ref<|cs.getD 5 0) 97 H':=λU=>by
  rcases h with⟨ci,L,qx⟩|⟨am,y,_⟩
  .unfold rsn at L;rw[U,Xq rfl]at L;cases L;show qx
  .simp[good57,baseG,U]at y
 apply⟨z,R,hz,hb5,λU D W H1 g1 eD eW=>?_⟩;obtain⟨ak,fr,e0⟩:∃ak fr,ws57 z=ak::fr:=by
  cases e:ws57 z with
  |nil=>unfold bdL at U;rw[e]at U;cases U
  |cons a l=>show⟨a,l,R⟩
 let dh:askOf z=ak:=by unfold askOf;rw[e0];rfl
 let u:frOf z=fr:=by unfold frOf;rw[e0];rfl
 rw[e0,y0o]at eW;let(au,hp3):=zvz U;let(hfs,hfl):=zxu hz;rw[u]at hfs hfl;let atp:∀j,j+1<(pts z).length->(V.ref W::(pts z).tail.map V.str)[j+1]?=G (.str<|ptOf z (j+1)):=λj o=>by
  rw[y1h,y04,List.getElem?_tail,(zv0 o).1];rfl
 trivial;apply⟨_,.of eD,_,zbp,?_⟩;trivial;apply⟨_,.of eW,_,zbp,_,.of eD,_,zbp,?_⟩;trivial;apply⟨_,.of eW,λF H2 c=>⟨_,.inr<|T.t_TREE_ASKS H2,R,R,?_⟩⟩;rw[show(G (1:Int))=G ((1:Nat):Int)from rfl,zji]at c;let eF:H2 F=G (.lst<|fr.map V.str):=c.at';let fl:FrL H2 F fr:=⟨eF,hfs,hfl⟩;let fq:=g1.trans c.g;let bf:=c.g _ _ eD;let hq1:(ptOf z 1).length<=900:=y0v (zv0 (i:=1) au).2 hz;rw[in_asks];apply ite2 (λhm=>?_) λhm=>?_
 .let hm:=of_decide_eq_true hm;obtain⟨ci,ar,qx⟩:∃ci,rsn z=G ci/\∀a H',Same H H'->H' a=B->E (.ref<|cs.getD ci 0) (G a) H':=by
   rcases h with h|⟨am,y,_⟩
   .exact h
   .let(_,_,g):=zcl y;rw[dh]at g;rcases g with⟨g,_⟩|⟨g,_⟩|⟨g,_⟩<;>(rw[g]at hm;show Xa hm<|by decide+kernel)
  unfold rsn at ar;rw[U,dh,u,Xp 06,Xq hm]at ar;apply⟨_,.of bf,_,zam (j:=1)<|atp 0 au,ak,ptOf z 1,F,fr,R,hq1,d4,fl,λhf a H3 r n=>?_,λhf hs a H3 r n=>?_,λhf sy hs=>?_⟩
  .rw[hf]at ar;cases ar;show qx a H3 (fq.trans r) n
  .rw[hf,hs]at ar;cases ar;show qx a H3 (fq.trans r) n
  .rw[hf,hs]at ar;let ar:(if(!letB SS.rowWords 3 fr sy)=N then G 3 else B)=G ci:=ar;cases C:letB SS.rowWords 3 fr sy with
   |true=>rw[C]at ar;cases ar
   |false =>
    rw[C]at ar;cases ar;show⟨R,λa H3 r n=>qx a H3 (fq.trans r) n⟩
 .let hm:¬ak∈(["treerooms","treealways"]:List Str):=λz=>hm<|Xg z;let ar:∀{ci:Nat},rsn z=G ci->(if(!frameB (fr.map V.str))=N then G 1 else match readW (wT<|ptOf z 1)with
   |none=>G 0
   |some s=>if(!letB treeWords 4 fr s)=N then G 3
    else if ak="takes" then(match allS (wB<|ptOf z 2)with
     |some os=>if os.all (letO fr.length)=N then B else G 2
     |none=>B)
    else if ak="many" then(match allS (wB<|ptOf z 2)with
     |some [G n]=>if(decide (0<=n)&&decide (n<101))=N then B else G 4
     |some _=>G 4
     |none=>B)
    else B)=G ci:=λ{ci} L=>by
   unfold rsn at L;rw[U,dh,u,Xp 06,Xp hm]at L;show L
  let y:∀{am:Str},good57 z am=N->frameB (fr.map V.str)=N:=λy=>by
   let(_,J,_):=zcl y;rw[u]at J;rw[J];decide+kernel
  apply⟨_,.of bf,_,zam (j:=1)<|atp 0 au,ptOf z 1,F,fr,R,hq1,d4,fl,λhf a H3 r n=>?_,λhf hs a H3 r n=>?_,λhf sy hs C a H3 r n=>?_,λhf sy hs C v H3 r rp=>?_⟩
  .rcases h with⟨ci,L,qx⟩|⟨am,b8,_⟩
   .let L:=ar L;rw[hf]at L;cases L;show qx a H3 (fq.trans r) n
   .rw[y b8]at hf;cases hf
  .rcases h with⟨ci,L,qx⟩|⟨am,b8,_⟩
   .let L:=ar L;rw[hf,hs]at L;cases L;show qx a H3 (fq.trans r) n
   .let(_,_,g):=zcl b8;rcases g with⟨_,g,_⟩|⟨_,g,_⟩|⟨_,g,_⟩<;>(rw[hs]at g;cases g)
  .rcases h with⟨ci,L,qx⟩|⟨am,b8,_⟩
   .let L:=ar L;rw[hf,hs]at L;let L:(if(!letB treeWords 4 fr sy)=N then G 3 else _)=G ci:=L;rw[C]at L;cases L;show qx a H3 (fq.trans r) n
   .let(_,J,g):=zcl b8;rw[u]at J;subst J;rcases g with⟨_,g,_⟩|⟨_,g,_⟩|⟨_,g,_⟩<;>(rw[hs]at g;cases g;show Xa C 52)
  .change(if decide (ak="takes")=N then _ else _);let cz:=fq.trans r;let cf:=r _ _ bf;let fk:=r _ _ eF;let h4:fr.length<=4:=by
    let(a',tl',ea,ee,_,h4):=ztv (H:=H3) (x:=.ref F) (by unfold frB;simp only[fk];show hf);cases ea;rw[fk]at ee;let et:fr=tl':=zei<|HO.lst.inj (Option.some.inj ee);rw[et];show h4
   let bad:∀{ci:Nat},rsn z=G ci->(if ak="takes" then(match allS (wB<|ptOf z 2)with
     |some os=>if os.all (letO fr.length)=N then B else G 2
     |none=>B)
    else if ak="many" then(match allS (wB<|ptOf z 2)with
     |some [G n]=>if(decide (0<=n)&&decide (n<101))=N then B else G 4
     |some _=>G 4
     |none=>B)
    else B)=G ci:=λ{ci} L=>by
    let L:=ar L;rw[hf,hs]at L;let L:(if(!letB treeWords 4 fr sy)=N then G 3 else _)=G ci:=L;rw[C,Xp 06]at L;show L
   apply ite2 (λhk=>?_) λhk=>ite2 (λbu=>?_) λbu=>ite2 (λhk3=>?_) λhk3=>?_
   .let hk:=of_decide_eq_true hk;let h3:=hp3<|.inl (dh.trans hk);let kz:(ptOf z 2).length<=900:=y0v (zv0 (i:=2) 01).2 hz;apply⟨_,.of cf,_,zam (j:=2)<|atp 1 01,?_⟩;rcases h with⟨ci,L,qx⟩|⟨am,b8,tb,tk,q⟩
    .let L:=bad L;rw[Xq hk]at L;cases g:allS (wB<|ptOf z 2)with
     |none=>rw[g]at L;cases L
     |some os =>
      rw[g]at L;let L:(if os.all (letO fr.length)=N then B else G 2)=G ci:=L;cases hal:os.all (letO fr.length)with
      |true=>rw[hal]at L;cases L
      |false =>
       rw[hal]at L;cases L;show⟨ptOf z 2,F,fr,os,R,kz,fk,h4,g,(λh=>by rw[hal]at h;cases h),λ_ a H4 I n=>qx a H4 (cz.trans I) n⟩
    .let(_,J,g):=zcl b8;rw[u]at J;subst J;rw[dh,hk]at g;rcases g with⟨_,h2,h3',rfl⟩|⟨Y,_⟩|⟨Y,_⟩
     .rw[hs]at h2;cases h2;show⟨ptOf z 2,F,_,_,R,kz,fk,h4,h3',λ_ D4 H4 I e4=>⟨v,F,D4,R,tb.same<|cz.trans I,tk.same<|cz.trans I,rp.same I,I _ _ fk,e4,λH5 g5=>q H5<|cz.trans (I.trans g5)⟩,λh=>Xa h 06⟩
     .exact Xa Y 52
     .exact Xa Y 52
   .let hk:¬ak="takes":=λz=>hk<|Xg z;let bu:=of_decide_eq_true bu;let h3:=hp3<|.inr (dh.trans bu);let kz:(ptOf z 2).length<=900:=y0v (zv0 (i:=2) 01).2 hz;apply⟨_,.of cf,_,zam (j:=2)<|atp 1 01,?_⟩;rcases h with⟨ci,L,qx⟩|⟨am,b8,tb,tk,q⟩
    .let L:=bad L;rw[Xp hk,Xq bu]at L;cases g:allS (wB<|ptOf z 2)with
     |none=>rw[g]at L;cases L
     |some os =>
      rw[g]at L;let key:lenO os=B/\ci=4:=by
       match os,L with
       |[],L=>cases L;show⟨R,R⟩
       |[B],L=>cases L;show⟨R,R⟩
       |[G n],L =>
        let L:(if(decide (0<=n)&&decide (n<101))=N then B else G 4)=G ci:=L;change(if(decide (0<=n)&&decide (n<101))=N then G n.toNat else B)=B/\_;split at L
        .cases L
        .rename_i hn;cases L;show⟨Xp hn,R⟩
       |none::_::_,L=>cases L;show⟨R,R⟩
       |some _::_::_,L=>cases L;show⟨R,R⟩
      let(hn,rfl):=key;show⟨ptOf z 2,os,R,kz,g,(λn h=>by rw[hn]at h;cases h),λ_ a H4 I n=>qx a H4 (cz.trans I) n⟩
    .let(_,J,g):=zcl b8;rw[u]at J;subst J;rw[dh,bu]at g;rcases g with⟨Y,_⟩|⟨_,h2,h3',rfl⟩|⟨Y,_⟩
     .exact Xa Y 52
     .rw[hs]at h2;cases h2;let(M,O,_,hcn):=own_A;apply⟨ptOf z 2,_,R,kz,h3',λn hn H4 I=>?_,λh=>Xa h 06⟩;cases(show G 5=G n from hn);apply⟨v,F,_,_,M,R,tb.same<|cz.trans I,tk.same<|cz.trans I,rp.same I,I _ _ fk,O,λp H5 g5 r5=>⟨p,M,_,R,r5,O.ok,.inl ⟨5,R,by decide,λH6 g6=>⟨_,R,?_,?_⟩⟩⟩⟩
      .rw[hcn];decide
      .rw[hcn];show q H6<|cz.trans (I.trans<|g5.trans g6)
     .exact Xa Y 52
   .let hk:¬ak="takes":=λz=>hk<|Xg z;let bu:¬ak="many":=λz=>bu<|Xg z;let hk3:=of_decide_eq_true hk3;rcases h with⟨ci,L,qx⟩|⟨am,b8,tb,tk,q⟩
    .let L:=bad L;rw[Xp hk,Xp bu]at L;cases L
    .let(_,J,g):=zcl b8;rw[dh,hk3]at g;rcases g with⟨Y,_⟩|⟨Y,_⟩|⟨Y,_⟩<;>show Xa Y (by decide+kernel)
   .let hk:¬ak="takes":=λz=>hk<|Xg z;let bu:¬ak="many":=λz=>bu<|Xg z;rcases h with⟨ci,L,qx⟩|⟨am,b8,tb,tk,q⟩
    .let L:=bad L;rw[Xp hk,Xp bu]at L;cases L
    .let(_,J,g):=zcl b8;rw[u]at J;subst J;rw[dh]at g;rcases g with⟨Y,_⟩|⟨Y,_⟩|⟨_,h2,rfl⟩
     .exact Xa Y hk
     .exact Xa Y bu
     .rw[hs]at h2;cases h2;show⟨v,F,R,tb.same cz,tk.same cz,rp,fk,λH4 I=>q H4<|cz.trans I⟩
abbrev Vl:Stmt:=top 156
theorem Qm:FnScope ["_law_line","_law_kinds_here","e"] ["_law_line"] (defScope Vl):={}
include T in
theorem zqa{Pk Pr Pp Pm:Ad}(d:Dfn K mg "_law_kinds" Vl ["_law_line"])(x:CalET P w K mg base 35 "said" ["line"] 184):CalT P w K mg base 36 "_law_kinds" ["_law_line"] zho:=by
 apply d.calT Qm 09 51
 .nofun
 let(z,ci,rfl,lb,g,hc,q):=h;apply⟨_,(zbl (PS.t<|zal (i:=1) Qm.nd R 08 (zas zaa))<|zbl (zr0 x hr 01 00 55 00 T.m_SayError T.k_SayError R R R Qm.nd (j:=2) R R λ_=>(zab (zal (i:=1) Qm.nd R 08<|zas (pa_c (za4 (zq2 K) 00 T.b_isinstance iq<|pa_c (pv 2) (pa_c (zcf (v:=.ty "ValueError") 00 T.b_ValueError 00 00) zaa))<|pa_c (za4 (zbx K) 00 T.b_isinstance iq<|pa_c (pv 2) (pa_c (zbf (v:=V.ref _) 00 ⟨_,T.m_NoLine,R⟩) zaa)) (pa_c (za4 (zbx K) 00 T.b_isinstance iq<|pa_c (pv 2) (pa_c (zbf (v:=V.ref _) 00 ⟨_,T.m_NoFrame,R⟩) zaa))<|pa_c (za4 (zbx K) 00 T.b_isinstance iq<|pa_c (pv 2) (pa_c (zbf (v:=V.ref _) 00 ⟨_,T.m_NoText,R⟩) zaa)) zaa)))<|zab (zal (i:=1) Qm.nd R 08<|zax zbt (pv 1) (zas<|pa_c (za4 (zbx K) 00 T.b_isinstance iq<|pa_c (pv 2) (pa_c (zbf (v:=V.ref _) 00 ⟨_,T.m_NoSaying,R⟩) zaa)) (pa_c (za4 (zbx K) 00 T.b_isinstance iq<|pa_c (pv 2) (pa_c (zbf (v:=V.ref _) 00 ⟨_,T.m_NoRow,R⟩) zaa))<|pa_c (za4 (zbx K) 00 T.b_isinstance iq<|pa_c (pv 2) (pa_c (zbf (v:=V.ref _) 00 ⟨_,T.m_NoNumber,R⟩) zaa)) zaa))) (zac<|zal (i:=1) Qm.nd R 08 (zax zbt (pv 1)<|zas (pa_c (za4 (zbx K) 00 T.b_isinstance iq<|pa_c (pv 2) (pa_c (zbf (v:=V.ref _) 00 ⟨_,T.m_NoTree,R⟩) zaa))<|pa_c (za4 (zbx K) 00 T.b_isinstance iq<|pa_c (pv 2) (pa_c (zbf (v:=V.ref _) 00 ⟨_,T.m_NoWidth,R⟩) zaa)) (pa_c (za4 (zbx K) 00 T.b_isinstance iq<|pa_c (pv 2) (pa_c (zbf (v:=V.ref _) 00 ⟨_,T.m_TooGreat,R⟩) zaa)) zaa)))))) (PSs.t<|zac (zah<|pv 1))),?_⟩;apply zav [G 94,B,B] R ?_;trivial;apply mkT λl U n0=>⟨z,R,lb,.inl ⟨ci,g,λe H2 c he a O=>?_⟩⟩;cases O;let kx:=T.kx ci hc;let u:∀j,j<9->PySem.W.kitOne K (.ref<|cs.getD ci 0) 082=G (decide (j=ci)):=by
  let h6:ci=0\/ci=1\/ci=2\/ci=3\/ci=4\/ci=5:=by omega
  rcases h6 with rfl|rfl|rfl|rfl|rfl|rfl
  .exact T.q0
  .exact T.q1
  .exact T.q2
  .exact T.q3
  .exact T.q4
  .exact T.q5
 apply⟨_,R,T.ms ci hc,λH3 r L=>⟨_,L,kx,_,T.iV ci hc,_,L,kx,_,u 5 06,_,L,kx,_,u 1 06,_,L,kx,_,u 0 06,mkT λp4 H4 I=>?_⟩⟩;let o:=I.g _ _ L;apply⟨_,o,kx,_,u 3 06,_,o,kx,_,u 2 06,_,o,kx,_,u 4 06,mkT λp5 H5 Y=>⟨_,Y.g _ _ I.at',_,Y.at',zad 05,λC H6 D=>?_⟩⟩;let y:=D.g _ _<|Y.g _ _ o;apply⟨_,y,kx,_,u 6 06,_,y,kx,_,u 7 06,_,y,kx,_,u 8 06,mkT λJ H7 n7=>⟨_,n7.g _ _ D.at',_,n7.at',zad 05,λp8 p M=>?_⟩⟩;show⟨⟨_,R⟩,q p8 p (n0.g.trans<|c.trans (r.trans<|I.g.trans (Y.g.trans<|D.g.trans (n7.g.trans M.g)))) M.at'⟩
abbrev Ts:Stmt:=top 157
theorem Pn:FnScope ["_law_name","_law_names"] ["_law_name"] (defScope Ts):={}
include T in
theorem zw3(d:Dfn K mg "_law_due" Ts ["_law_name"]):03 1 "_law_due" ["_law_name"] zob:=by
 apply d.cal Pn 09 51
 .nofun
 let(ci,rfl,hc,q):=h;apply⟨_,(zab (zal (i:=1) Pn.nd R 08<|zas (pa_c zae 105))<|zac (zah<|zax zbt (zas<|pa_c zes zaa) (zay ["_law_other"] [(0,"_law_name")] 83 00 (za5 K<|pv 1) (λ_ _ _ _ _=>(zaq (i:=0) (show List.Nodup (["_law_other","_law_name"]:List Str) by decide+kernel) 00 54)) (λ_ _ _ _ _=>zbd) λ_ _ _ _ _=>(zco zbn (pv 0) (pv 1) 56)))),?_⟩;apply zav [G<|.str (nm57.getD ci ""),B] R ?_;trivial;apply mkT λr H1 u=>mkT λl H2 c=>⟨⟨_,.of<|c.g _ _ u.at'⟩,zgz (K:=K) (a:=r) (xs:=(190).map V.str) (λσ=>∃v,σ=[v,G<|.str (nm57.getD ci "")]) (λx=>match x with|.str y=>.bl (decide (y=nm57.getD ci ""))|_=>.non) 06 (.of<|c.g _ _ u.at') ⟨_,R⟩ ?_ ?_⟩
 .rintro z g σ H4 x p M J e D U ⟨v,rfl⟩;let(y,_,rfl):=y0f.mp M;trivial;show zb6 06 J D U e ⟨_,R⟩ R
 intro z H4 D I C;trivial;apply⟨_,I _ _ c.at',_,C,zad 05,λo H5 Y=>q o H5 (u.g.trans<|c.g.trans (I.trans Y.g)) ?_⟩;let j:∀ci,ci<6->((190).map λy=>decide (y=nm57.getD ci ""))=(flg ci).tail:=by decide+kernel
 rw[Y.at',show flg ci=N::(flg ci).tail from rfl,←j ci hc];rfl
abbrev Kv:Stmt:=top 158
theorem Qf:FnScope ["_law_number","_law_some"] ["_law_number"] (defScope Kv):={}
include T in
theorem zsz(d:Dfn K mg "_law_no_line" Kv ["_law_number"]):03 1 "_law_no_line" ["_law_number"] (zb3 5):=by
 apply d.cal Qf 09 51
 .nofun
 let(n,rfl,q):=h;apply⟨_,(zab (zal (i:=1) Qf.nd R 08<|zas 105)<|zab (zal (i:=1) Qf.nd R 08<|zax zbt (pv 1) (zas<|pa_c zae (pa_c zae 76))) (zab (zal (i:=1) Qf.nd R 08<|zax zbt (pv 1) (zas<|pa_c zae 76))<|zab (zal (i:=1) Qf.nd R 08<|zax zbt (pv 1) (zas<|pa_c zae 068)) (zab (zal (i:=1) Qf.nd R 08<|zax zbt (pv 1) (zas 068))<|zac (zah<|zao 72 (pv 1) 072 (λ_ _=>rfl))))),?_⟩;apply zav [G<|.int n,B] R ?_;trivial;let(y,v,hv):=pickS (L:=noLine) (m:=n) (k:=22) R 06;apply mkT λr H1 u=>mkT λl H2 c=>⟨_,c.g _ _ u.at',_,c.at',zad 05,λz H3 U=>mkT λp4 H4 I=>⟨_,I.g _ _ U.at',_,I.at',zad 05,λo H5 Y=>mkT λC H6 D=>⟨_,D.g _ _ Y.at',_,D.at',zad 05,λJ H7 j=>mkT λa p M=>⟨_,M.g _ _ j.at',_,M.at',zad 05,λe H9 g=>⟨by decide,_,.of g.at',_,hv,?_⟩⟩⟩⟩⟩;show q y H9 (u.g.trans<|c.g.trans (U.g.trans<|I.g.trans (Y.g.trans<|D.g.trans (j.g.trans<|M.g.trans g.g))))<|mn1 v
abbrev Ki:Stmt:=top 159
theorem Qr:FnScope ["_law_number","_law_head","_law_some","_law_saying"] ["_law_number"] (defScope Ki):={}
include T in
theorem zs0(d:Dfn K mg "_law_no_frame" Ki ["_law_number"]):03 1 "_law_no_frame" ["_law_number"] (zb3 1):=by
 apply d.cal Qr 09 51
 .nofun
 let(n,rfl,q):=h;apply⟨_,(zab (zal (i:=1) Qr.nd R 08<|zao 72 (zas 068) 072 (λ_ _=>rfl))<|zab (zal (i:=2) Qr.nd R 08<|zas (pa_c zae<|pa_c zae 105)) (zab (zal (i:=3) Qr.nd R 08<|zao 72 (zas 068) 085 (λ_ _=>rfl))<|zac (zah<|zax zaw (zax zaw (zax zaw (zax zaw (pv 1) zae)<|zao 72 (pv 2) 085 (λ_ _=>rfl)) zae) (pv 3)))),?_⟩;apply zav [G<|.int n,B,B,B] R ?_;trivial;let(g,Y,e):=pickS (L:=heads57) (m:=n) (k:=4) R 06;let(a,h2,o):=pickS (L:=noFr) (m:=n/4) (k:=10) R 06;let(j,h3,J):=pickS (L:=noFrS) (m:=n/40) (k:=4) R 06;let l1:=few57.1 _ Y;let l2:=few57.2.1 _ h2;let p:=few57.2.2.1 _ h3;let(O,C,_):=lit57;let M:=zbo l1 O;let x:=zbo M l2;let c3:=zbo x C;apply mkT λr H1 u=>⟨by decide,_,.of u.at',_,e,mkT λl H2 c=>mkT λz H3 U=>⟨⟨by decide,by decide⟩,by decide,_,.of U.at',_,J,_,R,zad 01,⟨by decide,by decide⟩,by decide,_,.of<|U.g _ _ c.at',_,o,_,R,zad 01,zad 01,_,R,zad 01,?_⟩⟩;show q _ H3 (u.g.trans<|c.g.trans U.g)<|mn2 Y h2 h3
abbrev Kw:Stmt:=top 160
theorem Kg:FnScope ["_law_number","_law_head","_law_some"] ["_law_number"] (defScope Kw):={}
include T in
theorem ok_notx(d:Dfn K mg "_law_no_text" Kw ["_law_number"]):03 1 "_law_no_text" ["_law_number"] (zb3 0):=by
 apply d.cal Kg 09 51
 .nofun
 let(n,rfl,q):=h;apply⟨_,(zab (zal (i:=1) Kg.nd R 08<|zao 72 (zas 068) 072 (λ_ _=>rfl))<|zab (zal (i:=2) Kg.nd R 08<|zas (pa_c zae<|pa_c zae 105)) (zab (za8<|zbz K PySem.F.plainAttrs_list PySem.F.slot_list_append PySem.F.type_list_append zbe (pv 2) 76)<|zac (zah<|zax zaw (zax zaw (zax zaw (zax zaw (pv 1) zae) zae)<|zax op_mulS zae 085) (zao 72 (pv 2) 085 λ_ _=>rfl)))),?_⟩;apply zav [G<|.int n,B,B] R ?_;trivial;let(g,Y,e):=pickS (L:=heads57) (m:=n) (k:=4) R 06;let(a,h2,C):=pickS (L:=noTx) (m:=n/4) (k:=11) R 06;let l1:=few57.1 _ Y;let l2:=few57.2.2.2.1 _ h2;let(o,_,v,y,_):=lit57;let O:(n/50%3).toNat<3:=by omega
 let M:=zbo l1 v;let x:=zbo M y;let j:=mul_sp O;let c3:=zbo x j;apply mkT λr H1 u=>⟨by decide,_,.of u.at',_,e,mkT λl H2 c=>⟨.inl ⟨_,.of c.at'⟩,_,c.at',small1000 06,_,R,zad 01,zad 01,⟨by decide,by decide⟩,by decide,by decide+kernel,by omega,by omega,by omega,zad 01,⟨by decide,by decide⟩,by decide,?_⟩⟩;show⟨_,.of zat,_,C,_,R,zad 01,q _ _ ((u.g.trans c.g).wr (u.g.free c.nil) _)<|mn3 Y O h2⟩
abbrev Q8:Stmt:=top 161
theorem Qb:FnScope ["_law_number","_law_head","_law_rows","_law_trees","_law_some","_law_word"] ["_law_number"] (defScope Q8):={}
include T in
theorem ok_nosy(d:Dfn K mg "_law_no_saying" Q8 ["_law_number"]):03 1 "_law_no_saying" ["_law_number"] (zb3 3):=by
 apply d.cal Qb 09 51
 .nofun
 let(n,rfl,q):=h;apply⟨_,(zab (zal (i:=1) Qb.nd R 08<|zao 72 (zas 068) 072 (λ_ _=>rfl))<|zab (zal (i:=2) Qb.nd R 08<|zas 068) (zab (zal (i:=3) Qb.nd R 08<|zas 068)<|zab (zal (i:=4) Qb.nd R 08<|zas (pa_c zae 068)) (zab (za8<|zbz K PySem.F.plainAttrs_list PySem.F.slot_list_append PySem.F.type_list_append zbe (pv 4) 76)<|zab (za3 (zak zsn 085 zaf 56) (zab (zal (i:=4) Qb.nd R 08<|zas (pa_c (zao 72 (pv 4) zaf λ_ _=>rfl)<|pa_c (zao 72 (pv 4) zaf λ_ _=>rfl) (pa_c (zao 72 (pv 4) zaf λ_ _=>rfl)<|pa_c (zao 72 (pv 4) zaf λ_ _=>rfl) (pa_c (zao 72 (pv 4) zaf λ_ _=>rfl)<|pa_c (zao 72 (pv 4) zaf λ_ _=>rfl) zaa))))<|zac (zah<|zax zaw (zax zaw (pv 1) zae) (zao 72 (pv 4) 085 λ_ _=>rfl))) zan) (zab (zal (i:=5) Qb.nd R 08<|zao 72 (zao 72 (zas<|pa_c (pv 2) (pa_c (pv 2)<|pa_c (pv 3) 045)) 072 λ_ _=>rfl) (zao 72 (zas<|pa_c zaf (pa_c zaf<|pa_c zaf (pa_c zaf zaa))) 085 λ_ _=>rfl) (λ_ _=>rfl))<|zac (zah<|zax zaw (zax zaw (pv 1) zae) (pv 5)))))),?_⟩;apply zav [G<|.int n,B,B,B,B,B] R ?_;trivial;let(g,Y,e):=pickS (L:=heads57) (m:=n) (k:=4) R 06;let l1:=few57.1 _ Y;let t1:=lit57.2.2.2.2.1;let c1:=zbo l1 t1;apply mkT λr H1 u=>⟨by decide,_,.of u.at',_,e,mkT λl H2 c=>mkT λz H3 U=>mkT λp4 H4 I=>⟨.inl ⟨_,.of I.at'⟩,_,I.at',small1000 06,?_⟩⟩;let g4:Same H H4:=u.g.trans<|c.g.trans (U.g.trans I.g);let hp4:H p4=B:=(u.g.trans<|c.g.trans U.g).free I.nil;let D:H4 l=G (.lst<|rw4.map V.str):=I.g _ _<|U.g _ _ c.at';let e3:H4 z=G (.lst<|tr4.map V.str):=I.g _ _ U.at';let d2:l≠p4:=zau (U.g _ _ c.at') I.nil;let d3:z≠p4:=zau U.at' I.nil;obtain⟨Gq,hG⟩:∃Gq,Gq=upd H4 p4 (.lst<|[V.str "z same z",V.str "some x x same y",V.str "x in X",V.str "not all Y x in Z",V.str "(x same y and x same z)"]++[V.str "all y some z y same y"]):=⟨_,R⟩;let eG:Gq p4=G (.lst<|[V.str "z same z",V.str "some x x same y",V.str "x in X",V.str "not all Y x in Z",V.str "(x same y and x same z)"]++[V.str "all y some z y same y"]):=by rw[hG];show zat
 let gG:Same H Gq:=by rw[hG];show g4.wr hp4 _
 let e2G:Gq l=G (.lst<|rw4.map V.str):=by rw[hG,zaj d2];show D
 let e3G:Gq z=G (.lst<|tr4.map V.str):=by rw[hG,zaj d3];show e3
 rw[←hG];apply⟨⟨by decide,by decide⟩,by decide,ite2 (λ_=>?_) λ_=>?_⟩
 .let(y2,h2,v2):=pickS (L:=noSy) (m:=n/20) (k:=6) R 06;let l2:=few57.2.2.2.2.1 _ h2;show⟨_,.of eG,_,zbp,_,.of eG,_,zam (j:=1) R,_,.of eG,_,zam (j:=2) R,_,.of eG,_,zam (j:=3) R,_,.of eG,_,zam (j:=4) R,_,.of eG,_,zam (j:=1) R,mkT λp5 H5 n5=>⟨_,R,zad 01,⟨by decide,by decide⟩,by decide,_,.of n5.at',_,v2,_,R,zad 01,q _ H5 (gG.trans n5.g)<|mn4 Y h2⟩⟩
 .let J:∃(a:Ad) (L:List Str),atI [V.ref l,V.ref l,V.ref z,V.ref z] (n%4)=G 07/\Gq a=G (.lst<|L.map V.str)/\L.length=4/\∀w,w∈[L.getD 0 "",L.getD 1 "",L.getD 3 ""]->w.length<=30/\(g++064++w,3)∈menu57:=by
   let p:n%4=0\/n%4=1\/n%4=2\/n%4=3:=by omega
   let hr:∀w,w∈[rw4.getD 0 "",rw4.getD 1 "",rw4.getD 3 ""]->w∈noRw:=λw h=>h;let ht:∀w,w∈[tr4.getD 0 "",tr4.getD 1 "",tr4.getD 3 ""]->w∈noTr:=λw h=>h;let e:atI (heads57.map V.str) (n%4)=G (.str g):=e;rcases p with h|h|h|h<;>rw[h]at e ⊢
   .cases e;show⟨l,rw4,R,e2G,R,λw O=>⟨few57.2.2.2.2.2.1 _<|hr w O,mn5 52<|hr w O⟩⟩
   .cases e;show⟨l,rw4,R,e2G,R,λw O=>⟨few57.2.2.2.2.2.1 _<|hr w O,mn5 52<|hr w O⟩⟩
   .cases e;show⟨z,tr4,R,e3G,R,λw O=>⟨few57.2.2.2.2.2.2.1 _<|ht w O,mn6 52<|ht w O⟩⟩
   .cases e;show⟨z,tr4,R,e3G,R,λw O=>⟨few57.2.2.2.2.2.2.1 _<|ht w O,mn6 52<|ht w O⟩⟩
  let(a,L,hat,ea,y,O):=J;apply mkT λp5 H5 n5=>⟨by decide,_,.of n5.at',_,hat,mkT λp6 H6 n6=>⟨⟨by decide,by decide⟩,by decide,_,.of n6.at',?_⟩⟩;let e6:=n6.g _ _<|n5.g _ _ ea;let fin:∀j:Nat,j<4->L.getD j ""∈[L.getD 0 "",L.getD 1 "",L.getD 3 ""]->SqL K H6 a (L.map V.str)/\∃v,atI (L.map V.str) (j:Int)=G v/\∃i,V.str g=V.str i/\i.length+(064).length<=ii/\∃x,v=V.str x/\(i++064).length+x.length<=ii/\Q (V.str<|i++064++x) H6:=λj o M=>by
   let(C,hmem):=O _ M;let o:j<L.length:=by omega
   apply⟨.of e6,_,zam (by rw[y04,y00 o];rfl),g,R,zad 01,L.getD j "",by rw[y02,y00 o];rfl,zad 01,q _ H6 (gG.trans<|n5.g.trans n6.g) hmem⟩
  let p:n/20%4=0\/n/20%4=1\/n/20%4=2\/n/20%4=3:=by omega
  rcases p with h|h|h|h<;>rw[h]
  .exact⟨_,R,_,fin 0 06 05⟩
  .exact⟨_,R,_,fin 1 06 05⟩
  .exact⟨_,R,_,fin 1 06 05⟩
  .exact⟨_,R,_,fin 3 06 05⟩
abbrev K6:Stmt:=top 162
theorem Tf:FnScope ["_law_number","_law_some"] ["_law_number"] (defScope K6):={}
include T in
theorem zwt(d:Dfn K mg "_law_no_row" K6 ["_law_number"]):03 1 "_law_no_row" ["_law_number"] (zb3 2):=by
 apply d.cal Tf 09 51
 .nofun
 let(n,rfl,q):=h;apply⟨_,(zab (zal (i:=1) Tf.nd R 08<|zas (pa_c zae<|pa_c zae (pa_c zae<|pa_c zae 105)))<|zac (zah<|zax zaw zae (zao 72 (pv 1) 072 λ_ _=>rfl))),?_⟩;apply zav [G<|.int n,B] R ?_;trivial;let(y,p,hv):=pickS (L:=noRow) (m:=n) (k:=12) R 06;let l1:=few57.2.2.2.2.2.2.2.1 _ p;let O:=lit57.2.2.2.2.2.1;show mkT λr H1 u=>⟨by decide,_,.of u.at',_,hv,_,R,zad 01,q _ H1 u.g<|mn7 p⟩
abbrev Q6:Stmt:=top 163
theorem Va:FnScope ["_law_number","_law_some"] ["_law_number"] (defScope Q6):={}
include T in
theorem zwu(d:Dfn K mg "_law_no_number" Q6 ["_law_number"]):03 1 "_law_no_number" ["_law_number"] (zb3 4):=by
 apply d.cal Va 09 51
 .nofun
 let(n,rfl,q):=h;apply⟨_,(zab (zal (i:=1) Va.nd R 08<|zas (pa_c zae<|pa_c zae (pa_c zae<|pa_c zae 105)))<|zac (zah<|zax zaw zae (zao 72 (pv 1) 072 λ_ _=>rfl))),?_⟩;apply zav [G<|.int n,B] R ?_;trivial;let(y,p,hv):=pickS (L:=noNum) (m:=n) (k:=12) R 06;let l1:=few57.2.2.2.2.2.2.2.2 _ p;let O:=lit57.2.2.2.2.2.2;show mkT λr H1 u=>⟨by decide,_,.of u.at',_,hv,_,R,zad 01,q _ H1 u.g<|mn8 p⟩
abbrev Kr:Stmt:=top 164
theorem Kl:FnScope ["_law_number","_law_some"] ["_law_number"] (defScope Kr):={}
include T in
theorem ok_sev(d:Dfn K mg "_law_several" Kr ["_law_number"]):03 1 "_law_several" ["_law_number"] zyn:=by
 apply d.cal Kl 09 51
 .nofun
 let(n,rfl,q):=h;apply⟨_,(zab (zal (i:=1) Kl.nd R 08<|zas (pa_c (za0<|pa_c zae 76)<|pa_c (za0<|pa_c zae 76) zaa))<|zab 177 (zab 177<|zab 177 (zab (za8<|zbz K PySem.F.plainAttrs_list PySem.F.slot_list_append PySem.F.type_list_append zbe (pv 1) (pa_c (za0<|pa_c zae 76) zaa))<|zac (zah<|zao 72 (pv 1) 072 (λ_ _=>rfl))))),?_⟩;apply zav [G<|.int n,B] R ?_;trivial;apply mkT λO H1 u=>mkT λC H2 c=>mkT λl1 H3 U=>mkT λv H4 I=>mkT λt4 H5 Y=>mkT λl2 H6 D=>⟨_,(I.g.trans<|Y.g.trans D.g) _ _ U.at',_,D.at',zad 05,λl3 H7 j=>mkT λt5 H8 M=>mkT λt6 H9 g=>mkT λl4 H10 y=>⟨_,(M.g.trans<|g.g.trans y.g) _ _ j.at',_,y.at',zad 05,λl5 H11 f6=>mkT λt7 H12 a=>mkT λL H13 z=>mkT λl6 H14 l0=>⟨_,(a.g.trans<|z.g.trans l0.g) _ _ f6.at',_,l0.at',zad 05,λl7 H15 gu=>?_⟩⟩⟩;apply⟨.inl ⟨_,.of gu.at'⟩,mkT λt9 gv lh=>⟨_,lh.g _ _ gu.at',small1000 05,by decide,_,.of zat,?_⟩⟩;let e16:=lh.g _ _ gu.at';let gg:Same H (upd gv l7<|.lst ([V.ref O,V.ref C]++[V.ref v,V.ref t4]++[V.ref t5,V.ref t6]++[V.ref t7,V.ref L]++[V.ref t9])):=(u.g.trans<|c.g.trans (U.g.trans<|I.g.trans (Y.g.trans<|D.g.trans (j.g.trans<|M.g.trans (g.g.trans<|y.g.trans (f6.g.trans<|a.g.trans (z.g.trans<|l0.g.trans (gu.g.trans lh.g)))))))).wr ((u.g.trans<|c.g.trans (U.g.trans<|I.g.trans (Y.g.trans<|D.g.trans (j.g.trans<|M.g.trans (g.g.trans<|y.g.trans (f6.g.trans<|a.g.trans (z.g.trans l0.g))))))).free gu.nil) _;let up:∀(t:Ad) ys,gv t=G (.tup ys)->∀x,upd gv l7 x t=G (.tup ys):=λt ys e x=>by
  rw[zaj λh=>by rw[h,e16]at e;cases e];show e
 let a15:=lh.g;let a14:=gu.g.trans a15;let a13:=l0.g.trans a14;let a12:=z.g.trans a13;let a9:=y.g.trans<|f6.g.trans (a.g.trans a12);let a8:=g.g.trans a9;let a5:=D.g.trans<|j.g.trans (M.g.trans a8);let a4:=Y.g.trans a5;let r:=U.g.trans<|I.g.trans a4;let a1:=c.g.trans r;let J:∃(t:Ad) (p:Str×Nat),atI ([V.ref O,V.ref C]++[V.ref v,V.ref t4]++[V.ref t5,V.ref t6]++[V.ref t7,V.ref L]++[V.ref t9]) (n%9)=G (.ref t)/\p∈sev57/\gv t=G (.tup [.str p.1,.str<|nm57.getD p.2 ""]):=by
  let h9:n%9=0\/n%9=1\/n%9=2\/n%9=3\/n%9=4\/n%9=5\/n%9=6\/n%9=7\/n%9=8:=by omega
  rcases h9 with h|h|h|h|h|h|h|h|h<;>rw[h]
  .exact⟨O,sev57[0],R,y0b 06,a1 _ _ u.at'⟩
  .exact⟨C,sev57[1],R,y0b 06,r _ _ c.at'⟩
  .exact⟨v,sev57[2],R,y0b 06,a4 _ _ I.at'⟩
  .exact⟨t4,sev57[3],R,y0b 06,a5 _ _ Y.at'⟩
  .exact⟨t5,sev57[4],R,y0b 06,a8 _ _ M.at'⟩
  .exact⟨t6,sev57[5],R,y0b 06,a9 _ _ g.at'⟩
  .exact⟨t7,sev57[6],R,y0b 06,a12 _ _ a.at'⟩
  .exact⟨L,sev57[7],R,y0b 06,a13 _ _ z.at'⟩
  .exact⟨t9,sev57[8],R,y0b 06,lh.at'⟩
 let(t,p,hat,l,o):=J;show⟨_,hat,q p.1 p.2 t _ gg l<|up t _ o _⟩
abbrev Tp:Stmt:=top 165
theorem Ps:FnScope ["_law_cell","_law_number"] ["_law_cell"] (defScope Tp):={}
include T in
theorem zwp(d:Dfn K mg "_law_row" Tp ["_law_cell"])(g:03 1 "_law_no_line" ["_law_number"]<|zb3 5)(v:03 1 "_law_no_frame" ["_law_number"]<|zb3 1)(j:03 1 "_law_no_text" ["_law_number"]<|zb3 0)(r:03 1 "_law_no_saying" ["_law_number"]<|zb3 3)(a:03 1 "_law_no_row" ["_law_number"]<|zb3 2)(u:03 1 "_law_no_number" ["_law_number"]<|zb3 4)(l:03 1 "_law_several" ["_law_number"] zyn):03 2 "_law_row" ["_law_cell"] zn5:=by
 apply d.cal Ps 09 51
 .nofun
 let(n,rfl,q):=h;apply⟨_,(zab (zal (i:=1) Ps.nd R 08<|zax zdi (pv 0) zaf)<|zab (za3 106 (zac<|zah (za0<|pa_c (zag g hr 01 00 96) 76)) zan) (zab (za3 106 (zac<|zah (za0<|pa_c (zag v hr 01 00 96) 76)) zan)<|zab (za3 106 (zac<|zah (za0<|pa_c (zag j hr 01 00 96) 76)) zan) (zab (za3 106 (zac<|zah (za0<|pa_c (zag r hr 01 00 96) 76)) zan)<|zab (za3 106 (zac<|zah (za0<|pa_c (zag a hr 01 00 96) 76)) zan) (zab (za3 106 (zac<|zah (za0<|pa_c (zag u hr 01 00 96) 76)) zan)<|zac (zah<|zag l hr 01 00 96))))),?_⟩;apply zav [G<|.int n,B] R ?_;trivial;let one:∀(c:Nat) (nm:Str),nm57.getD c ""=nm->zb3 c [V.int<|n/7] H (λx H1=>[x,V.str nm].length<=ii/\∀p H',New H1 p (.tup [x,.str nm]) H'->Q 42 H') E0:=λc nm e=>⟨_,R,λz H1 g1 M=>mkT λp H2 y=>q z c p H2 (g1.trans y.g) M<|by rw[e];show y.at'⟩;apply⟨⟨by decide,by decide⟩,by decide,ite2 (λ_=>one 5 _ R) λ_=>⟨by decide,ite2 (λ_=>one 1 _ R) λ_=>⟨by decide,ite2 (λ_=>one 0 _ R) λ_=>⟨by decide,ite2 (λ_=>one 3 _ R) λ_=>⟨by decide,ite2 (λ_=>one 2 _ R) λ_=>⟨by decide,ite2 (λ_=>one 4 _ R) λ_=>?_⟩⟩⟩⟩⟩⟩;show⟨_,R,λz ci t H1 g1 M o=>q z ci t H1 g1 (mn9 M) o⟩
abbrev Vm:Stmt:=top 166
theorem Qi:FnScope ["_law_parts","_law_one","_law_other","_law_text","_law_part"] [] (defScope Vm):={}
include T in
theorem zwy(d:Dfn K mg "_law_great" Vm []):03 1 "_law_great" [] zn8:=by
 apply d.cal Qi 09 51
 .let(rfl,_):=h;rfl
 let(rfl,q):=h;apply⟨_,(zab (zal (i:=0) Qi.nd R 08<|zas zaa)<|zab (zc7 PassesOwn.never R (za5 K<|zas (pa_c zae 76)) (zaq (i:=1) Qi.nd 00 54)<|zab (zc7 PassesOwn.never R (za5 K<|zas (pa_c zae 76)) (zaq (i:=2) Qi.nd 00 54)<|zac (za8<|zbz K PySem.F.plainAttrs_list PySem.F.slot_list_append PySem.F.type_list_append zbe (pv 0) (pa_c (zr9<|PJs.cons zae (PJs.cons (zoh<|pv 1)<|PJs.cons zae (PJs.cons (zoh<|pv 2)<|PJs.cons zae PJs.nil))) zaa))) (zac<|za8 (zbz K PySem.F.plainAttrs_list PySem.F.slot_list_append PySem.F.type_list_append zbe (pv 0)<|pa_c (zr9<|PJs.cons zae (PJs.cons (zoh<|pv 1)<|PJs.cons zae (PJs.cons (zoh<|pv 1)<|PJs.cons zae PJs.nil))) zaa))) (zab (zal (i:=3) Qi.nd R 08<|zao 72 (pv 0) zaf (λ_ _=>rfl))<|zab (zc7 PassesOwn.never R (za5 K<|zck (zf4 K) (pv 0) (zdd zaf) zde) (zaq (i:=4) Qi.nd 00 54)<|zac (zal (i:=3) Qi.nd R 08<|zax zaw (zax zaw (zax zaw (zax zaw zae<|pv 3) zae)<|pv 4) zae)) (zac<|zah (pv 3)))),?_⟩;apply zav [B,B,B,B,B] R ?_;trivial;apply mkT λp H1 u=>mkT λl1 H2 c=>⟨⟨_,.of c.at'⟩,?_⟩;let f9:H p=B:=u.nil;apply zed (K:=K) (a:=l1) (xs:=[V.str "X",V.str "Y"]) (λi σ H'=>Same H H'/\H' l1=H2 l1/\H' p=G (.lst<|(grP.take<|3*i).map V.str)/\l1≠p/\∃v1 C,σ=[G 42,v1,C,B,B]) ⟨u.g.trans c.g,R,c.g _ _ u.at',Ne.symm<|zau u.at' c.nil,B,B,R⟩ (λi σ H' _ z=>.of<|z.2.1.trans c.at') ?_ ?_
 .rintro i y σ H' L ⟨g,r,l,dl,v1,C,rfl⟩;let(hi,rfl):=xy_at L;let(_,s1,s2,s3,s4,_,_,_,sx,I):=zy9;let D:=sx i hi;trivial;apply mkT λl2 H3 U=>⟨⟨_,.of U.at'⟩,?_⟩;let ep3:=U.g _ _ l;apply zed (K:=K) (a:=l2) (xs:=[V.str "X",V.str "Y"]) (λj σ J=>Same H J/\J l1=H2 l1/\J l2=H3 l2/\J p=G (.lst<|(grP.take<|3*i+j).map V.str)/\∃C,σ=[G 42,G<|.str (xyL.getD i ""),C,B,B]) ⟨g.trans U.g,by rw[U.g _ _<|r.trans c.at'];show c.at'.symm,R,ep3,_,R⟩ (λj σ J _ z=>.of<|z.2.2.1.trans U.at') ?_ ?_
  .rintro j y2 σ J f8 ⟨g2,el2,em2,e,v2',rfl⟩;let(o,rfl):=xy_at f8;let ly:=sx j o;let d2:l2≠p:=Ne.symm<|zau l U.nil;trivial;let M:=zbo I s1;let x:=zbo M D;let c3:=zbo x s3;let c4:=zbo c3 ly;let c5:=zbo c4 s4;apply⟨.inl ⟨_,.of e⟩,zad (by omega+splitDisjunctions),zad (by omega+splitDisjunctions),zad (by omega+splitDisjunctions),zad (by omega+splitDisjunctions),zad (by omega+splitDisjunctions),zad (by omega+splitDisjunctions),zad (by omega+splitDisjunctions),_,e,small1000 (by rw[y01,y12];omega+splitDisjunctions),g2.wr f9 _,by rw[zaj dl];show el2,by rw[zaj d2];show em2,?_⟩;rw[zat,gr_two i hi j o,show 3*i+(j+1)=(3*i+j)+1 by omega+splitDisjunctions,ztu (3*i+j)<|by omega+splitDisjunctions]
  .rintro σ J ⟨g2,el2,em2,e,v2',rfl⟩;trivial;let e:J p=G (.lst<|(grP.take<|3*i+2).map V.str):=e;let M:=zbo I s2;let x:=zbo M D;let c3:=zbo x s3;let c4:=zbo c3 D;let c5:=zbo c4 s4;apply⟨.inl ⟨_,.of e⟩,zad (by omega+splitDisjunctions),zad (by omega+splitDisjunctions),zad (by omega+splitDisjunctions),zad (by omega+splitDisjunctions),zad (by omega+splitDisjunctions),zad (by omega+splitDisjunctions),zad (by omega+splitDisjunctions),_,e,small1000 (by rw[y01,y12];omega+splitDisjunctions),g2.wr f9 _,by rw[zaj dl];show el2,?_⟩;rw[zat,gr_one i hi,show 3*(i+1)=(3*i+2)+1 by omega+splitDisjunctions,ztu (3*i+2)<|by omega+splitDisjunctions];show⟨R,dl⟩
 .rintro σ H' ⟨g,r,l,dl,v1,C,rfl⟩;trivial;let l:H' p=G (.lst<|grP.map V.str):=l;apply⟨_,.of l,_,zbp,_,.of l,λp5 H5 Y=>⟨⟨_,.of Y.at'⟩,?_⟩⟩;rw[show(G (1:Int))=G ((1:Nat):Int)from rfl,zji,←List.map_drop]at Y;let(sp,_,_,_,_,v,b2,b3,_,_):=zy9;apply zed (K:=K) (a:=p5) (xs:=(grP.drop 1).map V.str) (λk σ J=>J=H5/\∃v4,σ=[G 42,v1,C,G<|.str (grF ((grP.drop 1).take k)<|grP.getD 0 ""),v4]) ⟨R,_,R⟩ (λk σ J _ z=>by rw[z.1];show .of Y.at') ?_ ?_
  .rintro k y σ J L ⟨rfl,v4,rfl⟩;rw[y04]at L;let(w,O,rfl):=y10.mp L;let hk:k<5:=(y0d.mp O).1;let lw:=sp w<|List.mem_of_mem_drop (y0q O);let lg:=grF_len k (by omega+splitDisjunctions);let M:=zbo v lg;let x:=zbo M b3;let c3:=zbo x lw;trivial;apply⟨zad (by omega+splitDisjunctions),zad (by omega+splitDisjunctions),zad (by omega+splitDisjunctions),zad (by omega+splitDisjunctions),?_⟩;rw[y14,O];show(zxs _ _ _).symm
  .rintro σ J ⟨rfl,v4,rfl⟩;trivial;show q J<|g.trans Y.g
theorem zos{d:Type}{x:Ad}{v:d}{r:List (Ad×d)}:List.lookup x ((x,v)::r)=G v:=by simp[List.lookup]
theorem zfd{d:Type}{x y:Ad}{v:d}{r:List (Ad×d)}(h:x≠y):List.lookup x ((y,v)::r)=List.lookup x r:=by
 let:(x==y)=Fa:=by simpa using h
 simp[List.lookup,this]
abbrev Qcd:Stmt:=top 167
theorem Vu:FnScope ["_law_script","_law_great_here","_law_ahead","_law_cell","_law_line","_law_name"] ["_law_script"] (defScope Qcd):={}
abbrev sp_law:=sp_lawT
include T in
theorem ok_law{f:Ad}{fd:i5}{Pk Pr Pp Pm:Ad}(F:Fun K "law" "law" Qcd f fd)(u:Pp≠Pr)(c:Pm≠Pr)(n3:Pm≠Pp)(n7:Pk≠Pr)(n8:Pk≠Pp)(n9:Pk≠Pm)(Qbm:03 1 "_law_great" [] zn8)(Vn:CalT P w K mg base 36 "_law_kinds" ["_law_line"] zho)(Tu:03 1 "_law_due" ["_law_name"] zob)(Ko:CalET P w K mg base 35 "said" ["line"] 184)(Qcl:03 2 "_law_row" ["_law_cell"] zn5):FnOk P w K mg base CX0 37 f fd ["_law_script"] (sp_law K [(Pr,qs_reduced),(Pp,qs_paired),(Pm,qs_met),(Pk,qs_maker)]):=by
 apply F.ok Vu 09 λl A outer s H vs Q E L h=>?_
 .nofun
 let(a,ns,rfl,hS,h63,hO,q):=h;let hu:=zfh L 8 (by omega+splitDisjunctions);let Y:Tab3 H Pr qs_reduced Pp qs_paired Pm qs_met:=⟨hO.tab zos,hO.tab (by rw[zfd u];show zos),hO.tab<|by rw[zfd c,zfd n3];show zos⟩;let tk:TabOk H Pk qs_maker:=hO.tab (by rw[zfd n7,zfd n8,zfd n9];show zos);let(w1,w2,w3,w4,w5):=gr_ok;let gd:=good_ok;simp only[y05]at gd;let(((((((y1,y2),y3),y4),v),b2),b3),b4):=gd;let ask:∀{z j:Str} {H1:Hp} {Q':VK} {E':XK},lineB z=N->good57 z j=N->Same H H1->(∀H',Same H1 H'->Q' (.str j) H')->zek cs Pr qs_reduced Pp qs_paired Pm qs_met Pk qs_maker [V.str z] H1 Q' E':=λU hg g q'=>⟨_,R,U,.inr ⟨_,hg,Y.same g,tk.same g,q'⟩⟩;apply⟨_,(zab (zal (i:=1) Vu.nd R 08<|zsf Qbm L (by omega+splitDisjunctions) 00)<|zab (za3 (zak (zmu K hu) (zkz Vn L (by omega+splitDisjunctions) 00<|zet (zk0 zaw (zk0 zaw zdh<|pv 1) zae) zaa) (zag Tu L (by omega+splitDisjunctions) 00 76) 56) 071 zan) (zab (za3 (zak (zmu K hu) (zkz Vn L (by omega+splitDisjunctions) 00<|zet (zk0 zaw (zk0 zaw zdh<|pv 1) zae) zaa) (zag Tu L (by omega+splitDisjunctions) 00 76) 56) 071 zan)<|zab (zal (i:=2) Vu.nd R 08<|zas (pa_c (zcb Ko L (by omega+splitDisjunctions) 00<|zet zdh zaa)<|pa_c (zcb Ko L (by omega+splitDisjunctions) 00<|zet zdh zaa) (pa_c (zcb Ko L (by omega+splitDisjunctions) 00<|zet zdh zaa) zaa))) (zab (za3 (zak (op_neSK K hu) (pv 2) (zas<|pa_c zae (pa_c zae 76)) 56) 071 zan)<|zab (zc7 PassesOwn.never R (za5 K<|zax zbt (zas<|pa_c zaf (pa_c zaf<|pa_c zaf (pa_c zaf<|pa_c zaf (pa_c zaf<|pa_c zaf zaa)))) (zck (zf4 K) (pv 0) zde<|zdd zaf)) (zaq (i:=3) Vu.nd 00 54)<|zv4 (psU_asg (zsg Qcl L (by omega+splitDisjunctions) 00<|zet (peU_opR zbm (pv 3)<|zk0 op_pow peU_int zaf) zaa)<|zeb K (n:=2) R (zbj (zaq (i:=4) Vu.nd 00 54)<|zbj (zaq (i:=5) Vu.nd 00 54) zea)) (zmr<|zys (zv1 (zmu K hu) (zk2 Vn L (by omega+splitDisjunctions) 00<|PA.t (pa_c (pv 4) zaa)) (PE.t<|zag Tu L (by omega+splitDisjunctions) 00 (pa_c (pv 5) zaa)) 56) (PSs.t 071) (PSs.t zan))) (zac<|zah (zco (op_eqSK K hu) (pv 2) (zas<|pa_c (zcb Ko L (by omega+splitDisjunctions) 00<|zet zdh zaa) (pa_c (zcb Ko L (by omega+splitDisjunctions) 00<|zet zdh zaa)<|pa_c (zcb Ko L (by omega+splitDisjunctions) 00<|zet zdh zaa) zaa)) 56))))),?_⟩;apply zav [G 07,B,B,B,B,B] R ?_;trivial;apply⟨R,λH1 g1=>?_⟩;obtain⟨I,m2,m3,m4⟩:("takes X Y ; ":Str).length<=20/\(" ; x":Str).length<=20/\("many X Y ; ":Str).length<=20/\(" ; 101":Str).length<=20:=by decide+kernel
 let c1:=zbo I w5;let c3:=zbo m3 w5;change∃x_1,V.str grT=V.str x_1/\_;apply⟨_,R,zad (by omega+splitDisjunctions),zad (by omega+splitDisjunctions),_,2,R,w1,w2,by decide,λp H2 g2 D=>⟨2,R,by decide,λx H3 r e3=>⟨p,x,_,_,R,R,.of<|r _ _ D,.of e3,zfi _,zfi _,?_⟩⟩⟩;rw[blEq,Xg rfl];apply itB0 ⟨_,R,zad (by omega+splitDisjunctions),zad (by omega+splitDisjunctions),_,4,R,w3,w4,by decide,λD3 H4 g4 e4=>⟨4,R,by decide,λD4 H5 g5 e5=>⟨D3,D4,_,_,R,R,.of<|g5 _ _ e4,.of e5,zfi _,zfi _,?_⟩⟩⟩;rw[blEq,Xg rfl];let g05:Same H H5:=g1.trans<|g2.trans (r.trans<|g4.trans g5);apply itB0<|ask v y1 g05 λH6 d=>ask b3 y3 (g05.trans d) λH7 e=>ask b4 y4 (g05.trans<|d.trans e) λH8 g8=>mkT λp9 H9 n9=>mkT λp10 H10 n10=>⟨ans57,.of<|n10.g _ _ n9.at',ans57,.of n10.at',?_⟩;rw[Xg rfl];apply iteF ?_;let g9:Same H H9:=g05.trans<|d.trans (e.trans<|g8.trans n9.g);let e9:H9 p9=G (.lst<|ans57.map V.str):=n9.at';apply mkT λp11 H11 f6=>⟨_,(g9.trans<|n10.g.trans f6.g).seq hS,λp12 H12 n12=>?_⟩;rw[zx4]at n12;let aa:(cutL ns B<|G 30).length<=ns.length:=zpb ns _ _;apply⟨_,n12.g _ _ f6.at',_,n12.at',zad (by rw[y01];simp only[y0i,y1k];omega+splitDisjunctions),λp13 H13 n13=>⟨⟨_,.of n13.at'⟩,?_⟩⟩;let bc:Same H9 H13:=n10.g.trans<|f6.g.trans (n12.g.trans n13.g);let e13:H13 p13=G (.lst<|([0,1,2,3,4,5,6]++cutL ns B (G 30)).map V.int):=by rw[n13.at',y0y];rfl
 apply zed (K:=K) (a:=p13) (xs:=([0,1,2,3,4,5,6]++cutL ns B (G 30)).map V.int) (λk σ H'=>Same H13 H'/\∃J C v5,σ=[G 07,G<|.str grT,G<|.ref p9,J,C,v5]) ⟨Same.refl _,B,B,B,R⟩ (λk σ H' _ z=>.of<|z.1 _ _ e13) ?_ ?_
 .rintro k y σ H' hy ⟨g,J,C,v5,rfl⟩;rw[y04]at hy;let(cc,_,rfl):=y10.mp hy;trivial;apply⟨⟨by decide,by decide,by decide⟩,by decide,_,R,λz ci t H14 li M o=>?_⟩;let O:=menu_ok _ M;unfold chk57 at O;simp only[y05,decide_eq_true_eq]at O;let((k1,k2),k3):=O;apply⟨t,R,_,.of o,R,_,_,R,_,_,R,R,z,ci,R,k1,k2,k3,λp H15 g15 e15=>⟨ci,R,k3,λx gv g16 e16=>⟨p,x,_,_,R,R,.of<|g16 _ _ e15,.of e16,zfi _,zfi _,?_⟩⟩⟩;rw[blEq,Xg rfl];show itB0<|g.trans (li.trans<|g15.trans g16)
 .rintro σ H' ⟨g,J,C,v5,rfl⟩;let ge:=g9.trans<|bc.trans g;trivial;apply ask b2 y2 ge λH14 li=>ask b3 y3 (ge.trans li) λH15 g15=>ask b4 y4 (ge.trans<|li.trans g15) λgv g16=>mkT λp17 H17 n17=>?_;let e17:=n17.g _ _<|g16 _ _ (g15 _ _<|li _ _ (g _ _<|bc _ _ e9));apply⟨ans57,.of e17,ans57,.of n17.at',?_⟩;rw[Xg rfl];show q H17
end
section
variable {P:ik}{w:World}{K:Frag}{mg:Y1}{base:Heap}{f:Ad}{fd:i5}{tw rw ow fa pa ta cj ca ce co cn cSayError:Ad}{cs:List Ad}
variable (T:Txt K mg w tw rw ow fa pa ta cj ca ce co cn cSayError cs)
include T in
theorem all(Qdf:Dfn K mg "gone" Qax ["machine","row"])(Qc6:Dfn K mg "takes" P7 ["machine","row"])(Qcr:Dfn K mg "reached" Ty ["machine"])(To:Dfn K mg "renamed" Kn ["rooms","numbers"])(Qcy:Dfn K mg "picked" Pd ["machine","rooms","numbers"])(Qb4:Dfn K mg "numbered" Vx ["marks"])(Qaq:Dfn K mg "finer_sorts" Kp ["machine","sorts"])(Qbv:Dfn K mg "sorts_by" V8 ["ends","part_further"]){q a:Ad}(Vc:DfnC K mg "reduced" Tv ["machine"] q a)(Qc3:Dfn K mg "parted" Pe ["one","other"])(Qbw:Dfn K mg "is_whole" Td ["thing"])(Qb8:Dfn K mg "is_below" V0 ["thing","bound"])(Qca:Dfn K mg "explored" V4 ["tracks","first","comings","is_end"]){A d:Ad}(Ta:DfnC K mg "paired" T8 ["one","other","is_end"] A d)(Qcn:Dfn K mg "flipped" Tm ["machine"]){nh t_met:Ad}(Qas:DfnC K mg "met" Qb1 ["one","other"] nh t_met)(Qbl:Dfn K mg "letter_of" Vh ["letter","tracks"])(Qcx:Dfn K mg "spread" Pc ["machine","tracks","width"]){lj e:Ad}(Tz:DfnC K mg "maker" P8 ["bare_of","fitting_of","met","joined","flipped","dropped"] lj e)(K4:Dfn K mg "is_letter_with_figures" Qh ["thing","letters"])(Qb6:Dfn K mg "is_place" V2 ["thing"])(Qcz:Dfn K mg "is_set" T7 ["thing"])(Qcj:Dfn K mg "is_name" Ti ["thing"])(Qce:Dfn K mg "is_frame" Vw ["thing"])(Qa1:Dfn K mg "is_of_sort" Q4 ["thing","sort","deepest"])(Qb7:Dfn K mg "has_form" Kx ["thing","deepest"])(Px:Dfn K mg "inner_sayings" Ka ["saying"])(Qch:Dfn K mg "is_bare" Tw ["saying"])(Qal:Dfn K mg "count_parts" Q0 ["saying"])(Pq:Dfn K mg "is_any_saying" Q7 ["thing"])(Qa6:Dfn K mg "is_let" V1 ["saying","known","barred","most"])(Qbp:Dfn K mg "is_saying" Vr ["thing","frame"])(T9:Dfn K mg "is_tree_saying" Q2 ["thing","frame"])(Qae:Dfn K mg "check_frame" Ks ["frame"])(Qbf:Dfn K mg "check_let" Vg ["saying","frame"])(Tx:Dfn K mg "check_tree_frame" Qu ["frame"])(Pb:Dfn K mg "check_tree_let" Q3 ["saying","frame"])(Qa9:Dfn K mg "fitting_of" K3 ["frame"])(Qcp:Dfn K mg "fitting" Tj ["frame"])(Qcs:Dfn K mg "rule_of" Tt ["word"])(Qcq:Dfn K mg "bare_of" Tq ["saying","frame"])(Qc7:Dfn K mg "built" P2 ["saying","frame"])(Qb2:Dfn K mg "shortest" V6 ["machine"])(Qco:Dfn K mg "verdict" Tk ["saying","frame"])(T3:Dfn K mg "one_letter_more" Qx ["machine","counts"])(Qar:Dfn K mg "counts_from" Ku ["machine","length"])(P6:Dfn K mg "check_length" Kj ["length"])(Qb5:Dfn K mg "how_many" V9 ["machine","length"])(Qbq:Dfn K mg "is_letter" Vi ["thing","tracks"])(Qbc:Dfn K mg "check_row" Vo ["frame","row"])(Qaw:Dfn K mg "tree_built" K5 ["saying","frame"])(P5:Dfn K mg "tree_verdict" Kk ["saying","frame"])(Vj:Dfn K mg "words_between_blanks" Ql ["text"])(Qbz:Dfn K mg "words_of" V3 ["text"])(Qbj:Dfn K mg "take_word" Vq ["left"])(Qai:Dfn K mg "take_saying" Q1 ["left","deepest"])(Qbt:Dfn K mg "take_pair" Km ["left","deepest"])(Qdd:Dfn K mg "read" Qa0 ["text"])(Qb9:Dfn K mg "parts_of" Te ["line"])(Qbu:Dfn K mg "number_in" Vk ["word"])(Qav:Dfn K mg "numbers_in" K0 ["text"])(Qc1:Dfn K mg "row_in" Ph ["text","frame"])(Qbd:Dfn K mg "length_in" Vf ["text"])(Qbr:Dfn K mg "saying_in" Ve ["text","frame"])(Pj:Dfn K mg "said_of_trees" Ke ["ask","frame","text"])(Qa4:Dfn K mg "said_takes" K9 ["frame","saying","row"])(Qak:Dfn K mg "said_always" Kq ["frame","saying"])(Qdi:Dfn K mg "said" Qa3 ["line"])(Qbk:Dfn K mg "_law_kinds" Vl ["_law_line"])(Qcw:Dfn K mg "_law_due" Ts ["_law_name"])(Qaj:Dfn K mg "_law_no_line" Kv ["_law_number"])(P3:Dfn K mg "_law_no_frame" Ki ["_law_number"])(Qah:Dfn K mg "_law_no_text" Kw ["_law_number"])(Pz:Dfn K mg "_law_no_saying" Q8 ["_law_number"])(Qat:Dfn K mg "_law_no_row" K6 ["_law_number"])(Po:Dfn K mg "_law_no_number" Q6 ["_law_number"])(Qan:Dfn K mg "_law_several" Kr ["_law_number"])(Qcv:Dfn K mg "_law_row" Tp ["_law_cell"])(Qba:Dfn K mg "_law_great" Vm [])(u:d≠a)(c:t_met≠a)(U:t_met≠d)(j:e≠a)(n8:e≠d)(g:e≠t_met)(l:BltK base mg)(F:Fun K "law" "law" Qcd f fd):
  FnOk P w K mg base CX0 37 f fd ["_law_script"] (sp_law K [(a,qs_reduced),(d,qs_paired),(t_met,qs_met),(e,qs_maker)]):=by
 let c1:=zp6 (P:=P) (w:=w) (base:=base) T Qcr;let x:=zp4 (P:=P) (w:=w) (base:=base) T To;let c3:=zsx T Qcy x;let c4:=zmy (P:=P) (w:=w) (base:=base) T Qb4;let c5:=zw2 T Qaq x c4;let c6:=zp2 T Qbv c4;let c7:=zp5 T Vc l c1 c3 c5 c6;let M:=zmx (P:=P) (w:=w) (base:=base) T To;let D:=zm0 T Qca M c7;let L:=zp9 T Ta l D;let o:=ok_metK T Qas l L;let i:=ok_lf (P:=P) (w:=w) (base:=base) T K4;let r:=zwr T Qb6 i;let a3:=ok_set T Qcz i;let E:=ok_nm T Qcj r a3;let a5:=zwz T Qce E;let s6:=zpe T Qa1 Qb7 r a3 E 12;let s7:=zwx (P:=P) (w:=w) (base:=base) T Px;let s8:=zs3 T Qch s7;let s9:=zl6 T Qal s7 13;let i1:=zs7 T Pq s6.1 s9;let s11:=znr (bw:=treeWords) T Qa6 s7 s8 13;let s12:=zww T Qbp a5 i1 s11;let v:=zk7 (P:=P) (w:=w) (base:=base) T To;let Q:=zmz (P:=P) (w:=w) (base:=base) T Qbl;let s:=zp1 T Qcx Q v;let b4:=zw0 T Qa9 r s o;let r1:=ok_rule (P:=P) (w:=w) (base:=base) T Qcs;let r2:=zw8 T Qcq r1 s b4 o;let y:=zqc T Qcn c7;let x2:=zsr (P:=P) (w:=w) (base:=base) T Qbw;let x3:=zs6 T Qb8 x2;let(fb,rF,mb):=r2.fn;let(ff,fF,mf):=b4.fn;let(fm,mF,mm):=o.fn;let(J,lF,ml):=y.fn;let Y:=zs1 T Tz l rF fF mF lF;let h2:=ok_cf57 T Qae a5;let h3:=ok_cl57 T Qbf h2 s12;let p:=(zqd T Qc7 h3 mb mf mm ml Y).n λ_ _ _ _ z=>z;let s13:=znr (bw:=SS.rowWords) T Qa6 s7 s8 13;let s14:=zs2 T T9 a5 i1 s13;let h5:=zw5 T Tx h2;let h6:=zw4 T Pb h5 s14;let h7:=ok_tb57 T Qaw h6;let h8:=ok_tv57 T P5 h7;let v1:=zw1 T Qcp h2 b4;let v2:=zp8 (P:=P) (w:=w) (base:=base) T Qc3;let v3:=zsv T Qb2 v2;let v4:=zss T Qco p v1 y o v3;let O:=zqe (P:=P) (w:=w) (base:=base) T Vj;let C:=zwk T Qbz O;let t3:=zmw (P:=P) (w:=w) (base:=base) T Qbj;let t4:=zl5 T Qai Qbt t3 13;let H:=zwq T Qdd C t4 i1;let k1:=ok_more (P:=P) (w:=w) (base:=base) T T3;let k2:=ok_from T Qar k1;let k3:=zs5 T P6 x3;let k4:=ok_many T Qb5 k3 k2;let k5:=ok_gone (P:=P) (w:=w) (base:=base) T Qdf;let k6:=zwl T Qc6 k5;let l1:=zp7 T Qb9 O;let l2:=zws (P:=P) (w:=w) (base:=base) T Qbu;let l3:=zsy T Qav O l2;let l4:=zqb T Qbq x3;let l5:=zw7 T Qbc l4;let l6:=zwo T Qc1 l3 l5;let l7:=zwv T Qbd l3 k3;let l8:=zwn T Qbr h2 H h3;let l9:=zmv T Pj h5 H h7 h8;let l10:=zst T Qa4 p k6;let l11:=zp3 T Qak v4;let l12:=zsw T Qdi l1 l9 l8 l10 l6 l7 k4 p l11;let I:=zqa T Qbk l12;let m2:=zw3 (P:=P) (w:=w) (base:=base) T Qcw;let m3:=zsz (P:=P) (w:=w) (base:=base) T Qaj;let m4:=zs0 (P:=P) (w:=w) (base:=base) T P3;let m5:=ok_notx (P:=P) (w:=w) (base:=base) T Qah;let m6:=ok_nosy (P:=P) (w:=w) (base:=base) T Pz;let m7:=zwt (P:=P) (w:=w) (base:=base) T Qat;let m8:=zwu (P:=P) (w:=w) (base:=base) T Po;let m9:=ok_sev (P:=P) (w:=w) (base:=base) T Qan;let m10:=zwp T Qcv m3 m4 m5 m6 m7 m8 m9;let m11:=zwy (P:=P) (w:=w) (base:=base) T Qba;show ok_law T F u c U j n8 g m11 I m2 l12 m10
end
theorem txt_mk{K:Frag}{mg:Y1}{w:World}{tw rw ow z pa A cj ca y co cn cSayError dd0 dd1 dd2 dd3 dd4 dd5 a c e:Ad}(h0:mg "isinstance"=B)(Y:mg "str"=B)(h2:mg "tuple"=B)(h3:mg "list"=B)(p:mg "int"=B)(h5:mg "bool"=B)(h6:mg "dict"=B)(h7:mg "set"=B)(h8:mg "len"=B)(h9:mg "any"=B)(l:mg "sorted"=B)(i:mg "ValueError"=B)(h12:mg "min"=B)(h13:mg "all"=B)(h14:mg "sum"=B)(r:mg "max"=B)(g:mg "range"=B)(h17:mg "zip"=B)(f:mg "enumerate"=B)(h19:mg "reversed"=B)(h20:GlV mg "MOST_COME_TO"<|.int 100)(h21:GlV mg "LONGEST"<|.int 100)(h22:GlV mg "LONGEST_NAME"<|.int 4)(h23:GlV mg "MOST_NAMES"<|.int 4)(h24:GlV mg "MOST_TREE_NAMES"<|.int 3)(h25:GlV mg "DEEPEST"<|.int 12)(h26:GlV mg "MOST_PARTS"<|.int 60)(h27:GlV mg "MOST_FIGURES"<|.int 3)(h28:GlV mg "FIGURES"<|.str FIGS)(h29:GlV mg "SMALL_LETTERS"<|.str SMALL)(h30:GlV mg "GREAT_LETTERS"<|.str GREAT)(h31:GlV mg "TELLING_WORDS"<|.ref tw)(D:∀H,SqT K H tw [.str "some",.str "all"])(h33:GlV mg "TREE_WORDS"<|.ref rw)(h34:∀H,SqT K H rw [.str "left",.str "right",.str "above"])(h35:GlV mg "ROW_WORDS"<|.ref ow)(h36:∀H,SqT K H ow [.str "ahead",.str "next"])(h37:GlV mg "TREE_ASKS"<|.ref A)(h38:∀H,SqT K H A [.str "treerooms",.str "treealways"])(h39:GlV mg "FORMS"<|.ref z)(h40:Forms K w z)(h41:GlV mg "PARTS"<|.ref pa)(h42:PartsD K w pa)(h43:GlV mg "JUST_ONCE"<|.ref cj)(h44:CMach K cj justM)(h45:GlV mg "ANY_ROW"<|.ref ca)(h46:CMach K ca anyM)(h47:GlV mg "EACH_IN"<|.ref y)(h48:CMach K y eachM)(h49:GlV mg "COMES_AHEAD"<|.ref co)(h50:CMach K co aheadM)(h51:GlV mg "COMES_NEXT"<|.ref cn)(h52:CMach K cn nextM)(h53:∃q,GlV mg "joined"<|.ref q)(h54:∃q,GlV mg "dropped"<|.ref q)(h55:mg "SayError"=G 075)(h56:mg "NoText"=G 034)(h57:mg "NoFrame"=G 033)(h58:mg "NoRow"=G 032)(h59:mg "NoSaying"=G 031)(h60:mg "NoNumber"=G 030)(h61:mg "NoLine"=G 029)(h62:mg "NoTree"=G (.ref a))(h63:mg "NoWidth"=G (.ref c))(h64:mg "TooGreat"=G (.ref e))(h65:KSup K cSayError)(oo:KExc K dd0)(o9:KExc K dd1)(u:KExc K dd2)(O:KExc K dd3)(o6:KExc K dd4)(oy:KExc K dd5)(ol:PySem.W.mroIn K dd0 075=G N)(re:PySem.W.mroIn K dd1 075=G N)(rf:PySem.W.mroIn K dd2 075=G N)(Q:PySem.W.mroIn K dd3 075=G N)(on:PySem.W.mroIn K dd4 075=G N)(px:PySem.W.mroIn K dd5 075=G N)(J:PySem.W.kitOne K 034 093=G N)(s:PySem.W.kitOne K 033 093=G N)(nv:PySem.W.kitOne K 032 093=G N)(qt:PySem.W.kitOne K 031 093=G N)(qi:PySem.W.kitOne K 030 093=G N)(o7:PySem.W.kitOne K 029 093=G N)(qv:PySem.W.kitOne K 034 034=G N)(x:PySem.W.kitOne K 034 033=G Fa)(qy:PySem.W.kitOne K 034 032=G Fa)(o5:PySem.W.kitOne K 034 031=G Fa)(rj:PySem.W.kitOne K 034 030=G Fa)(qw:PySem.W.kitOne K 034 029=G Fa)(qz:PySem.W.kitOne K 034 (.ref a)=G Fa)(oz:PySem.W.kitOne K 034 (.ref c)=G Fa)(ni:PySem.W.kitOne K 034 (.ref e)=G Fa)(nu:PySem.W.kitOne K 033 034=G Fa)(rl:PySem.W.kitOne K 033 033=G N)(rb:PySem.W.kitOne K 033 032=G Fa)(o0:PySem.W.kitOne K 033 031=G Fa)(E:PySem.W.kitOne K 033 030=G Fa)(qa:PySem.W.kitOne K 033 029=G Fa)(pi:PySem.W.kitOne K 033 (.ref a)=G Fa)(M:PySem.W.kitOne K 033 (.ref c)=G Fa)(om:PySem.W.kitOne K 033 (.ref e)=G Fa)(qo:PySem.W.kitOne K 032 034=G Fa)(I:PySem.W.kitOne K 032 033=G Fa)(T:PySem.W.kitOne K 032 032=G N)(sd:PySem.W.kitOne K 032 031=G Fa)(o8:PySem.W.kitOne K 032 030=G Fa)(qd:PySem.W.kitOne K 032 029=G Fa)(qb:PySem.W.kitOne K 032 (.ref a)=G Fa)(oq:PySem.W.kitOne K 032 (.ref c)=G Fa)(oh:PySem.W.kitOne K 032 (.ref e)=G Fa)(oi:PySem.W.kitOne K 031 034=G Fa)(pd:PySem.W.kitOne K 031 033=G Fa)(rq:PySem.W.kitOne K 031 032=G Fa)(pk:PySem.W.kitOne K 031 031=G N)(L:PySem.W.kitOne K 031 030=G Fa)(nj:PySem.W.kitOne K 031 029=G Fa)(sf:PySem.W.kitOne K 031 (.ref a)=G Fa)(qf:PySem.W.kitOne K 031 (.ref c)=G Fa)(v:PySem.W.kitOne K 031 (.ref e)=G Fa)(ph:PySem.W.kitOne K 030 034=G Fa)(pq:PySem.W.kitOne K 030 033=G Fa)(rc:PySem.W.kitOne K 030 032=G Fa)(pj:PySem.W.kitOne K 030 031=G Fa)(qg:PySem.W.kitOne K 030 030=G N)(ou:PySem.W.kitOne K 030 029=G Fa)(qe:PySem.W.kitOne K 030 (.ref a)=G Fa)(ny:PySem.W.kitOne K 030 (.ref c)=G Fa)(qj:PySem.W.kitOne K 030 (.ref e)=G Fa)(o4:PySem.W.kitOne K 029 034=G Fa)(ql:PySem.W.kitOne K 029 033=G Fa)(qh:PySem.W.kitOne K 029 032=G Fa)(C:PySem.W.kitOne K 029 031=G Fa)(rh:PySem.W.kitOne K 029 030=G Fa)(U:PySem.W.kitOne K 029 029=G N)(pz:PySem.W.kitOne K 029 (.ref a)=G Fa)(og:PySem.W.kitOne K 029 (.ref c)=G Fa)(ox:PySem.W.kitOne K 029 (.ref e)=G Fa)(h75:PySem.W.excIn K dd0 veM "ValueError.__new__"=N)(h76:PySem.W.excIn K dd1 veM "ValueError.__new__"=N)(h77:PySem.W.excIn K dd2 veM "ValueError.__new__"=N)(h78:PySem.W.excIn K dd3 veM "ValueError.__new__"=N)(h79:PySem.W.excIn K dd4 veM "ValueError.__new__"=N)(h80:PySem.W.excIn K dd5 veM "ValueError.__new__"=N):∃(qtw qrw qow qfa qpa qta qcj qca qce qco qcn d:Ad) (cs:List Ad),Txt K mg w qtw qrw qow qfa qpa qta qcj qca qce qco qcn d cs :=
 ⟨tw,rw,ow,z,pa,A,cj,ca,y,co,cn,cSayError,[dd0,dd1,dd2,dd3,dd4,dd5,a,c,e],⟨h0,Y,h2,h3,p,h5,h6,h7,h8,h9,l,i,h12,h13,h14,r,g,h17,f,h19,h20,h21,h22,h23,h24,h25,h26,h27,h28,h29,h30,h31,D,h33,h34,h35,h36,h37,h38,h39,h40,h41,h42,h43,h44,h45,h46,h47,h48,h49,h50,h51,h52,h53,h54,h55,h56,h57,h58,h59,h60,h61,h62,h63,h64,h65,(λj o=>match j,o with|0,_=>oo|1,_=>o9|2,_=>u|3,_=>O|4,_=>o6|5,_=>oy|_+6,h=>Xa h 01),(λj o=>match j,o with|0,_=>ol|1,_=>re|2,_=>rf|3,_=>Q|4,_=>on|5,_=>px|_+6,h=>Xa h 01),(λj o=>match j,o with|0,_=>J|1,_=>s|2,_=>nv|3,_=>qt|4,_=>qi|5,_=>o7|_+6,h=>Xa h 01),(λj o=>match j,o with|0,_=>qv|1,_=>x|2,_=>qy|3,_=>o5|4,_=>rj|5,_=>qw|6,_=>qz|7,_=>oz|8,_=>ni|_+9,h=>Xa h 01),(λj o=>match j,o with|0,_=>nu|1,_=>rl|2,_=>rb|3,_=>o0|4,_=>E|5,_=>qa|6,_=>pi|7,_=>M|8,_=>om|_+9,h=>Xa h 01),(λj o=>match j,o with|0,_=>qo|1,_=>I|2,_=>T|3,_=>sd|4,_=>o8|5,_=>qd|6,_=>qb|7,_=>oq|8,_=>oh|_+9,h=>Xa h 01),(λj o=>match j,o with|0,_=>oi|1,_=>pd|2,_=>rq|3,_=>pk|4,_=>L|5,_=>nj|6,_=>sf|7,_=>qf|8,_=>v|_+9,h=>Xa h 01),(λj o=>match j,o with|0,_=>ph|1,_=>pq|2,_=>rc|3,_=>pj|4,_=>qg|5,_=>ou|6,_=>qe|7,_=>ny|8,_=>qj|_+9,h=>Xa h 01),(λj o=>match j,o with|0,_=>o4|1,_=>ql|2,_=>qh|3,_=>C|4,_=>rh|5,_=>U|6,_=>pz|7,_=>og|8,_=>ox|_+9,h=>Xa h 01),h75,h76,h77,h78,h79,h80⟩⟩
end K57
open PySem PySem.W PyProof.Rows
set_option hygiene false in
local macro_rules
| `(tactic|exact_mod_cast 0) => `(tactic|((try dsimp only[L2.KOf]);refine' L2.dfn_mk KX Gq ?a ?l ?c ?k (λ_ _ _ _ _ _=>by first|exact L2.fit0 rfl|exact L2.fit1 λ_=>rfl|exact L2.fit2 λ_ _=>rfl|exact L2.fit3 λ_ _ _=>rfl|exact L2.fit4 λ_ _ _ _=>rfl);((case a=>k_is);(case l=>k_is);(case c=>k_is);(case k=>k_is))))
set_option maxHeartbeats 0 in
theorem PySem.Challenge.cw_setsays_k57_lines_refused_holds : PySem.Challenge.rw_setsays_k57_lines_refused.Holds := by
 apply Tp ?_
 k_fill
 apply L2.walk_ofT (l:=PySem.Challenge.rw_setsays_k57_lines_refused) (n:=63) (k:=37) (x:="_law_script") (CX:=L2.CX0) (sp:=K57.sp_law) R (by decide) R ⟨R,by decide,by decide⟩ (λw h Y=>PySem.W.km_in_of Y) ?F (λ_ _ _ a ns hl hO hS=>⟨a,ns,R,hS,hl,hO,λ_=>rfl⟩) λ_ _ _ _ z=>z
 case F =>
  intro w mg fa h KX Gq hmg;obtain⟨tw,g_TELLING_WORDS,t_TELLING_WORDS⟩:∃q,L2.GlV mg "TELLING_WORDS" (.ref q)/\∀H,L2.SqT (L2.KOf KX) H q [.str "some",.str "all"]:=by
   dsimp only[L2.KOf];refine' L2.glt_mk KX Gq 04 04 (by decide) (by show .cons ⟨_,R⟩ 98)
  obtain⟨rw,g_TREE_WORDS,t_TREE_WORDS⟩:∃q,L2.GlV mg "TREE_WORDS" (.ref q)/\∀H,L2.SqT (L2.KOf KX) H q [.str "left",.str "right",.str "above"]:=by
   dsimp only[L2.KOf];refine' L2.glt_mk KX Gq 04 04 (by decide) (by show .cons ⟨_,R⟩ (.cons ⟨_,R⟩ 98))
  obtain⟨ow,g_ROW_WORDS,t_ROW_WORDS⟩:∃q,L2.GlV mg "ROW_WORDS" (.ref q)/\∀H,L2.SqT (L2.KOf KX) H q [.str "ahead",.str "next"]:=by
   dsimp only[L2.KOf];refine' L2.glt_mk KX Gq 04 04 (by decide) (by show .cons ⟨_,R⟩ 98)
  obtain⟨ta,g_TREE_ASKS,t_TREE_ASKS⟩:∃q,L2.GlV mg "TREE_ASKS" (.ref q)/\∀H,L2.SqT (L2.KOf KX) H q [.str "treerooms",.str "treealways"]:=by
   dsimp only[L2.KOf];refine' L2.glt_mk KX Gq 04 04 (by decide) (by show .cons ⟨_,R⟩ 98)
  obtain⟨ff,g_FORMS,f_FORMS⟩:∃q,L2.GlV mg "FORMS" (.ref q)/\SS.Forms (L2.KOf KX) w q:=by
   dsimp only[L2.KOf];refine' SS.forms_mk KX Gq 04 (by decide) 04 (by show⟨⟨_,_,R,R⟩,⟨⟨_,_,R,R⟩,⟨⟨_,_,R,R⟩,⟨⟨_,_,R,R⟩,⟨⟨_,_,R,R⟩,⟨⟨_,_,R,R⟩,⟨⟨_,_,R,R⟩,⟨⟨_,_,R,R⟩,⟨⟨_,_,R,R⟩,⟨⟨_,_,R,R⟩,⟨⟨_,_,R,R⟩,⟨⟨_,_,R,R⟩,⟨⟨_,_,R,R⟩,trivial⟩⟩⟩⟩⟩⟩⟩⟩⟩⟩⟩⟩⟩) ?he;refine' .cons ⟨⟨_,R⟩,_,R,SS.sqt_mk 04 (by decide) (by show .cons ⟨_,R⟩ 98)⟩ (.cons ⟨⟨_,R⟩,_,R,SS.sqt_mk 04 (by decide) (by show .cons ⟨_,R⟩ 98)⟩ (.cons ⟨⟨_,R⟩,_,R,SS.sqt_mk 04 (by decide) (by show .cons ⟨_,R⟩ 98)⟩ (.cons ⟨⟨_,R⟩,_,R,SS.sqt_mk 04 (by decide) (by show .cons ⟨_,R⟩ 98)⟩ (.cons ⟨⟨_,R⟩,_,R,SS.sqt_mk 04 (by decide) (by show .cons ⟨_,R⟩ 98)⟩ (.cons ⟨⟨_,R⟩,_,R,SS.sqt_mk 04 (by decide) (by show .cons ⟨_,R⟩ 98)⟩ (.cons ⟨⟨_,R⟩,_,R,SS.sqt_mk 04 (by decide) (by show .cons ⟨_,R⟩ 98)⟩ (.cons ⟨⟨_,R⟩,_,R,SS.sqt_mk 04 (by decide) (by show .cons ⟨_,R⟩ 98)⟩ (.cons ⟨⟨_,R⟩,_,R,SS.sqt_mk 04 (by decide) (by show .cons ⟨_,R⟩ (.nil))⟩ (.cons ⟨⟨_,R⟩,_,R,SS.sqt_mk 04 (by decide) (by show .cons ⟨_,R⟩ 98)⟩ (.cons ⟨⟨_,R⟩,_,R,SS.sqt_mk 04 (by decide) (by show .cons ⟨_,R⟩ 98)⟩ (.cons ⟨⟨_,R⟩,_,R,SS.sqt_mk 04 (by decide) (by show .cons ⟨_,R⟩ 98)⟩ (.cons ⟨⟨_,R⟩,_,R,SS.sqt_mk 04 (by decide) (by show .cons ⟨_,R⟩ 98)⟩ (.nil)))))))))))))
  obtain⟨pa,g_PARTS,f_PARTS⟩:∃q,L2.GlV mg "PARTS" (.ref q)/\SM.PartsD (L2.KOf KX) w q:=by
   dsimp only[L2.KOf];refine' SM.parts_mk KX Gq 04 (by decide) 04 (by show⟨⟨_,_,R,R⟩,⟨⟨_,_,R,R⟩,⟨⟨_,_,R,R⟩,⟨⟨_,_,R,R⟩,⟨⟨_,_,R,R⟩,⟨⟨_,_,R,R⟩,trivial⟩⟩⟩⟩⟩⟩) (by show .cons ⟨⟨_,R⟩,⟨_,R⟩⟩ (.cons ⟨⟨_,R⟩,⟨_,R⟩⟩ (.cons ⟨⟨_,R⟩,⟨_,R⟩⟩ (.cons ⟨⟨_,R⟩,⟨_,R⟩⟩ (.cons ⟨⟨_,R⟩,⟨_,R⟩⟩ (.cons ⟨⟨_,R⟩,⟨_,R⟩⟩ (.nil)))))))
  obtain⟨cj,g_JUST_ONCE,c_JUST_ONCE⟩:∃q,L2.GlV mg "JUST_ONCE" (.ref q)/\SM.CMach (L2.KOf KX) q SM.justM:=by
   dsimp only[L2.KOf];refine' SM.cm_mk (ls:=[_,_,_]) KX Gq 04 (SS.sqt_mk 04 ?cj_zp (by show .cons ⟨_,R⟩ (.cons R (.cons R (.nil))))) (SS.sqt_mk 04 ?cj_zb (by show .cons R (.cons R (.cons R (.nil))))) (.cons (SS.sqt_mk 04 ?cj_z0 (by show .cons ⟨_,R⟩ 98)) (.cons (SS.sqt_mk 04 ?cj_z1 (by show .cons ⟨_,R⟩ 98)) (.cons (SS.sqt_mk 04 ?cj_z2 (by show .cons ⟨_,R⟩ 98)) (.nil)))) (SS.sqt_mk 04 ?cj_zc (by show .cons R (.cons R (.cons R (.nil)))))
   all_goals decide
  obtain⟨ca,g_ANY_ROW,c_ANY_ROW⟩:∃q,L2.GlV mg "ANY_ROW" (.ref q)/\SM.CMach (L2.KOf KX) q SM.anyM:=by
   dsimp only[L2.KOf];refine' SM.cm_mk (ls:=[_]) KX Gq 04 (SS.sqt_mk 04 ?ca_zp (by show .cons ⟨_,R⟩ (.cons R (.cons R (.nil))))) (SS.sqt_mk 04 ?ca_zb (by show .cons R (.nil))) (.cons (SS.sqt_mk 04 ?ca_z0 (by show .cons ⟨_,R⟩ (.nil))) (.nil)) (SS.sqt_mk 04 ?ca_zc (by show .cons R (.nil)))
   all_goals decide
  obtain⟨ce,g_EACH_IN,c_EACH_IN⟩:∃q,L2.GlV mg "EACH_IN" (.ref q)/\SM.CMach (L2.KOf KX) q SM.eachM:=by
   dsimp only[L2.KOf];refine' SM.cm_mk (ls:=[_,_]) KX Gq 04 (SS.sqt_mk 04 ?ce_zp (by show .cons ⟨_,R⟩ (.cons R (.cons R (.nil))))) (SS.sqt_mk 04 ?ce_zb (by show .cons R (.cons R (.nil)))) (.cons (SS.sqt_mk 04 ?ce_z0 (by show .cons ⟨_,R⟩ (.cons ⟨_,R⟩ (.cons ⟨_,R⟩ 98)))) (.cons (SS.sqt_mk 04 ?ce_z1 (by show .cons ⟨_,R⟩ (.cons ⟨_,R⟩ (.cons ⟨_,R⟩ 98)))) (.nil))) (SS.sqt_mk 04 ?ce_zc (by show .cons R (.cons R (.nil))))
   all_goals decide
  obtain⟨co,g_COMES_AHEAD,c_COMES_AHEAD⟩:∃q,L2.GlV mg "COMES_AHEAD" (.ref q)/\SM.CMach (L2.KOf KX) q SM.aheadM:=by
   dsimp only[L2.KOf];refine' SM.cm_mk (ls:=[_,_,_]) KX Gq 04 (SS.sqt_mk 04 ?co_zp (by show .cons ⟨_,R⟩ (.cons R (.cons R (.nil))))) (SS.sqt_mk 04 ?co_zb (by show .cons R (.cons R (.cons R (.nil))))) (.cons (SS.sqt_mk 04 ?co_z0 (by show .cons ⟨_,R⟩ (.cons ⟨_,R⟩ (.cons ⟨_,R⟩ 98)))) (.cons (SS.sqt_mk 04 ?co_z1 (by show .cons ⟨_,R⟩ (.cons ⟨_,R⟩ (.cons ⟨_,R⟩ 98)))) (.cons (SS.sqt_mk 04 ?co_z2 (by show .cons ⟨_,R⟩ (.cons ⟨_,R⟩ (.cons ⟨_,R⟩ 98)))) (.nil)))) (SS.sqt_mk 04 ?co_zc (by show .cons R (.cons R (.cons R (.nil)))))
   all_goals decide
  obtain⟨cn,g_COMES_NEXT,c_COMES_NEXT⟩:∃q,L2.GlV mg "COMES_NEXT" (.ref q)/\SM.CMach (L2.KOf KX) q SM.nextM:=by
   dsimp only[L2.KOf];refine' SM.cm_mk (ls:=[_,_,_,_]) KX Gq 04 (SS.sqt_mk 04 ?cn_zp (by show .cons ⟨_,R⟩ (.cons R (.cons R (.nil))))) (SS.sqt_mk 04 ?cn_zb (by show .cons R (.cons R (.cons R (.cons R (.nil)))))) (.cons (SS.sqt_mk 04 ?cn_z0 (by show .cons ⟨_,R⟩ (.cons ⟨_,R⟩ (.cons ⟨_,R⟩ 98)))) (.cons (SS.sqt_mk 04 ?cn_z1 (by show .cons ⟨_,R⟩ (.cons ⟨_,R⟩ (.cons ⟨_,R⟩ 98)))) (.cons (SS.sqt_mk 04 ?cn_z2 (by show .cons ⟨_,R⟩ (.cons ⟨_,R⟩ (.cons ⟨_,R⟩ 98)))) (.cons (SS.sqt_mk 04 ?cn_z3 (by show .cons ⟨_,R⟩ (.cons ⟨_,R⟩ (.cons ⟨_,R⟩ 98)))) (.nil))))) (SS.sqt_mk 04 ?cn_zc (by show .cons R (.cons R (.cons R (.cons R (.nil))))))
   all_goals decide
  obtain⟨ktw,krw,kow,kfa,kpa,kta,kcj,kca,kce,kco,kcn,kcSayError,cs,T⟩:∃(ktw krw kow kfa kpa kta kcj kca kce kco kcn kcSayError:Ad) (cs:List Ad),K57.Txt (L2.KOf KX) mg w ktw krw kow kfa kpa kta kcj kca kce kco kcn kcSayError cs:=by
   dsimp only[L2.KOf];refine' K57.txt_mk 022 022 022 022 022 022 022 022 022 022 022 022 022 022 022 022 022 022 022 022 (L2.glv_mk KX Gq 04 (by show⟨_,R⟩)) (L2.glv_mk KX Gq 04 (by show⟨_,R⟩)) (L2.glv_mk KX Gq 04 (by show⟨_,R⟩)) (L2.glv_mk KX Gq 04 (by show⟨_,R⟩)) (L2.glv_mk KX Gq 04 (by show⟨_,R⟩)) (L2.glv_mk KX Gq 04 (by show⟨_,R⟩)) (L2.glv_mk KX Gq 04 (by show⟨_,R⟩)) (L2.glv_mk KX Gq 04 (by show⟨_,R⟩)) (L2.glv_mk KX Gq 04 (by show⟨_,R⟩)) (L2.glv_mk KX Gq 04 (by show⟨_,R⟩)) (L2.glv_mk KX Gq 04 (by show⟨_,R⟩)) g_TELLING_WORDS t_TELLING_WORDS g_TREE_WORDS t_TREE_WORDS g_ROW_WORDS t_ROW_WORDS g_TREE_ASKS t_TREE_ASKS g_FORMS f_FORMS g_PARTS f_PARTS g_JUST_ONCE c_JUST_ONCE g_ANY_ROW c_ANY_ROW g_EACH_IN c_EACH_IN g_COMES_AHEAD c_COMES_AHEAD g_COMES_NEXT c_COMES_NEXT ⟨_,L2.glv_mk KX Gq 04 (by show R)⟩ ⟨_,L2.glv_mk KX Gq 04 (by show R)⟩ (PySem.W.mg_of KX Gq 04) (PySem.W.mg_of KX Gq 04) (PySem.W.mg_of KX Gq 04) (PySem.W.mg_of KX Gq 04) (PySem.W.mg_of KX Gq 04) (PySem.W.mg_of KX Gq 04) (PySem.W.mg_of KX Gq 04) (PySem.W.mg_of KX Gq 04) (PySem.W.mg_of KX Gq 04) (PySem.W.mg_of KX Gq 04) ⟨04,04,04⟩ ⟨04,04,04,04,04,04⟩ ⟨04,04,04,04,04,04⟩ ⟨04,04,04,04,04,04⟩ ⟨04,04,04,04,04,04⟩ ⟨04,04,04,04,04,04⟩ ⟨04,04,04,04,04,04⟩ 04 04 04 04 04 04 44 44 44 44 44 44 44 44 44 44 44 44 44 44 44 44 44 44 44 44 44 44 44 44 44 44 44 44 44 44 44 44 44 44 44 44 44 44 44 44 44 44 44 44 44 44 44 44 44 44 44 44 44 44 44 44 44 44 44 44 (by k_exc) (by k_exc) (by k_exc) (by k_exc) (by k_exc) (by k_exc)
  obtain⟨c_reduced,t_reduced,c_paired,t_paired,c_met,t_met,c_maker,t_maker,Vc,Ta,Qas,Tz,n_reduced,n_paired,n_met,n_maker,ne_paired_reduced,ne_met_reduced,ne_met_paired,ne_maker_reduced,ne_maker_paired,ne_maker_met⟩:∃c_reduced t_reduced c_paired t_paired c_met t_met c_maker t_maker,L2.DfnC (L2.KOf KX) mg "reduced" K57.Tv ["machine"] c_reduced t_reduced/\L2.DfnC (L2.KOf KX) mg "paired" K57.T8 ["one","other","is_end"] c_paired t_paired/\L2.DfnC (L2.KOf KX) mg "met" K57.Qb1 ["one","other"] c_met t_met/\L2.DfnC (L2.KOf KX) mg "maker" K57.P8 ["bare_of","fitting_of","met","joined","flipped","dropped"] c_maker t_maker/\(L2.KOf KX).lookup t_reduced=B/\(L2.KOf KX).lookup t_paired=B/\(L2.KOf KX).lookup t_met=B/\(L2.KOf KX).lookup t_maker=B/\t_paired≠t_reduced/\t_met≠t_reduced/\t_met≠t_paired/\t_maker≠t_reduced/\t_maker≠t_paired/\t_maker≠t_met:=by
   dsimp only[L2.KOf];refine'⟨_,_,_,_,_,_,_,_,L2.dfnc_mk KX Gq 04 04 04 04 (L2.kcode_mk 04 R R R R R (by decide)) (λ_ _ _ _ _ _=>L2.fit1 λ_=>rfl),L2.dfnc_mk KX Gq 04 04 04 04 (L2.kcode_mk 04 R R R R R (by decide)) (λ_ _ _ _ _ _=>L2.fit3 λ_ _ _=>rfl),L2.dfnc_mk KX Gq 04 04 04 04 (L2.kcode_mk 04 R R R R R (by decide)) (λ_ _ _ _ _ _=>L2.fit2 λ_ _=>rfl),L2.dfnc_mk KX Gq 04 04 04 04 (L2.kcode_mk 04 R R R R R (by decide)) (λ_ _ _ _ _ _=>L2.fit6 λ_ _ _ _ _ _=>rfl),?n0,?n1,?n2,?n3,(by decide),(by decide),(by decide),(by decide),(by decide),(by decide)⟩
   all_goals first|k_is|kernel_rfl
  let L:∃fd:FuncData,(∀(s:Shared) (v:Va),BindsTo s fd ⟨[v],[]⟩ [("_law_script",v)])/\L2.Fun (L2.KOf KX) "law" "law" K57.Qcd fa fd:=by
   dsimp only[L2.KOf];refine' L2.law_mk KX Gq hmg 04 04 04 04 ?b
   showλs u =>.of_eq R
  obtain⟨fd,hb,F⟩:=L;show⟨fd,[(t_reduced,K57.qs_reduced),(t_paired,K57.qs_paired),(t_met,K57.qs_met),(t_maker,K57.qs_maker)],hb,L2.ts_all (List.forall_mem_cons.mpr ⟨⟨Vc.tab (by decide+kernel),n_reduced⟩,(List.forall_mem_cons.mpr ⟨⟨Ta.tab (by decide+kernel),n_paired⟩,(List.forall_mem_cons.mpr ⟨⟨Qas.tab (by decide+kernel),n_met⟩,(List.forall_mem_cons.mpr ⟨⟨Tz.tab (by decide+kernel),n_maker⟩,λ_ z=>nomatch z⟩)⟩)⟩)⟩),λbase _ _ kb=>K57.all T 25 25 25 25 25 25 25 25 Vc 25 25 25 25 Ta 25 Qas 25 25 Tz 25 25 25 25 25 25 25 25 25 25 25 25 25 25 25 25 25 25 25 25 25 25 25 25 25 25 25 25 25 25 25 25 25 25 25 25 25 25 25 25 25 25 25 25 25 25 25 25 25 25 25 25 25 25 25 25 25 25 25 25 ne_paired_reduced ne_met_reduced ne_met_paired ne_maker_reduced ne_maker_paired ne_maker_met kb F⟩
