import PyProof.Rows.All
import Wide.All
import KE.KNestM
import KE.RegKIsAll
import OpenK.KOwn
import OpenK.KLine
import Wide.FinOn
import Open.Tops
import Lean
import PyProof.EqAt
import PyProof.EqKinds
import PyProof.TupleCall
import KE.KEqDict
import KE.KDictOf
import KE.KItem
import KE.IntBitsLaws
import KE.KEqSeq
import KE.KIntText
import KE.IntTextLaws
import PySem.Challenge.RW_feastwheel_k97_whole_by_remainders
set_option Elab.async false
set_option linter.all false
set_option compiler.extract_closed false
open Lean in
local macro_rules | `(command| #print $s:str) => do
  let mut xs := #[]
  for g in s.getString.splitOn ";" do
    let l := g.splitOn " "
    let mut n := 0
    for d in l.tail! do
      n := n + d.toNat!
      xs := xs.push (mkIdent (.mkSimple s!"tw{hash (Name.mkStr2 "sh" s!"{l.head!}_{n}")}"))
  `(structure $(mkIdent `Fast) : Prop where ($xs* : True))
open Lean in
local macro_rules | `(tactic| walk_at $s:str) => do
  let k := s.getString
  unless k == "K" || k == "A" do Macro.throwUnsupported
  let mut r := #[]
  let mut e := 0
  let mut d : Int := 0
  for x in "3.1843 11.-1851 6.0.2 0.195 0.-195 2.4 6.0.3 2.4 6.0 1.0.2 1.0.5 2.4 6.0.3 2.4 6.0 1.0.2 1.0.5 2.4 6.0 1.0.2 1.0.5 2.4 6.0.3 2.4 6.0.3 2.4 6.0.3 2.4 6.0.3 2.4 6.0 1.0.2 1.0.5 2.4 6.0.3 2.0 2.0.3 1.0.2 1.0.3 2.0.3 1.0.2 1.0.2 7.3 1.0.2 1.0.2 29.0 1.0.2 1.0.3 1.0.2 1.0.3 1.0.2 1.0.3 1.0.2 1.0.2 14.3 1.0.2 1.0.3 1.0.2 1.0.3 2.0.3 1.0.2 1.0.3 1.0.2 1.0.3 1.0.2 1.0.3 1.0.2 1.0.3 1.0.2 1.0.3 1.0.2 1.0.3 1.0.2 1.0.2 0.3 1.0.2 1.0.3 1.0.2 1.0.3 1.0.2 1.0.3 1.0.2 1.0.3 1.0.2 1.0.3 1.0.2 1.0.3 1.0.2 1.0.3 1.0.2 1.0.3 1.0.2 1.0.2 7.0 1.0.2 1.0.3 1.0.2 1.0.2 0.3 1.0.2 1.0.2 14.0 1.0.2 1.0.3 2.0.3 1.0.2 1.0.3 2.0.3 2.0.3 1.0.2 1.0.2 7.3.2 1.0.2 1.0.3 2.0.3 1.0.2 1.0.3 1.0.2 1.0.3 1.0.2 1.0.7 9.3 1.0.2 1.0.3 1.0.2 1.0.4 0.189 0.-189.2 12.0 1.0.2 1.0.2 0.4 6.0.2 1.0.2 1.0.3 1.0.2 1.0.3 1.0.2 1.0.3 1.0.2 1.0.3 1.0.2 1.0.3 2.0.5 9.7 6.0 1.0.2 1.0.3 1.0.2 1.0.3 1.0.2 1.0.3 2.0.3 1.0.2 1.0.3 1.0.2 1.0.5 2.3 2.0.3 1.0.2 1.0.3 2.0.3 1.0.2 1.0.3 1.0.2 1.0.3 1.0.2 1.0.2 0.4 6.0 1.0.2 1.0.3 1.0.2 1.0.3 1.0.2 1.0.3 1.0.2 1.0.5 9.3 1.0.2 1.0.3 1.0.2 1.0.3 1.0.2 1.0.3 1.0.2 1.0.3 1.0.2 1.0.3 1.0.2 1.0.3 1.0.2 1.0.3 1.0.2 1.0.3 1.0.2 1.0.3 1.0.2 1.0.4 1.0.2 1.0.2 0.3 1.0.2 1.0.3 1.0.2 1.0.3 1.0.2 1.0.3 1.0.2 1.0.3 2.0.3 1.0.2 1.0.3 1.0.2 1.0.3 2.0.2 7.3.2 1.0.2 1.0.3 1.0.2 1.0.3 1.0.2 1.0.3 1.0.2 1.0.3 1.0.2 1.0.3 1.0.2 1.0.4 0.375 0.-375.2 2.4 6.0 1.0.2 1.0.5 2.4 6.0 1.0.2 1.0.5 2.0 1.0.2 1.0.2 0.4 6.0 1.0.2 1.0.5 2.0 1.0.2 1.0.3 1.0.2 1.0.2 0.4 6.0.2 1.0.2 1.0.5 2.4 6.0 1.0.2 1.0.5 2.4 6.0 1.0.2 1.0.5 2.4 6.0 1.0.2 1.0.5 2.4 6.0 1.0.2 1.0.5 2.4 6.0 1.0.2 1.0.5 2.4 6.0 1.0.2 1.0.5 2.4 6.0 1.0.2 1.0.5 2.4 6.0 1.0.2 1.0.5 2.4 6.0 1.0.2 1.0.5 2.4 6.0 1.0.2 1.0.5 2.4 6.0 1.0.2 1.0.5 2.4 6.0 1.0.2 1.0.5 2.0 7.3 1.0.2 1.0.3 1.0.2 1.0.3 1.0.2 1.0.7 2.0 1.0.2 1.0.3 1.0.2 1.0.3 1.0.2 1.0.2 0.3 1.0.2 1.0.3 1.0.2 1.0.3 1.0.2 1.0.3 1.0.2 1.0.3 1.0.2 1.0.3 1.0.2 1.0.3 1.0.2 1.0.3 1.0.2 1.0.3 1.0.2 1.0.3 1.0.2 1.0.3 1.0.2 1.0.3 1.0.2 1.0.2 19.6.18 1.0.2 1.0.2 1.0.2 0.5 1.0.2 1.0.3 1.0.2 1.0.3 1.0.2 1.0.2 7.0 1.0.2 1.0.3 1.0.2 1.0.3 1.0.2 1.0.3 1.0.2 1.0.3 1.0.2 1.0.3 1.0.2 1.0.3 1.0.2 1.0.3 1.0.2 1.0.3 1.0.2 1.0.2 0.3 1.0.2 1.0.3 1.0.2 1.0.3 1.0.2 1.0.4 1.0.2 1.0.3 1.0.2 1.0.2 0.5 1.0.2 1.0.3 2.0.3 1.0.2 1.0.2 7.0 1.0.2 1.0.3 2.0.7 2.0 1.0.2 1.0.2 0.3 1.0.2 1.0.3 1.0.2 1.0.3 1.0.2 1.0.3 1.0.2 1.0.3 2.0.3 2.0.3 2.0.2".splitOn " " do
    let y := (x.splitOn ".").map (·.toInt!)
    e := e + y[0]!.toNat
    d := d + y[1]!
    for _ in [0:(y.getD 2 1).toNat] do
      r := r.push (Syntax.mkNumLit (toString e), mkIdent (.mkSimple s!"o_{e + d}"))
      e := e + 1
  if k == "A" then `(tactic| exact [$(r.map (·.1)),*])
  else `(tactic| exact $(<- r.foldrM (fun p z => `((nat_lit $(p.1), $(p.2) $(mkIdent `P)) :: $z)) (<- `([]))))
namespace PySem.W
set_option genInjectivity false in
#print "tree 4 15 16 23 16 23 23 16 16 16 16 23 40 81 78 87 60 51 48 57 10 56 41 51 81 55 60 23 30 37 24 23 23 23 23 23 23 23 23 23 23 23 24 59 87 22 30 96 39 57 46;o 3 2 4 3 3 1 5 2 3 3 3 1 4 2 3 3 4 2 1 1 2 1 4 2 3 3 3 1 4 2 3 3 6 1 1 2 1 4 2 3 3 4 2 1 1 2 1 4 2 3 3 3 1 4 2 3 3 3 1 4 2 3 3 3 1 4 2 3 3 3 1 4 2 3 3 6 1 1 2 1 4 2 3 3 3 1 2 3 1 1 5 1 1 3 1 1 5 1 1 2 4 2 1 1 5 1 1 5 1 1 3 2 1 1 3 1 1 3 1 1 3 1 1 5 1 1 5 1 1 3 2 1 1 5 1 1 3 2 1 1 2 4 2 1 1 5 1 1 3 2 1 1 3 1 1 5 1 1 5 1 1 3 2 1 1 5 1 1 3 2 1 1 5 1 1 3 2 1 1 2 4 2 1 1 3 2 1 1 3 2 1 1 3 2 1 1 5 1 1 5 1 1 3 2 1 1 3 2 1 1 3 2 1 1 3 2 1 1 3 2 1 1 3 2 1 1 2 4 2 1 1 3 2 1 1 3 2 1 1 5 1 1 3 1 1 5 1 1 3 1 1 3 1 1 3 2 1 1 2 4 3 5 2 1 1 3 1 1 5 1 1 5 1 1 3 2 1 1 1 1 1 1 5 4 3 4 2 1 1 3 2 1 1 2 1 1 6 1 1 3 1 1 5 1 1 2 2 3 3 5 2 1 1 5 1 1 5 1 1 3 2 1 1 5 1 1 3 1 1 1 1 1 4 6 1 1 2 2 3 3 4 2 1 1 5 1 1 5 1 1 3 1 1 3 2 1 1 3 2 1 1 1 1 1 4 4 1 1 3 2 1 1 3 1 1 3 2 1 1 3 2 1 1 5 1 1 2 2 3 3 4 2 1 1 3 2 1 1 5 1 1 5 1 1 1 1 1 5 2 1 1 2 4 2 1 1 3 2 1 1 3 2 1 1 3 2 1 1 3 2 1 1 3 2 1 1 3 2 1 1 3 2 1 1 3 2 1 1 3 2 1 1 4 2 1 1 2 4 2 1 1 3 2 1 1 3 2 1 1 3 2 1 1 3 1 1 3 2 1 1 3 2 1 1 3 1 1 2 4 3 5 2 1 1 5 1 1 5 1 1 5 1 1 3 2 1 1 3 2 1 1 1 1 1 1 5 2 3 3 6 1 1 2 1 4 2 3 3 6 1 1 2 1 5 2 1 1 2 2 3 3 4 2 1 1 2 1 7 1 1 3 2 1 1 2 2 3 3 5 2 1 1 2 1 4 2 3 3 6 1 1 2 1 4 2 3 3 4 2 1 1 2 1 4 2 3 3 4 2 1 1 2 1 4 2 3 3 4 2 1 1 2 1 4 2 3 3 4 2 1 1 2 1 4 2 3 3 4 2 1 1 2 1 4 2 3 3 4 2 1 1 2 1 4 2 3 3 4 2 1 1 2 1 4 2 3 3 4 2 1 1 2 1 4 2 3 3 4 2 1 1 2 1 4 2 3 3 4 2 1 1 2 1 4 2 3 3 4 2 1 1 2 1 3 2 4 3 6 1 1 5 1 1 5 1 1 1 1 1 1 6 2 1 1 5 1 1 5 1 1 2 6 1 1 5 1 1 3 2 1 1 3 2 1 1 3 2 1 1 3 2 1 1 5 1 1 3 2 1 1 3 2 1 1 3 2 1 1 3 2 1 1 3 2 1 1 2 6 1 1 5 1 1 3 1 1 2 2 1 1 4 2 2 1 2 1 1 4 5 1 1 4 6 1 1 5 1 1 5 1 1 5 1 1 5 1 1 5 1 1 5 1 1 5 1 1 5 1 1 3 2 1 1 3 2 1 1 5 1 1 5 1 1 2 6 1 1 5 1 1 5 1 1 1 3 2 1 1 5 1 1 4 4 2 1 1 3 1 1 3 2 1 1 3 3 6 1 1 3 1 1 2 1 1 1 7 1 1 2 6 1 1 3 2 1 1 3 2 1 1 3 2 1 1 3 1 1 3 1 1 3 1 1;sts 4 33 23 16 23 87 23 40 81 78 87 60 51 48 57 10 56 41 51 81 55 60 23 30 37 24 23 23 23 23 23 23 23 23 23 23 23 24 59 87 22 32 94 41 55"
end PySem.W
namespace PySem.W.Fast
def tw8075686516151198577:PySem.Program:=PySem.Challenge.pw_feastwheel_k97_whole_by_remainders
theorem te8075686516151198577:PySem.Challenge.pw_feastwheel_k97_whole_by_remainders=tw8075686516151198577:=rfl
end PySem.W.Fast
open PySem PySem.W PyProof.Rows in
set_option maxRecDepth 100000 in
set_option maxHeartbeats 0 in
open_shared sh for PySem.Challenge.pw_feastwheel_k97_whole_by_remainders leaving 0
namespace Hd
open PySem PySem.W PySem.Calls PyProof.Rows sh
set_option maxRecDepth 100000
set_option maxHeartbeats 0
theorem ws(h:PySem.Challenge.rw_feastwheel_k97_whole_by_remainders.row.wellSaid=true->PySem.Challenge.rw_feastwheel_k97_whole_by_remainders.row.Holds):PySem.Challenge.rw_feastwheel_k97_whole_by_remainders.Holds:=by
  w_on; o_law; exact h (by assumption)
noncomputable abbrev pw:Program:=PySem.Challenge.pw_feastwheel_k97_whole_by_remainders
noncomputable def vw:Program:={pw with main:={pw.main with body:=pw.main.body.drop 201}}
noncomputable def lo:List Str:=(["FeastError","NoNumber","TooLong","NoMeasure","NoDate","InGap","NoChange","NoCycle","NoText","NoRule","NoName","NoRow","FIGURES","MOST_FIGURES","LETTERS","MOST_LETTERS","MOST_SIGNS","is_name","is_readable","is_number","read_number","read_place","read_date","place_text","date_text","MOST_ROWS","widest","names_on","almanac","refuse_below_one","divisor","equation","common","met","ahead","LONGEST","PIECE","refuse_too_long","round_by","days_in","on","on_rounds","full_bits","bits_by","stretched","primes_of","comes_again","least","common_size","both","either","unlike","without","other_days","later","folded","next_day","last_day","ones_in","days_ahead","how_many","place_of_one","nth_day","GREATEST_BASE","MOST_TERMS","GREATEST_N","term_on","signs_upto","is_term","least_length","refuse_measure","period_of","Measure","MOST_MONTHS","LONGEST_MONTH","Calendar","term_text","term_words","refuse_months","Sun","refuse_part","Moon","read_numbers","read_term","read_terms","read_sun","read_moon","read_calendar","Change","moved","MOST_PAIRS","first_parted","same","first_of_pairs","first_met","paper_of","meeting","within","refuse_wanted","days_of_month","days_of_year","dated","gathered","upon","until","till","nearer_ahead","near","kth","every","Rule","All","No","each_text","Each","wanted_text","dated_text","Dated","Not","Both","Either","But","Unlike","Later","Upon","Until","Near","Till","Kth","Every","MOST_BRACKETS","PAIR_WORDS","Reader","words_of","take_word","take_number","take_wanted","take_each","take_date","take_numbered","take_every","take_pair","take_within","take_plan","made_date","made_pair","made","read_rule","told_by_one","parts_in","shorter","FORMS","tell_date","tell_day","tell_move","tell_on","day_or_never","tell_next","tell_last","tell_nth","tell_count","tell_size","tell_same","paper_text","tell_meet","tell_within","tell_shorter","tell_show","tell_almanac","ANSWERS","words_of_row","kept_by","looked_up","named_rules","keep","Desk","_law_cell_at","_law_divisor","_law_leaf","_law_grown","_law_text","_law_joined","_law_parted"]:List String).map Str.ofString
noncomputable def bd:List Stmt:=behindTheImports pw
noncomputable def cd:Code:=.body bd sh.env_1
noncomputable def S0(w:World)(os:OsState):Shared:=⟨boot_heap w.params,Array.mk [],boot_drawn,boot_toks,os⟩
noncomputable def tB(w:World)(os:OsState):SharedT:=⟨sh.tree_4 w.params,15,{},Array.mk [],{},187,os⟩
noncomputable def tK(w:World)(os:OsState):SharedT:=⟨sh.tree_1890 w.params,1718,{},Array.mk [],{},2605,os⟩
noncomputable abbrev hK(w:World)(os:OsState):Shared:=(tK w os).abs
noncomputable def xt(s:Shared):Bool:=xlAt vw [] s&&recOk (RowW.records PySem.Challenge.rw_feastwheel_k97_whole_by_remainders.row.toRowW) s
section
variable(w:World)(os:OsState)
theorem pre:topGo treeTable pw w 11 (some (.ref 6)) 12 (S0 w os) (topStub pw)=some ((tB w os).abs,⟨denote treeTable cd,cd,⟨0,0,0,0⟩,[topFrame ⟨0,0,0,0⟩]⟩):=by kernel_rfl
theorem block:segRun treeTable pw w 11 (some (.ref 6)) 1 1 (tB w os).abs (blockOf bd sh.env_1 cd ⟨0,0,0,0⟩ [topFrame ⟨0,0,0,0⟩])=some (.next,(tB w os).abs,cd,⟨0,0,0,0⟩):=by kernel_rfl
theorem fin:topRun treeTable pw w 11 (some (.ref 6)) 2 (tK w os).abs (restOf [] sh.env_1 cd ⟨1102,0,1128,114⟩ [topFrame ⟨0,0,0,0⟩])=some (tK w os).abs:=by kernel_rfl
theorem run:topRun treeTable pw w 11 (some (.ref 6)) 14216 (S0 w os) (topStub pw)=some (tK w os).abs:=go_top (n:=12) (N:=14204) (pre w os) (piece_block (n:=1) (N:=14203) (block w os) (sh.chain pw bd w os [] 2 _ (fin w os)))
theorem siz:((boot_heap w.params).isNs mainGlobals&&(Array.mk []:Array GenState).size==0,(boot_heap w.params).objs.size,(boot_heap w.params).nsMap mainGlobals "__annotations__")=(true,11,some (.ref 6)):=by kernel_rfl
theorem l1:namesBound pw (hK w os).heap=true:=by kernel_rfl
theorem l2:gensDone (hK w os)=true:=by kernel_rfl
theorem l3:laidKept (boot_heap w.params) (hK w os).heap=true:=by kernel_rfl
theorem l0:staticsOk (importedModules pw.main.body) (boot_heap w.params) (hK w os).heap=true:=by kernel_rfl
theorem s1:seen ((recsOf vw).map (·.name)) (ownsOf vw) [] {hK w os with gens:=#[]}=expectedOf vw:=by kernel_rfl
theorem s2:(hK w os).heap.bltView=bltViewBooted:=by kernel_rfl
theorem s3:(hK w os).heap.keysOk (looseW vw lo) ((recsOf vw).map (·.name)) ((litsOf vw).map (·.1)) ((clssOf vw (looseW vw lo)).map (·.name))=true:=by kernel_rfl
theorem s4:(hK w os).heap.accountedOkI (importedModules pw.main.body)=true:=by kernel_rfl
theorem s5:(hK w os).heap.isNs mainGlobals=true:=by kernel_rfl
theorem s6:(hK w os).heap.isNs builtinsNs=true:=by kernel_rfl
theorem s7:tablesOk vw (hK w os).heap=true:=by kernel_rfl
theorem s8:xt (hK w os)=true:=by kernel_rfl
theorem s9:tabsOk vw (hK w os)=true:=by kernel_rfl
theorem t1:pinSeenD vw (drecsOf vw) (hK w os)=pinGoodD (drecsOf vw):=by kernel_rfl
theorem t2:plainSeenE vw (looseW vw lo) (hK w os)=plainGoodE vw (looseW vw lo):=by kernel_rfl
theorem t3:plainSeenD vw lo (hK w os)=plainGoodD vw lo:=by kernel_rfl
theorem t4:wideSeen vw (hK w os)=wideGood vw:=by kernel_rfl
theorem t5:clsSeenW vw lo (hK w os)=clsGoodW vw lo:=by kernel_rfl
end
noncomputable def K(P:Params):Frag:=(nat_lit 2,boot_o_2 P)::(by walk_at"K")
noncomputable def as:List Addr:=2::(by walk_at"A")
theorem mapT{t:BT}{n:Nat}{l:Life}{as:List Addr}(h:(as.all fun a=>Nat.blt a n&&(t.get a).isSome)=true):as.map (absHeap t n l).get?=as.map fun a=>(t.get a).bind alive:=
  List.map_congr_left fun a ha=>by
    have e:=Bool.and_eq_true_iff.mp (List.all_eq_true.mp h a ha);obtain ⟨o,ho⟩:=Option.isSome_iff_exists.mp e.2;rw [abs_get (of_decide_eq_true (by simpa [Nat.blt_eq] using e.1)) ho,ho]; rfl
theorem hy(w:World)(os:OsState):as.map (hK w os).heap.get?=(K w.params).map fun p=>some p.2:=(mapT (t:=sh.tree_1890 w.params) (n:=1718) (l:={}) (by kernel_rfl)).trans (by kernel_rfl)
noncomputable def hk:Hook:=kHook K as (fun _=>by kernel_rfl)
theorem left:LeftO PySem.Challenge.rw_feastwheel_k97_whole_by_remainders.row.prog vw lo xt hk.obs hk.val 99999:=by
  refine LeftO.of_pieces (H₀:=boot_heap) (H₁:=fun P=>absHeap (sh.tree_1890 P) 1718 {}) (gs₀:=Array.mk []) (gs₁:=Array.mk []) (d₀:=boot_drawn) (d₁:={}) (k₀:=boot_toks) (k₁:=2605) (M:=14216) (boot_open (by kernel_rfl) (by kernel_rfl) fun s=>by kernel_rfl) siz run (by kernel_rfl) fun w=>funext fun os=>Prod.ext ?_ (Prod.ext ?_ (hy w os))
  · exact look_both (look_both (look_both (l0 w os) (l1 w os)) (l2 w os)) (l3 w os)
  · show openSeen vw lo (importedModules pw.main.body) xt true (hK w os)=openGood vw lo
    unfold openSeen openGood;rw [s1 w os,s2 w os,s3 w os,s4 w os,s5 w os,s6 w os,s7 w os,s8 w os,s9 w os,t1 w os,t2 w os,t3 w os,t4 w os,t5 w os];rfl
def op(said:PySem.Challenge.rw_feastwheel_k97_whole_by_remainders.row.wellSaid=true):=fun hc=>holds_open (q:=vw) (loose:=lo) (Xt:=xt) (XP:=XL vw []) (Yf:=hk.obs) (Ya:=hk.val) (YP:=hk.says) (N:=99999) left hk.of hk.keeps (fun s e=>xl_of s (Bool.and_eq_true_iff.mp e).1) XL.keeps (by rfl) (by rfl) (by rfl) (fun s e=>recFacts_of (Bool.and_eq_true_iff.mp e).2) (by rfl) said (by decide +kernel) ⟨rfl,rfl,rfl,rfl,rfl,by decide +kernel⟩ (by w_witness2) hc
end Hd
local macro_rules | `(tactic| ac_rfl)=> `(tactic| decide +kernel)
local macro_rules | `(tactic| walk_at"o")=> `(tactic| first | exact Or.inl rfl | exact Or.inr rfl)
local macro_rules | `(tactic| walk_at"s")=> `(tactic| exact ⟨rfl,rfl,rfl,by ac_rfl,rfl,by ac_rfl,by ac_rfl⟩)
set_option maxRecDepth 100000
noncomputable abbrev Fr:=PySem.W.Frag
def jp:=@List.length_map
def js:=@PySem.Heap.get?_push_of_some
def jv:=@PySem.wpAny_bind
def qc:=@Int.emod_lt_of_pos
def qf:=@List.length_append
def qg:=@Int.emod_nonneg
def qh:=@Nat.le_refl
def qk:=@List.mem_cons_self
def qm:=@List.mem_cons
def qo:=@PyProof.Rows.boot_str
def qq:=@List.length_cons
def qr:=@List.mem_cons_of_mem
def qv:=@List.getElem?_eq_getElem
def ze:=@Bool.false_ne_true
def zh:=@List.mem_of_getElem?
def zk:=@Int.toNat_natCast
def zo:=@PySem.Heap.lt_size
def zv:=@Nat.le_trans
def zw:=@PySem.Heap.get?_push_size
def xa:=@PySem.boot_len
def xb:=@List.getElem?_eq_some_iff
def xc:=@List.getElem?_map
def xh:=@Nat.lt_of_lt_of_le
def xi:=@List.size_toArray
def xk:=@List.map_cons
def xo:=@congrArg
def xp:=@PySem.wpAny_pure
def xy:=@List.mem_append_right
def xz:=@if_pos
def ya:=@List.append_nil
def yb:=@List.not_mem_nil
def yi:=@List.map_append
def yk:=@List.mem_map
def yv:=@if_neg
def yy:=@List.take_of_length_le
def ua:=@Nat.shiftRight_eq_div_pow
def ub:=@Nat.lt_of_le_of_lt
def ui:=@PyProof.Rows.callWith_type1
def uj:=@Nat.ne_of_lt
def uk:=@List.drop_of_length_le
def uu:=@List.length_range
def va:=@List.all_eq_true
def vb:=@Nat.eq_of_testBit_eq
def vc:=@Nat.le_of_dvd
def ve:=@PySem.F.plainAttrs_list
def vi:=@List.map_map
def vj:=@List.mem_singleton
def vk:=@Nat.pow_le_pow_right
def vn:=@Nat.le_add_right
def vt:=@PySem.W.mg_none_of
def vv:=@Bool.eq_iff_iff
def vx:=@List.mem_append
def ka:=@Nat.zero_le
def kc:=@Bool.and_eq_true
def ke:=@List.append_assoc
def ki:=@Option.some.inj
def ko:=@Array.length_toList
def kq:=@PySem.wpAny_mono
def kr:=@Nat.testBit_shiftRight
def ku:=@PySem.F.plainAttrs_str
def kx:=@Nat.two_pow_pos
def Jn:=@Int.toNat_of_nonneg
def Qb:=@Int.natCast_emod
def Qr:=@Nat.testBit_and
def Zl:=@List.replicate_succ
def Zp:=@Int.natCast_dvd_natCast
def Zs:=@List.flatMap_cons
def Xs:=@List.takeWhile_append_dropWhile
def ja0:=@List.take_add_one
def ja1:=@Int.emod_emod_of_dvd
def ja2:=@Nat.one_pos
def ja3:=@PySem.Heap.get?_update_other
def ja4:=@Option.map_eq_some_iff
def ja5:=@beq_iff_eq
def ja6:=@List.drop_eq_getElem_cons
def ja7:=@PySem.W.kia_one
def ja8:=@List.length_drop
def ja9:=@List.take_length
def jb0:=@Nat.zero_testBit
def jb1:=@List.dropWhile_cons
def jb2:=@List.length_replicate
def jb3:=@Option.isSome_iff_exists
def jb4:=@PySem.F.slot_list_append
def jb5:=@PySem.F.type_list_append
def jb6:=@Nat.testBit_or
def jb7:=@List.length_eq_zero_iff
def jb8:=@List.sum_cons
def jb9:=@Nat.gcd_pos_of_pos_left
def jc0:=@Nat.testBit_mod_two_pow
def jc1:=@PySem.wpAny_Call_Name_kw
def jc2:=@Nat.gcd_dvd_left
def jc3:=@Nat.mod_eq_of_lt
def jc4:=@Nat.lt_of_succ_lt_succ
def jc5:=@Int.emod_eq_of_lt
def jc6:=@List.filter_eq_self
def jc7:=@Nat.gcd_dvd_right
def jc8:=@PySem.wpAny_truthy_bool
def jc9:=@Nat.lt_irrefl
def jd0:=@Int.mul_le_mul_of_nonneg_right
def jd1:=@List.getElem?_eq_none
def jd2:=@PySem.F.slot_list_extend
def jd3:=@PySem.F.type_list_extend
def jd4:=@PySem.W.callWith_K
def jd5:=@Int.mul_le_mul_of_nonneg_left
def jd6:=@List.getElem_mem
def jd7:=@List.length_take
def jd8:=@Nat.lt_of_not_le
def jd9:=@Nat.testBit_succ
def je0:=@Int.emod_eq_zero_of_dvd
def je1:=@Int.le_of_lt
def je2:=@List.mem_range
def je3:=@PySem.wpAny_seqItems
def je4:=@List.mem_filter
def je5:=@PySem.wpAny_field
def je6:=@PySem.F.slot_str_split
def je7:=@PySem.F.type_str_split
def je8:=@Int.add_mul_emod_self_left
def je9:=@List.getElem?_append_right
def jf0:=@Array.toList_inj
def jf1:=@PySem.Heap.get?_update_self
def jf2:=@Int.natAbs_natCast
def jf3:=@List.length_filter_le
def jf4:=@Nat.mod_mul_right_mod
def jf5:=@Option.toList_some
def jf6:=@PySem.W.methodCall_KW
def jf7:=@PySem.wpAny_setField_rec
def jf8:=@PySem.Heap.size_push
def jf9:=@List.take_succ_eq_append_getElem
def jg0:=@List.mem_append_left
def jg1:=@Int.natCast_add
def jg2:=@List.flatten_cons
def jg3:=@List.length_nil
def jg4:=@PySem.wpAny_passesOwn
def jg5:=@Int.dvd_of_emod_eq_zero
def jg6:=@List.flatMap_append
def jg7:=@Nat.mul_div_cancel_left
def jg8:=@Nat.mul_le_mul_left
def jg9:=@PySem.W.mg_of
def jh0:=@PySem.mem_of_lookup
def jh1:=@PySem.wpAny_callSpecial?_slot
def jh2:=@List.cons_append
def jh3:=@List.filter_cons
def jh4:=@List.take_append_of_le_length
def jh5:=@Int.mul_nonneg
def jh6:=@Int.ediv_eq_zero_of_lt
def jh7:=@Nat.testBit_lt_two_pow
def jh8:=@Int.add_emod_right
def jh9:=@List.filter_append
def ji0:=@Nat.eq_zero_or_pos
def ji1:=@Bool.or_eq_true
def ji2:=@Int.natCast_mul
def ji3:=@Int.natCast_pow
def ji4:=@List.find?_cons
def ji5:=@List.nil_append
def ji6:=@Nat.mod_lt
def ji7:=@Int.ediv_le_self
def ji8:=@Int.gcd_dvd_left
def ji9:=@Int.natCast_ediv
def jj0:=@Nat.lt_succ_self
def jj1:=@Nat.testBit_zero
def jj2:=@List.all_map
def jj3:=@Nat.le_of_eq
namespace L2
open PySem PySem.Spec PyProof.Rows
noncomputable abbrev Key:=Sum Int Str
noncomputable def VH:Key->Value->Bool
 | .inl k,v=>Value.isInt k v
 | .inr x,v=>Value.isStrOf x v
noncomputable def ACe(w:World):Key->Int
 | .inl k=>hashInt k
 | .inr x=>hashStr w x
theorem Du:∀{k:Key} {v:Value},VH k v=true->(∃i t,k=Sum.inl i/\v=Value.int i t)\/(∃x t,k=Sum.inr x/\v=Value.str x t)
 | .inl i,v,h=>by
  obtain⟨t,e⟩:=Value.isInt_shape (k:=i) (v:=v) h;exact .inl ⟨i,t,rfl,e⟩
 | .inr x,v,h=>by
  obtain⟨t,e⟩:=Value.isStrOf_shape (x:=x) (v:=v) h;exact .inr ⟨x,t,rfl,e⟩
theorem iH(i:Int)(t:Tok):VH (.inl i) (.int i t)=true:=by simp[VH,Value.isInt]
theorem iG(x:Str)(t:Tok):VH (.inr x) (.str x t)=true:=by simp[VH,Value.isStrOf]
theorem yh(a b:Int):decide ((Sum.inl a:Key)=Sum.inl b)=(a==b):=by
 by_cases e:a=b
 ·subst e;simp
 ·have h:¬(Sum.inl a:Key)=Sum.inl b:=fun q=>e (Sum.inl.inj q);rw[decide_eq_false h];exact(beq_eq_false_iff_ne.mpr e).symm
theorem ye(a b:Str):decide ((Sum.inr a:Key)=Sum.inr b)=decide (a=b):=by
 by_cases e:a=b
 ·subst e;simp
 ·have h:¬(Sum.inr a:Key)=Sum.inr b:=fun q=>e (Sum.inr.inj q);rw[decide_eq_false h,decide_eq_false e]
theorem yg(a:Int)(b:Str):decide ((Sum.inl a:Key)=Sum.inr b)=false:=decide_eq_false (fun q=>nomatch q)
theorem yf(a:Str)(b:Int):decide ((Sum.inr a:Key)=Sum.inl b)=false:=decide_eq_false (fun q=>nomatch q)
noncomputable def Eg(prog:Program)(w:World):PySem.KeyKind prog w Key where
 is:=VH
 hash:=ACe w
 inj:=fun v a b ha hb=>by
  rcases Du ha with ⟨i,t,rfl,rfl⟩ | ⟨x,t,rfl,rfl⟩
  ·rcases Du hb with ⟨j,u,rfl,e⟩ | ⟨y,u,rfl,e⟩
   ·injection e with e1 _;rw[e1]
   ·exact nomatch e
  ·rcases Du hb with ⟨j,u,rfl,e⟩ | ⟨y,u,rfl,e⟩
   ·exact nomatch e
   ·injection e with e1 _;rw[e1]
 byValue:=fun k v h=>by
  rcases Du h with ⟨i,t,rfl,rfl⟩ | ⟨x,t,rfl,rfl⟩<;>rfl
 pyHash:=fun hv h=>by
  rcases Du hv with ⟨i,t,rfl,rfl⟩ | ⟨x,t,rfl,rfl⟩
  ·exact wpAny_pyHash_int h
  ·exact wpAny_pyHash_str h
 eqBool:=fun hu hv h=>by
  rcases Du hu with ⟨i,t,rfl,rfl⟩ | ⟨x,t,rfl,rfl⟩
  ·rcases Du hv with ⟨j,u,rfl,rfl⟩ | ⟨y,u,rfl,rfl⟩
   ·rw[yh] at h;exact wpAny_eqBool_int h
   ·rw[yg] at h;exact SeqAt.EqAt.int_str i t y u _ _ _ _ h
  ·rcases Du hv with ⟨j,u,rfl,rfl⟩ | ⟨y,u,rfl,rfl⟩
   ·rw[yf] at h;exact SeqAt.EqAt.str_int x t j u _ _ _ _ h
   ·rw[ye] at h;exact wpAny_eqBool_str h
 «strs»:=fun k x t v h=>by
  rcases Du h with ⟨i,u,rfl,e⟩ | ⟨y,u,rfl,e⟩
  ·exact nomatch e
  ·injection e with e1 _;subst e1;cases v<;>rfl
theorem Yj(prog:Program)(w:World)(i:Int)(t:Tok):(Eg prog w).is (.inl i) (.int i t)=true:=iH i t
theorem Jx(prog:Program)(w:World)(x:Str)(t:Tok):(Eg prog w).is (.inr x) (.str x t)=true:=iG x t
inductive V where
 | non | bl (b:Bool) | int (i:Int) | str (x:Str) | byt (b:Array UInt8) | flt (b:UInt64) | ref (a:Addr) | ty (n:String)
 deriving DecidableEq
noncomputable def RelV:V->Value->Prop
 | .non,u=>u=Value.none
 | .bl b,u=>u=Value.bool b
 | .int i,u=>∃t,u=Value.int i t
 | .str x,u=>∃t,u=Value.str x t
 | .byt b,u=>∃t,u=Value.bytes b t
 | .flt b,u=>∃t,u=Value.float b t
 | .ref a,u=>u=Value.ref a
 | .ty n,u=>u=Value.type n
noncomputable abbrev Vals:List V->List Value->Prop:=Paired RelV
variable{us:List Value}
theorem Vals.length{xs:List V}(r:Vals xs us):xs.length=us.length:=Paired.length r
theorem Vals.get:∀{xs:List V} {us:List Value} {i:Nat} {x:V},Vals xs us->xs[i]?=some x->∃u,us[i]?=some u/\RelV x u
 | _,_,_,_,.nil,e=>by simp at e
 | _,_,0,_,.cons r _,e=>by simp at e;subst e;exact⟨_,rfl,r⟩
 | _,_,i+1,x,.cons _ t,e=>by
  obtain⟨u,h1,h2⟩:=Vals.get (i:=i) (x:=x) t (by simpa using e);exact⟨u,by simpa using h1,h2⟩
variable{u:Value}
theorem Vals.set{x:V}(r:RelV x u):∀{xs:List V} {us:List Value} (i:Nat),Vals xs us->Vals (xs.set i x) (us.set i u)
 | _,_,_,.nil=>.nil
 | _,_,0,.cons _ t=>.cons r t
 | _,_,i+1,.cons q t=>.cons q (Vals.set r i t)
theorem Vals.append:∀{xs ys:List V} {us ws:List Value},Vals xs us->Vals ys ws->Vals (xs++ys) (us++ws)
 | _,_,_,_,.nil,s=>s
 | _,_,_,_,.cons r t,s=>.cons r (Vals.append t s)
theorem Vals.take:∀{xs:List V} {us:List Value} (n:Nat),Vals xs us->Vals (xs.take n) (us.take n)
 | _,_,0,_=>.nil
 | _,_,_+1,.nil=>.nil
 | _,_,n+1,.cons r t=>.cons r (Vals.take n t)
theorem Vals.drop:∀{xs:List V} {us:List Value} (n:Nat),Vals xs us->Vals (xs.drop n) (us.drop n)
 | _,_,0,r=>r
 | _,_,_+1,.nil=>.nil
 | _,_,n+1,.cons _ t=>Vals.drop n t
noncomputable def JX:Option V->Option Value->Prop
 | some v,some u=>RelV v u
 | none,none=>True
 | _,_=>False
noncomputable def KV{κ:Type}:List (κ×V)->List (κ×Value)->Prop:=Paired fun(p:κ×V) (q:κ×Value)=>p.1=q.1/\RelV p.2 q.2
noncomputable def kV:Key->V
 | .inl i=>.int i
 | .inr x=>.str x
inductive HO where
 | lst (xs:List V)
 | tup (xs:List V)
 | dK (kvs:List (Key×V)) | dT (kvs:List (List Key×V))
 | set (S:Int->Bool) (n:Nat)
 | ins (C dx:Addr) (fs:List (Str×V))
 | own (x:Addr)
 | xd (fs:List (Str×V))
 | met (f x:Addr)
 | rng (lo hi:Int)
 | frz (o:Obj) (u:HO)
 | tbl (ps:Array Value)
 | ext (φ:Heap->Prop)
noncomputable abbrev Hp:=Addr->Option HO
noncomputable def upd(H:Hp)(a:Addr)(o:HO):Hp:=fun b=>if b=a then some o else H b
variable{H:Hp}{a:Addr}
theorem Ah{o:HO}:upd H a o a=some o:=by unfold upd;rw[xz rfl]
theorem Aw{b:Addr}{o:HO}(h:b≠a):upd H a o b=H b:=by unfold upd;rw[yv h]
theorem pM{o u:HO}:upd (upd H a o) a u=upd H a u:=by
 funext b;unfold upd;split<;>rfl
theorem Ij{b:Addr}{o u:HO}(h:H a=some o)(h':H b=some u)(d:o≠u):a≠b:=by
 intro e;subst e;rw[h] at h';exact d (ki h')
theorem Bj{b:Addr}{o:HO}(h:H a=some o)(h':H b=none):a≠b:=by
 intro e;subst e;rw[h] at h';cases h'
section
variable(P:Program)(w:World)
noncomputable def Ef(H:Hp)(h:Heap)(a:Addr):HO->Prop
 | .lst xs=>xs.length<=sizeLine/\∃(its:List Value) (n:Nat),Vals xs its/\h.get? a=some { cls:=.type "list",data:=.seq its.toArray n }
 | .tup xs=>xs.length<=sizeLine/\∃its:List Value,Vals xs its/\IsTup h a its.toArray
 | .dK kvs=>kvs.length<=sizeLine/\(a==sysModules)=false/\∃vs,KV kvs vs/\h.DictOf (Eg P w) a vs
 | .dT kvs=>kvs.length<=sizeLine/\(a==sysModules)=false/\∃xs:List (List Key×Addr×Value),
  Paired (fun (p:List Key×V) (q:List Key×Addr×Value)=>p.1=q.1/\H q.2.1=some (.tup (p.1.map kV))/\RelV p.2 q.2.2) kvs xs/\
  ∃o es ep,h.get? a=some o/\o.ExactDict/\o.data=.dict es ep/\es.toList=xs.map (entryOfKey (tupleKind (Eg P w)))/\(xs.map (·.1)).Nodup
 | .set S n=>h.SetOf (intKind P w) a S n
 | .ins C dx fs=>H dx=some (.own a)/\fs.length<=1000/\dx≠a/\h.get? a=some (PySem.W.instObj C dx)/\
  ∃mA,h.Ns1 dx mA/\(∀f,JX (fs.lookup f) (mA f))/\PySem.Within mA (fs.map (·.1))
 | .own _=>∃o,h.get? a=some o
 | .xd fs=>∃mA,h.Ns1 a mA/\∀f,JX (fs.lookup f) (mA f)
 | .rng lo hi=>∃t u v,h.get? a=some { cls:=.type "range",data:=.fields #[.int lo t,.int hi u,.int 1 v] }
 | .frz o u=>h.get? a=some o/\Ef H h a u
 | .tbl ps=>h.get? a=some { cls:=.none,data:=.fields ps }
 | .met f x=>h.get? a=some (PySem.W.methodObj (.ref f) (.ref x))
 | .ext φ=>φ h/\(∃o,h.get? a=some o)/\∀h1 h2:Heap,φ h1->(∀o,h1.get? a=some o->h2.get? a=some o)->φ h2
noncomputable def HOk(H:Hp)(h:Heap):Prop:=∀a o,H a=some o->Ef P w H h a o
end
section
variable{P:Program}{w:World}{H H':Hp}{h h':Heap}{a:Addr}{o:HO}
theorem Ef.lt(x:Ef P w H h a o):a<h.objs.size:=by
 cases o with
 | lst xs=>obtain⟨_,_,_,_,e⟩:=x;exact zo e
 | tup xs=>obtain⟨_,_,_,p⟩:=x;exact p.lt
 | dK kvs=>obtain⟨_,_,_,_,o,_,_,e,_⟩:=x;exact zo e
 | dT kvs=>obtain⟨_,_,_,_,o,_,_,e,_⟩:=x;exact zo e
 | set S n=>obtain⟨o,_,_,_,e,_⟩:=x;exact zo e
 | ins C dx fs=>obtain⟨_,_,_,e,_⟩:=x;exact zo e
 | own y=>obtain⟨_,e⟩:=x;exact zo e
 | xd fs=>obtain⟨_,⟨_,_,_,e,_⟩,_⟩:=x;exact zo e
 | rng lo hi=>obtain⟨_,_,_,e⟩:=x;exact zo e
 | frz ob u=>obtain⟨e,_⟩:=x;exact zo e
 | tbl ps=>exact zo (show h.get? a=some _ from x)
 | met f y=>exact zo (show h.get? a=some _ from x)
 | ext φ=>obtain⟨_,⟨_,e⟩,_⟩:=x;exact zo e
theorem Paired.mapP{α β:Type}{F G:α->β->Prop}:∀{l₁:List α} {l₂:List β},Paired F l₁ l₂->(∀a b,F a b->G a b)->Paired G l₁ l₂
 | _,_,.nil,_=>.nil
 | _,_,.cons r t,f=>.cons (f _ _ r) (Paired.mapP t f)
theorem Ef.stay(x:Ef P w H h a o)(k:∀b u,(b=a\/H b=some (.own a))->h.get? b=some u->h'.get? b=some u)
 (ho:∀b,H b=some (.own a)->H' b=some (.own a))(ht:∀b xs,H b=some (.tup xs)->H' b=some (.tup xs)):Ef P w H' h' a o:=by
 induction o with
 | lst xs=>obtain⟨z,its,n,r,e⟩:=x;exact⟨z,its,n,r,k _ _ (.inl rfl) e⟩
 | tup xs=>obtain⟨z,its,r,ob,e,c⟩:=x;exact⟨z,its,r,ob,k _ _ (.inl rfl) e,c⟩
 | dK kvs=>obtain⟨z,y,vs,r,ob,es,ep,e,c⟩:=x;exact⟨z,y,vs,r,ob,es,ep,k _ _ (.inl rfl) e,c⟩
 | dT kvs=>
  obtain⟨z,y,xs,r,ob,es,ep,e,c⟩:=x;exact⟨z,y,xs,Paired.mapP r fun p q z=>⟨z.1,ht _ _ z.2.1,z.2.2⟩,ob,es,ep,k _ _ (.inl rfl) e,c⟩
 | set S n=>obtain⟨ob,es,ep,t,e,c⟩:=x;exact⟨ob,es,ep,t,k _ _ (.inl rfl) e,c⟩
 | ins C dx fs=>
  obtain⟨d,z,ne,e,mA,⟨od,es,ep,e2,c⟩,r⟩:=x;exact⟨ho _ d,z,ne,k _ _ (.inl rfl) e,mA,⟨od,es,ep,k _ _ (.inr d) e2,c⟩,r⟩
 | own y=>obtain⟨ob,e⟩:=x;exact⟨ob,k _ _ (.inl rfl) e⟩
 | xd fs=>obtain⟨mA,⟨od,es,ep,e,c⟩,r⟩:=x;exact⟨mA,⟨od,es,ep,k _ _ (.inl rfl) e,c⟩,r⟩
 | rng lo hi=>obtain⟨t,u,v,e⟩:=x;exact⟨t,u,v,k _ _ (.inl rfl) e⟩
 | frz ob u ih=>obtain⟨e,q⟩:=x;exact⟨k _ _ (.inl rfl) e,ih q⟩
 | tbl ps=>
  have e:h.get? a=some { cls:=.none,data:=.fields ps }:=x;show h'.get? a=some { cls:=.none,data:=.fields ps };exact k a _ (.inl rfl) e
 | met f y=>
  have e:h.get? a=some (PySem.W.methodObj (.ref f) (.ref y)):=x;show h'.get? a=some (PySem.W.methodObj (.ref f) (.ref y));exact k a _ (.inl rfl) e
 | ext φ=>obtain⟨p,⟨o,e⟩,st⟩:=x;exact⟨st _ _ p fun o q=>k _ _ (.inl rfl) q,⟨o,k _ _ (.inl rfl) e⟩,st⟩
theorem HOk.lt(x:HOk P w H h)(e:H a=some o):a<h.objs.size:=(x a o e).lt
theorem HOk.fresh(x:HOk P w H h)(e:h.objs.size<=a):H a=none:=by
 cases q:H a with
 | none=>rfl
 | some u=>exact absurd (xh (x.lt q) e) (jc9 _)
theorem HOk.kept(x:HOk P w H h)(k:∀b u,h.get? b=some u->h'.get? b=some u):HOk P w H h':=fun a o e=>
 (x a o e).stay (fun b u _ q=>k b u q) (fun _ q=>q) fun _ _ q=>q
theorem HOk.laid(x:HOk P w H h)(k:∀b u,h.get? b=some u->h'.get? b=some u)(hp:h.objs.size<=a)(new:Ef P w (upd H a o) h' a o):HOk P w (upd H a o) h':=fun b u e=>by
 have hn:=x.fresh hp;by_cases hb:b=a
 ·subst hb;rw[Ah] at e;cases e;exact new
 ·rw[Aw hb] at e;exact(x b u e).stay (fun c v _ q=>k c v q) (fun c q=>by rw[Aw (Bj q hn)];exact q) fun c xs q=>by rw[Aw (Bj q hn)];exact q
end
noncomputable def Rd(H:Hp)(a:Addr)(u:HO):Prop:=H a=some u\/∃o,H a=some (.frz o u)
theorem Rd.of{u:HO}(h:H a=some u):Rd H a u:=.inl h
theorem Rd.ok{P:Program}{w:World}{h:Heap}{u:HO}(r:Rd H a u)(x:HOk P w H h):Ef P w H h a u:=by
 rcases r with r | ⟨o,r⟩
 ·exact x a u r
 ·obtain⟨_,q⟩:=x a _ r;exact q
noncomputable def Mut:Option HO->Prop
 | some (.lst _)=>True
 | some (.dK _)=>True
 | some (.dT _)=>True
 | some (.set _ _)=>True
 | some (.ins _ _ _)=>True
 | some (.ext _)=>True
 | _=>False
section
variable{P:Program}{w:World}{H:Hp}{h h':Heap}{x e:Addr}{o':HO}
theorem HOk.write(ok:HOk P w H h)(mu:Mut (H x))(he:e=x\/H e=some (.own x))(k:∀b u,b≠e->h.get? b=some u->h'.get? b=some u)(heo:∃u,h'.get? e=some u)
 (new:Ef P w (upd H x o') h' x o'):HOk P w (upd H x o') h':=fun b u q=>by
 have nown:∀c y,H c=some (.own y)->c≠x:=fun c y r z=>by subst z;rw[r] at mu;exact mu
 have ntup:∀c xs,H c=some (.tup xs)->c≠x:=fun c xs r z=>by subst z;rw[r] at mu;exact mu
 by_cases hb:b=x
 ·subst hb;rw[Ah] at q;cases q;exact new
 ·rw[Aw hb] at q;by_cases hbe:b=e
  ·have q':H b=some (.own x):=by
    rcases he with z | z
    ·exact absurd (hbe.trans z) hb
    ·rw[hbe];exact z
   rw[q] at q';cases q';obtain⟨v,hv⟩:=heo;exact⟨v,by rw[hbe];exact hv⟩
  ·refine(ok b u q).stay (fun c v hc r=>k c v ?_ r) (fun c r=>by rw[Aw (nown c b r)];exact r) fun c xs r=>by rw[Aw (ntup c xs r)];exact r
   rcases hc with rfl | hc
   ·exact hbe
   ·rintro rfl;rcases he with z | z
    ·exact nown c b hc z
    ·rw[hc] at z;cases z;exact hb rfl
end
structure Un(fs ex:List Addr)(H H':Hp)(h h':Heap):Prop where
 keep:∀b o,h.get? b=some o->H b=none->b∉fs->b∉ex->h'.get? b=some o
 slot:∀b o,h.get? b=some o->H b=none->b∈fs->b∉ex->∃sl,h'.get? b=some { o with slots:=sl }
 free:∀b o,h.get? b=some o->H b=none->b∉ex->H' b=none
 there:∀b o,h.get? b=some o->b∉ex->∃o',h'.get? b=some o'
 tups:∀b xs,H b=some (.tup xs)->H' b=some (.tup xs)
 frzs:∀b o u,H b=some (.frz o u)->H' b=some (.frz o u)
 tbls:∀b ps,H b=some (.tbl ps)->∃more,H' b=some (.tbl (ps++more))
section
variable{fs fs' ex ex':List Addr}{H H1 H2:Hp}{h h1 h2 h':Heap}{a x e:Addr}{o:HO}
theorem Un.any(u:Un fs ex H H1 h h1){b:Addr}{ob:Obj}(q:h.get? b=some ob)(n:H b=none)(hx:b∉ex):∃sl,h1.get? b=some { ob with slots:=sl }:=by
 by_cases hb:b∈fs
 ·exact u.slot b ob q n hb hx
 ·exact⟨ob.slots,u.keep b ob q n hb hx⟩
theorem Un.trans(a:Un fs ex H H1 h h1)(b:Un fs ex H1 H2 h1 h2):Un fs ex H H2 h h2 where
 keep:=fun c ob q n hc hx=>b.keep c ob (a.keep c ob q n hc hx) (a.free c ob q n hx) hc hx
 slot:=fun c ob q n hc hx=>by
  obtain⟨sl,e1⟩:=a.slot c ob q n hc hx;obtain⟨sl',e2⟩:=b.slot c _ e1 (a.free c ob q n hx) hc hx;exact⟨sl',e2⟩
 free:=fun c ob q n hx=>by
  obtain⟨o',e1⟩:=a.there c ob q hx;exact b.free c o' e1 (a.free c ob q n hx) hx
 there:=fun c ob q hx=>by
  obtain⟨o',e1⟩:=a.there c ob q hx;exact b.there c o' e1 hx
 tups:=fun c xs q=>b.tups c xs (a.tups c xs q)
 frzs:=fun c ob xs q=>b.frzs c ob xs (a.frzs c ob xs q)
 tbls:=fun c ps q=>by
  obtain⟨m1,e1⟩:=a.tbls c ps q;obtain⟨m2,e2⟩:=b.tbls c _ e1;exact⟨m1++m2,by rw[e2,Array.append_assoc]⟩
theorem Un.kept(k:∀b u,h.get? b=some u->h'.get? b=some u):Un fs ex H H h h':=
 ⟨fun b ob q _ _ _=>k b ob q,fun b ob q _ _ _=>⟨ob.slots,k b ob q⟩,fun _ _ _ n _=>n,fun b ob q _=>⟨ob,k b ob q⟩,fun _ _ q=>q,fun _ _ _ q=>q,fun _ ps q=>⟨#[],by rw[q];simp⟩⟩
theorem Un.refl:Un fs ex H H h h:=Un.kept fun _ _ q=>q
theorem Un.laid(k:∀b u,h.get? b=some u->h'.get? b=some u)(hp:h.objs.size<=a)(hn:H a=none):Un fs ex H (upd H a o) h h' where
 keep:=fun b u q _ _ _=>k b u q
 slot:=fun b u q _ _ _=>⟨u.slots,k b u q⟩
 free:=fun b u q n _=>by rw[Aw (uj (xh (zo q) hp))];exact n
 there:=fun b u q _=>⟨u,k b u q⟩
 tups:=fun b xs q=>by rw[Aw (Bj q hn)];exact q
 frzs:=fun b u xs q=>by rw[Aw (Bj q hn)];exact q
 tbls:=fun b ps q=>⟨#[],by rw[Aw (Bj q hn),q];simp⟩
theorem Un.write(mu:Mut (H x))(he:e=x\/H e=some (.own x))(k:∀b u,b≠e->h.get? b=some u->h'.get? b=some u)(heo:∃u,h'.get? e=some u):Un fs ex H (upd H x o) h h':=by
 have hx:∀b,H b=none->b≠x:=fun b n z=>by subst z;rw[n] at mu;exact mu
 have hb:∀b,H b=none->b≠e:=fun b n z=>by
  subst z;rcases he with r | r
  ·exact hx b n r
  ·rw[n] at r;cases r
 have hm:∀b u,H b=some u->¬Mut (some u)->b≠x:=fun b u q nm z=>by subst z;rw[q] at mu;exact nm mu
 refine⟨fun b u q n _ _=>k b u (hb b n) q,fun b u q n _ _=>⟨u.slots,k b u (hb b n) q⟩,fun b u q n _=>by rw[Aw (hx b n)];exact n,fun b u q _=>?_,
  fun b xs q=>by rw[Aw (hm b _ q fun z=>z)];exact q,fun b u xs q=>by rw[Aw (hm b _ q fun z=>z)];exact q,fun b ps q=>⟨#[],by rw[Aw (hm b _ q fun z=>z),q];simp⟩⟩
 by_cases hbe:b=e
 ·subst hbe;exact heo
 ·exact⟨u,k b u hbe q⟩
theorem Un.mono(u:Un fs ex H H1 h h1)(hs:∀b∈fs,b∈fs')(hx:∀b∈ex,b∈ex'):Un fs' ex' H H1 h h1:=
 ⟨fun b ob q n hb he=>u.keep b ob q n (fun z=>hb (hs b z)) fun z=>he (hx b z),fun _ _ q n _ he=>u.any q n fun z=>he (hx _ z),fun b ob q n he=>u.free b ob q n fun z=>he (hx b z),fun b ob q he=>u.there b ob q fun z=>he (hx b z),u.tups,u.frzs,u.tbls⟩
end
noncomputable def trk(h:Heap)(H:Hp):List Addr:=(List.range h.objs.size).filter fun a=>(H a).isSome
noncomputable def W4(h:Heap)(H:Hp):Heap:=PySem.W.hideAll h (trk h H)
theorem iK(h:Heap)(H:Hp):(W4 h H).objs.size=h.objs.size:=PySem.W.hideAll_size _ _
theorem nH{h:Heap}{b:Addr}{o:Obj}(e:h.get? b=some o)(n:H b=none):(W4 h H).get? b=some o:=
 PySem.W.hideAll_get _ e fun hm=>by
  have q:(H b).isSome=true:=(je4.mp hm).2;rw[n] at q;simp at q
theorem sG{h:Heap}{b:Addr}{o:Obj}(e:(W4 h H).get? b=some o):h.get? b=some o/\H b=none:=by
 have e':h.get? b=some o:=PySem.W.of_hideAll (trk h H) e;refine⟨e',?_⟩;cases q:H b with
 | none=>rfl
 | some x=>
  have hm:b∈trk h H:=je4.mpr ⟨je2.mpr (zo e'),by simp[q]⟩;have z:(W4 h H).get? b=none:=PySem.W.hideAll_none (trk h H) hm;rw[z] at e;cases e
noncomputable def uU(g h:Heap)(L:Addr):List (Addr×Obj):=(List.range h.objs.size).filterMap fun a=>if a=L\/(g.get? a).isSome=true then none else (h.get? a).map fun o=>(a,o)
noncomputable def rest(g h:Heap)(L d:Addr):List (Addr×Obj):=(uU g h L).filter fun p=>decide (p.1≠d)
structure Mod(K:Fr)(mg:Str->Option Value)(base:Heap):Prop where
 kin:K.In base
 glob:base.Ns mainGlobals mg
 blt:∃mb,base.Ns builtinsNs mb/\∀x:Str,x≠"__name__"->mb x=bootBuiltins x
 nolimit:base.NoLimit
structure Cx where
 prog:Program
 w:World
 K:Fr
 mg:Str->Option Value
 base:Heap
 A:Around
 N:List Str
 s₀:Shared
 H₀:Hp
 env:Env
 outer:List Env
 stack:List Env
 ex:List Addr
 fn:Str->Bool
 calm:Bool
 pn:List (Addr×Obj)
 xe:Value->Shared->Prop
noncomputable def frs(l:List Env):List Addr:=l.filterMap (·.frame)
noncomputable abbrev Cx.fs(X:Cx):List Addr:=frs X.outer
noncomputable def Vis(sc:Scope)(x:Str):Prop:=sc.names.lookup x=some .local\/sc.names.lookup x=some .cell\/sc.names.lookup x=some .free
noncomputable def Loc(sc:Scope)(x:Str):Prop:=sc.names.lookup x=some .local\/sc.names.lookup x=some .cell
noncomputable def Look(env:Env)(h:Heap)(m:Str->Option Value)(x:Str)(u:Value):Prop:=
 (env.kindOf x=some .local/\m x=some u)\/((env.kindOf x=some .cell\/env.kindOf x=some .free)/\∃c,env.cells.lookup x=some c/\h.IsCell c (some u))
structure Cx.Ok(X:Cx):Prop where
 mod:Mod X.K X.mg X.base
 kind:X.env.scope.kind=.function
 glob:X.env.globals=mainGlobals
 blt:X.env.builtins=builtinsNs
 above:X.s₀.heap.objs.size<=X.env.locals
 inj:∀x y c,X.env.cells.lookup x=some c->X.env.cells.lookup y=some c->x=y
 has:∀x,(X.env.kindOf x=some .cell\/X.env.kindOf x=some .free)->∃c,X.env.cells.lookup x=some c
 cab:∀x c,X.fn x=true->X.env.cells.lookup x=some c->X.s₀.heap.objs.size<=c
 hd:X.calm=true->X.A.handled=none
 frames:X.A.frames=some X.stack
 stk:X.stack=X.outer\/(X.stack=X.env::X.outer/\X.env.frame=some X.env.locals)
 exf:∀b∈X.ex,b≠X.env.locals/\∀x c,X.env.cells.lookup x=some c->c≠b
 bs:∀b o,X.base.get? b=some o->X.s₀.heap.get? b=some o/\X.H₀ b=none
 bsz:X.base.objs.size<=X.s₀.heap.objs.size
 noex:∀b o,X.base.get? b=some o->b∉X.ex
 exfs:∀b∈X.ex,b∉X.fs
 funs:X.s₀.heap.FunFrames X.base X.outer
 frf:∀b∈X.fs,X.H₀ b=none
structure Inv(X:Cx)(pins:List (Addr×Obj))(Z:List (Option V))(H:Hp)(s:Shared):Prop where
 ok:X.Ok
 os:s.os=X.s₀.os
 bare:AllBare s.gens
 base:Un X.fs X.ex X.H₀ H X.s₀.heap s.heap
 loc:∃m,s.heap.Ns X.env.locals m/\∀(i:Nat) (x:Str) (v:V),X.N[i]?=some x->Z[i]?=some (some v)->Vis X.env.scope x->∃u,RelV v u/\Look X.env s.heap m x u
 cell:∀x c,X.env.cells.lookup x=some c->∃v,s.heap.IsCell c v
 free:H X.env.locals=none
 freeC:∀x c,X.env.cells.lookup x=some c->H c=none
 pin:∀p∈X.pn++pins,s.heap.get? p.1=some p.2/\H p.1=none/\p.1≠X.env.locals/\p.1∉X.fs/\∀v,p.2.data≠.cell v
 hok:HOk X.prog X.w H s.heap
 len:Z.length=X.N.length
variable{x:Str}{t':Nat}{A:Around}
section
variable{X:Cx}{pins:List (Addr×Obj)}{Z:List (Option V)}{H H':Hp}{s:Shared}{h':Heap}
theorem Cx.Ok.nofr(ok:X.Ok){b:Addr}{o:Obj}(e:X.base.get? b=some o):b∉X.fs:=fun hb=>by
 have:=(ok.funs.mem hb).1;rw[e] at this;cases this
theorem Inv.bs(I:Inv X pins Z H s):∀b o,X.base.get? b=some o->s.heap.get? b=some o/\H b=none:=fun b o e=>
 ⟨I.base.keep b o (I.ok.bs b o e).1 (I.ok.bs b o e).2 (I.ok.nofr e) (I.ok.noex b o e),I.base.free b o (I.ok.bs b o e).1 (I.ok.bs b o e).2 (I.ok.noex b o e)⟩
theorem Inv.bk(I:Inv X pins Z H s):∀b o,X.base.get? b=some o->s.heap.get? b=some o:=fun b o e=>(I.bs b o e).1
theorem Inv.mod(I:Inv X pins Z H s):Mod X.K X.mg X.base:=I.ok.mod
theorem Inv.kIn(I:Inv X pins Z H s):X.K.In s.heap:=I.ok.mod.kin.keeps I.bk
theorem Inv.lt(I:Inv X pins Z H s):X.env.locals<s.heap.objs.size:=let ⟨_,hn,_⟩:=I.loc;hn.lt
theorem Inv.sz(I:Inv X pins Z H s):X.s₀.heap.objs.size<=s.heap.objs.size:=zv I.ok.above (Nat.le_of_lt I.lt)
theorem Inv.nofs(I:Inv X pins Z H s){a:Addr}(h:s.heap.objs.size<=a):a∉X.fs:=fun hb=>by
 obtain⟨_,o,ho,_⟩:=I.ok.funs.mem hb;exact absurd (xh (zo ho) (zv I.sz h)) (jc9 _)
theorem Inv.cne(I:Inv X pins Z H s):∀x c,X.env.cells.lookup x=some c->c≠X.env.locals:=fun x c e z=>by
 obtain⟨v,o,ho,hd⟩:=I.cell x c e;obtain⟨m,⟨o',es,ep,ho',hd',_⟩,_⟩:=I.loc;rw[z,ho'] at ho;cases ho;rw[hd'] at hd;cases hd
theorem Inv.funs(I:Inv X pins Z H s):s.heap.FunFrames X.base X.outer:=by
 have all:∀(l:List Env),(∀b∈frs l,b∈X.fs)->X.s₀.heap.FunFrames X.base l->s.heap.FunFrames X.base l:=by
  intro l
  induction l with
  | nil=>intro _ _;trivial
  | cons env r ih=>
   intro hs hl;obtain⟨hk,⟨L,o,hf,hn,ho,hd⟩,hr⟩:=hl;have hL:L∈X.fs:=hs L (by unfold frs;rw[List.filterMap_cons,hf];exact qk);obtain⟨sl,e⟩:=I.base.slot L o ho (I.ok.frf L hL) hL fun z=>I.ok.exfs L z hL;exact⟨hk,⟨L,_,hf,hn,e,hd⟩,ih (fun b hb=>hs b (by unfold frs;rw[List.filterMap_cons,hf];exact qr _ hb)) hr⟩
 exact all X.outer (fun _ hb=>hb) I.ok.funs
theorem Inv.stack(I:Inv X pins Z H s):s.heap.FunFrames X.base X.stack:=by
 rcases I.ok.stk with e | ⟨e,hf⟩
 ·rw[e];exact I.funs
 ·rw[e];obtain⟨m,hn,_⟩:=I.loc;refine .cons (by rw[I.ok.kind];decide) hf hn ?_ I.funs;exact Heap.get?_none_of_le (zv I.ok.bsz I.ok.above)
theorem Inv.stkSub(I:Inv X pins Z H s):∀b∈frs X.stack,b∈X.env.locals::X.fs:=fun b hb=>by
 rcases I.ok.stk with e | ⟨e,hf⟩
 ·rw[e] at hb;exact qr _ hb
 ·rw[e] at hb;unfold frs at hb;rw[List.filterMap_cons,hf] at hb;exact hb
theorem Inv.stkFree(I:Inv X pins Z H s):∀b∈frs X.stack,H b=none:=fun b hb=>by
 rcases qm.mp (I.stkSub b hb) with e | hb
 ·rw[e];exact I.free
 ·obtain⟨_,o,ho,_⟩:=I.ok.funs.mem hb;exact I.base.free b o ho (I.ok.frf b hb) fun z=>I.ok.exfs b z hb
theorem Inv.step{g':Array GenState}{d':Drawn}{ch:List Addr}(I:Inv X pins Z H s)
 (hch:∀b∈ch,(b∈X.ex\/X.s₀.heap.objs.size<=b)/\b≠X.env.locals/\(∀x c,X.env.cells.lookup x=some c->c≠b)/\∀p∈X.pn++pins,p.1≠b)
 (keep:∀b o,b≠X.env.locals->b∉X.fs->b∉ch->s.heap.get? b=some o->H b=none->h'.get? b=some o)
 (slot:∀b o,b≠X.env.locals->b∈X.fs->b∉ch->s.heap.get? b=some o->H b=none->∃sl,h'.get? b=some { o with slots:=sl })(free:∀b o,b∉ch->s.heap.get? b=some o->H b=none->H' b=none)
 (there:∀b o,b∉ch->s.heap.get? b=some o->∃o',h'.get? b=some o')
 (tups:∀b xs,H b=some (.tup xs)->H' b=some (.tup xs))(frzs:∀b o u,H b=some (.frz o u)->H' b=some (.frz o u))(tbls:∀b ps,H b=some (.tbl ps)->∃more,H' b=some (.tbl (ps++more)))
 (ns:∀m,s.heap.Ns X.env.locals m->h'.Ns X.env.locals m)(hok:HOk X.prog X.w H' h')(hg:AllBare g'):
 Inv X pins Z H' { s with heap:=h',gens:=g',drawn:=d',toks:=t' }:=by
 have neL:∀b o,X.s₀.heap.get? b=some o->b≠X.env.locals:=fun b o e=>uj (xh (zo e) I.ok.above);have neC:∀b o,X.s₀.heap.get? b=some o->b∉X.ex->b∉ch:=fun b o e hx hb=>by
  rcases(hch b hb).1 with z | z
  ·exact hx z
  ·exact absurd (xh (zo e) z) (jc9 _)
 have cellK:∀x c,X.env.cells.lookup x=some c->∀v,s.heap.IsCell c v->h'.IsCell c v:=fun x c e v ⟨o,ho,hd⟩=>by
  have nch:c∉ch:=fun z=>(hch c z).2.2.1 x c e rfl;by_cases hc:c∈X.fs
  ·obtain⟨sl,q⟩:=slot c o (I.cne x c e) hc nch ho (I.freeC x c e);exact⟨_,q,hd⟩
  ·exact⟨o,keep c o (I.cne x c e) hc nch ho (I.freeC x c e),hd⟩
 refine⟨I.ok,I.os,hg,⟨fun b o e n hb hx=>?_,fun b o e n hb hx=>?_,fun b o e n hx=>?_,fun b o e hx=>?_,fun b xs e=>tups b xs (I.base.tups b xs e),fun b o xs e=>frzs b o xs (I.base.frzs b o xs e),fun b ps e=>?_⟩,?_,fun x c e=>?_,?_,fun x c e=>?_,fun p hp=>?_,hok,I.len⟩
 ·exact keep b o (neL b o e) hb (neC b o e hx) (I.base.keep b o e n hb hx) (I.base.free b o e n hx)
 ·obtain⟨sl,e1⟩:=I.base.slot b o e n hb hx;obtain⟨sl',e2⟩:=slot b _ (neL b o e) hb (neC b o e hx) e1 (I.base.free b o e n hx);exact⟨sl',e2⟩
 ·obtain⟨o',e1⟩:=I.base.there b o e hx;exact free b o' (neC b o e hx) e1 (I.base.free b o e n hx)
 ·obtain⟨o',e1⟩:=I.base.there b o e hx;exact there b o' (neC b o e hx) e1
 ·obtain⟨m1,e1⟩:=I.base.tbls b ps e;obtain⟨m2,e2⟩:=tbls b _ e1;exact⟨m1++m2,by rw[e2,Array.append_assoc]⟩
 ·obtain⟨m,hn,hl⟩:=I.loc;refine⟨m,ns m hn,fun i x v e1 e2 e3=>?_⟩;obtain⟨u,r,l⟩:=hl i x v e1 e2 e3;refine⟨u,r,?_⟩;rcases l with l | ⟨k,c,e,z⟩
  ·exact .inl l
  ·exact .inr ⟨k,c,e,cellK x c e _ z⟩
 ·obtain⟨v,z⟩:=I.cell x c e;exact⟨v,cellK x c e v z⟩
 ·obtain⟨m,⟨o,_,_,ho,_⟩,_⟩:=I.loc;exact free _ o (fun z=>(hch _ z).2.1 rfl) ho I.free
 ·obtain⟨v,o,ho,hd⟩:=I.cell x c e;exact free c o (fun z=>(hch c z).2.2.1 x c e rfl) ho (I.freeC x c e)
 ·obtain⟨e,n,ne,nf,d⟩:=I.pin p hp;have nch:p.1∉ch:=fun z=>(hch p.1 z).2.2.2 p hp rfl;exact⟨keep p.1 p.2 ne nf nch e n,free p.1 p.2 nch e n,ne,nf,d⟩
theorem Inv.un(I:Inv X pins Z H s)(u:Un X.fs [] H H' s.heap h')(hok:HOk X.prog X.w H' h'):Inv X pins Z H' { s with heap:=h',toks:=t' }:=by
 obtain⟨m,⟨o,es,ep,ho,r⟩,_⟩:=id I.loc;obtain⟨sl,hL⟩:=u.any ho I.free (by simp);exact I.step (g':=s.gens) (d':=s.drawn) (ch:=[]) (fun _ z=>nomatch z) (fun b o _ hb _ e n=>u.keep b o e n hb (by simp)) (fun b o _ hb _ e n=>u.slot b o e n hb (by simp)) (fun b o _ e n=>u.free b o e n (by simp)) (fun b o _ e=>u.there b o e (by simp)) u.tups u.frzs u.tbls (fun m' hm=>by
  obtain⟨o',es',ep',ho',r'⟩:=hm;rw[ho] at ho';cases ho';exact⟨_,es',ep',hL,r'⟩) hok I.bare
theorem Inv.call{g':Array GenState}{d':Drawn}{ch:List Addr}(I:Inv X pins Z H s)(u:Un (frs X.stack) ch H H' s.heap h')(hok:HOk X.prog X.w H' h')(hg:AllBare g')
 (hch:∀b∈ch,(b∈X.ex\/X.s₀.heap.objs.size<=b)/\b≠X.env.locals/\(∀x c,X.env.cells.lookup x=some c->c≠b)/\∀p∈X.pn++pins,p.1≠b):
 Inv X pins Z H' { s with heap:=h',gens:=g',drawn:=d',toks:=t' }:=by
 obtain⟨m,⟨o,es,ep,ho,r⟩,_⟩:=id I.loc;obtain⟨sl,hL⟩:=u.any ho I.free fun z=>(hch _ z).2.1 rfl;exact I.step (ch:=ch) hch (fun b o hL hb hc e n=>u.keep b o e n (fun z=>(qm.mp (I.stkSub b z)).elim hL hb) hc) (fun b o _ _ hc e n=>u.any e n hc) (fun b o hc e n=>u.free b o e n hc) (fun b o hc e=>u.there b o e hc) u.tups u.frzs u.tbls (fun m' hm=>by
  obtain⟨o',es',ep',ho',r'⟩:=hm;rw[ho] at ho';cases ho';exact⟨_,es',ep',hL,r'⟩) hok hg
theorem Inv.turned{it:Addr}(I:Inv X pins Z H s)(k:∀b o,b≠it->s.heap.get? b=some o->h'.get? b=some o)(hn:H it=none)(hL:it≠X.env.locals)
 (h1:it∈X.ex\/X.s₀.heap.objs.size<=it)(h2:∀x c,X.env.cells.lookup x=some c->c≠it)(h3:∀p∈X.pn++pins,p.1≠it):Inv X pins Z H { s with heap:=h',toks:=t' }:=by
 have nit:∀b u,H b=some u->b≠it:=fun b u e z=>by rw[z,hn] at e;cases e
 refine I.step (g':=s.gens) (d':=s.drawn) (ch:=[it]) (fun b hb=>?_) (fun b o _ _ hc e _=>k b o (fun z=>hc (by simp[z])) e) (fun b o _ _ hc e _=>⟨o.slots,k b o (fun z=>hc (by simp[z])) e⟩) (fun _ _ _ _ n=>n)
  (fun b o hc e=>⟨o,k b o (fun z=>hc (by simp[z])) e⟩) (fun _ _ e=>e) (fun _ _ _ e=>e) (fun b ps e=>⟨#[],by rw[e];simp⟩) (fun m hm=>?_) (fun b u e=>?_) I.bare
 ·have e:b=it:=by simpa using hb
  subst e;exact⟨h1,hL,h2,h3⟩
 ·obtain⟨o,es,ep,ho,r⟩:=hm;exact⟨o,es,ep,k _ o (Ne.symm hL) ho,r⟩
 ·refine(I.hok b u e).stay (fun c v hc q=>k c v ?_ q) (fun _ q=>q) fun _ _ q=>q;rcases hc with z | z
  ·rw[z];exact nit b u e
  ·exact nit c _ z
theorem Inv.tok(I:Inv X pins Z H s)(t:Nat):Inv X pins Z H { s with toks:=t }:=I.un (h':=s.heap) (t':=t) Un.refl I.hok
theorem Inv.kept(I:Inv X pins Z H s)(k:∀b u,s.heap.get? b=some u->h'.get? b=some u):Inv X pins Z H { s with heap:=h',toks:=t' }:=I.un (Un.kept k) (I.hok.kept k)
theorem Inv.laid{o:HO}(I:Inv X pins Z H s)(k:∀b u,s.heap.get? b=some u->h'.get? b=some u)(hp:s.heap.objs.size<=a)(new:Ef X.prog X.w (upd H a o) h' a o):
 Inv X pins Z (upd H a o) { s with heap:=h',toks:=t' }:=I.un (Un.laid k hp (I.hok.fresh hp)) (I.hok.laid k hp new)
theorem Inv.write{x e:Addr}{o:HO}(I:Inv X pins Z H s)(mu:Mut (H x))(he:e=x\/H e=some (.own x))(k:∀b u,b≠e->s.heap.get? b=some u->h'.get? b=some u)(heo:∃u,h'.get? e=some u)
 (new:Ef X.prog X.w (upd H x o) h' x o):Inv X pins Z (upd H x o) { s with heap:=h',toks:=t' }:=I.un (Un.write mu he k heo) (I.hok.write mu he k heo new)
theorem Inv.pins_of{pins':List (Addr×Obj)}(I:Inv X pins Z H s)(h:∀p∈pins',s.heap.get? p.1=some p.2/\H p.1=none/\p.1≠X.env.locals/\p.1∉X.fs/\∀v,p.2.data≠.cell v):Inv X pins' Z H s:=
 ⟨I.ok,I.os,I.bare,I.base,I.loc,I.cell,I.free,I.freeC,fun p hp=>(vx.mp hp).elim (fun z=>I.pin p (jg0 _ z)) (h p),I.hok,I.len⟩
theorem Yi{N:List Str}(hN:N.Nodup){i j:Nat}{x:Str}(a:N[i]?=some x)(b:N[j]?=some x):i=j:=by
 obtain⟨h1,e1⟩:=xb.mp a;obtain⟨h2,e2⟩:=xb.mp b;exact(List.getElem_inj hN).mp (e1.trans e2.symm)
theorem M9{M:Model}{E:Value->Shared->Prop}{i:Nat}{v:V}{Q:Unit->Shared->Prop}(I:Inv X pins Z H s)(hN:X.N.Nodup)(hi:X.N[i]?=some x)(hx:Loc X.env.scope x)(r:RelV v u)
 (h:∀s',Inv X pins (Z.set i (some v)) H s'->(∃a,Heap.SameBut a s.heap s'.heap/\(a=X.env.locals\/X.env.cells.lookup x=some a))->Q () s')(hf:X.fn x=true\/X.env.scope.names.lookup x=some .local:=by first | exact .inl rfl | exact .inr rfl | assumption):wpAny M A (storeName X.env x u) Q E s:=by
 obtain⟨m,hn,hl⟩:=id I.loc;have hcls:(X.env.scope.kind==.class||(X.env.scope.kind==.module&&X.env.locals != X.env.globals))=false:=by rw[I.ok.kind];rfl
 have hiσ:i<Z.length:=by rw[I.len];exact(xb.mp hi).1
 have cne:=I.cne;have tracked:∀{a:Addr} {h':Heap},(∃o,s.heap.get? a=some o/\H a=none)->Heap.SameBut a s.heap h'->HOk X.prog X.w H h':=fun{a h'} ha hs b ob e=>by
  obtain⟨_,_,hfree⟩:=ha;refine(I.hok b ob e).stay (fun c w' hc q=>(hs.2 c ?_).trans q) (fun _ q=>q) fun _ _ q=>q;rintro rfl;rcases hc with rfl | hc
  ·rw[hfree] at e;cases e
  ·rw[hfree] at hc;cases hc
 rcases hx with hk | hk
 ·refine wpAny_storeName_local hk hn (fun h' hn' hs=>?_) hcls;obtain⟨oL,_,_,hoL,_⟩:=id hn;refine h _ ⟨I.ok,I.os,I.bare,⟨fun b o e n hb hx=>?_,fun b o e n hb hx=>?_,I.base.free,fun b o e hx=>?_,I.base.tups,I.base.frzs,I.base.tbls⟩,⟨_,hn',fun j y v' e1 e2 e3=>?_⟩,fun y c e=>?_,I.free,I.freeC,fun p hp=>?_,tracked ⟨oL,hoL,I.free⟩ hs,by simpa using I.len⟩ ⟨_,hs,.inl rfl⟩
  ·exact(hs.2 b (uj (xh (zo e) I.ok.above))).trans (I.base.keep b o e n hb hx)
  ·obtain⟨sl,e1⟩:=I.base.slot b o e n hb hx;exact⟨sl,(hs.2 b (uj (xh (zo e) I.ok.above))).trans e1⟩
  ·obtain⟨o',e1⟩:=I.base.there b o e hx;exact⟨o',(hs.2 b (uj (xh (zo e) I.ok.above))).trans e1⟩
  ·by_cases hj:j=i
   ·subst hj;rw[hi] at e1;cases e1;rw[List.getElem?_set_self hiσ] at e2;cases e2;exact⟨u,r,.inl ⟨hk,by simp⟩⟩
   ·rw[List.getElem?_set_ne (Ne.symm hj)] at e2;obtain⟨u',r',q⟩:=hl j y v' e1 e2 e3;refine⟨u',r',?_⟩;rcases q with ⟨k,e⟩ | ⟨k,c,e,z⟩
    ·refine .inl ⟨k,?_⟩;have:y≠x:=fun e=>hj (Yi hN e1 (e ▸ hi));simp[this,e]
    ·exact .inr ⟨k,c,e,z.sameBut hs (cne y c e)⟩
  ·obtain⟨w',z⟩:=I.cell y c e;exact⟨w',z.sameBut hs (cne y c e)⟩
  ·obtain⟨e,n,ne,nf,d⟩:=I.pin p hp;exact⟨(hs.2 p.1 ne).trans e,n,ne,nf,d⟩
 ·have hfn:X.fn x=true:=by
   rcases hf with z | z
   ·exact z
   ·rw[z] at hk;cases hk
  obtain⟨c,hc⟩:=I.ok.has x (.inl hk);obtain⟨w',z⟩:=I.cell x c hc;refine wpAny_storeName_cell I.ok.kind hk hc z (fun h' hc' hs=>?_);obtain⟨oc,hoc,hocd⟩:=id z;refine h { s with heap:=h' } ⟨I.ok,I.os,I.bare,⟨fun b o e n hb hx=>?_,fun b o e n hb hx=>?_,I.base.free,fun b o e hx=>?_,I.base.tups,I.base.frzs,I.base.tbls⟩,⟨m,hn.sameBut hs (Ne.symm (cne x c hc)),fun j y v' e1 e2 e3=>?_⟩,fun y c' e=>?_,I.free,I.freeC,fun p hp=>?_,tracked ⟨oc,hoc,I.freeC x c hc⟩ hs,by simpa using I.len⟩ ⟨c,hs,.inr hc⟩
  ·exact(hs.2 b (uj (xh (zo e) (I.ok.cab x c hfn hc)))).trans (I.base.keep b o e n hb hx)
  ·obtain⟨sl,e1⟩:=I.base.slot b o e n hb hx;exact⟨sl,(hs.2 b (uj (xh (zo e) (I.ok.cab x c hfn hc)))).trans e1⟩
  ·obtain⟨o',e1⟩:=I.base.there b o e hx;exact⟨o',(hs.2 b (uj (xh (zo e) (I.ok.cab x c hfn hc)))).trans e1⟩
  ·by_cases hj:j=i
   ·subst hj;rw[hi] at e1;cases e1;rw[List.getElem?_set_self hiσ] at e2;cases e2;exact⟨u,r,.inr ⟨.inl hk,c,hc,hc'⟩⟩
   ·rw[List.getElem?_set_ne (Ne.symm hj)] at e2;obtain⟨u',r',q⟩:=hl j y v' e1 e2 e3;refine⟨u',r',?_⟩;rcases q with q | ⟨k,c',e,z'⟩
    ·exact .inl q
    ·refine .inr ⟨k,c',e,z'.sameBut hs ?_⟩;rintro rfl;exact hj (Yi hN e1 (I.ok.inj _ _ _ e hc ▸ hi))
  ·by_cases hcc:c'=c
   ·subst hcc;exact⟨_,hc'⟩
   ·obtain⟨w2,z2⟩:=I.cell y c' e;exact⟨w2,z2.sameBut hs hcc⟩
  ·obtain⟨e,n,ne,nf,d⟩:=I.pin p hp;refine⟨(hs.2 p.1 ?_).trans e,n,ne,nf,d⟩;intro q;rw[q,hoc] at e;have q':oc=p.2:=ki e;exact d w' (by rw[<-q'];exact hocd)
theorem Ji{M:Model}{E:Value->Shared->Prop}{i:Nat}{v:V}{Q:Unit->Shared->Prop}(I:Inv X pins Z H s)(hN:X.N.Nodup)(hi:X.N[i]?=some x)(hx:Loc X.env.scope x)(r:RelV v u)
 (h:∀s',Inv X pins (Z.set i (some v)) H s'->Q () s')(hf:X.fn x=true\/X.env.scope.names.lookup x=some .local:=by first | exact .inl rfl | exact .inr rfl | assumption):wpAny M A (storeName X.env x u) Q E s:=
 M9 I hN hi hx r (fun s' I' _=>h s' I') hf
theorem Inv.call'{s':Shared}{ch:List Addr}(I:Inv X pins Z H s)(ho:s'.os=s.os)(u:Un (frs X.stack) ch H H' s.heap s'.heap)(hok:HOk X.prog X.w H' s'.heap)(hg:AllBare s'.gens)
 (hch:∀b∈ch,(b∈X.ex\/X.s₀.heap.objs.size<=b)/\b≠X.env.locals/\(∀x c,X.env.cells.lookup x=some c->c≠b)/\∀p∈X.pn++pins,p.1≠b):Inv X pins Z H' s':=by
 obtain⟨h',g',d',t',o'⟩:=s';have e:o'=s.os:=ho;subst e;exact I.call (g':=g') (t':=t') (d':=d') u hok hg hch
end
noncomputable abbrev XK:=Value->Option Addr->Hp->Prop
noncomputable abbrev St:=List (Option V)
noncomputable abbrev VK:=V->Hp->Prop
noncomputable abbrev TE:=St->Hp->VK->Prop
noncomputable abbrev TT:=St->Hp->(Bool->Hp->Prop)->Prop
noncomputable abbrev TA:=St->Hp->(List V->Hp->Prop)->Prop
structure Ends where
 nx:St->Hp->Prop
 rt:VK
 bk:St->Hp->Prop:=fun _ _=>False
 ct:St->Hp->Prop:=fun _ _=>False
noncomputable abbrev TS:=Ends->St->Hp->Prop
noncomputable def EP(X:Cx)(pins:List (Addr×Obj))(Z:St)(Q:VK)(u:Value)(s':Shared):Prop:=∃v H',Inv X pins Z H' s'/\RelV v u/\Q v H'
noncomputable def TP(X:Cx)(pins:List (Addr×Obj))(Z:St)(Q:Bool->Hp->Prop)(b:Bool)(s':Shared):Prop:=∃H',Inv X pins Z H' s'/\Q b H'
noncomputable def AP(X:Cx)(pins:List (Addr×Obj))(Z:St)(Q:List V->Hp->Prop)(us:List Value)(s':Shared):Prop:=∃vs H',Inv X pins Z H' s'/\Vals vs us/\Q vs H'
noncomputable def SP(X:Cx)(pins:List (Addr×Obj))(D:Ends)(f:Flow)(s':Shared):Prop:=
 match f with
 | .next=>∃Z' H',Inv X pins Z' H' s'/\D.nx Z' H'
 | .brk=>∃Z' H',Inv X pins Z' H' s'/\D.bk Z' H'
 | .cont=>∃Z' H',Inv X pins Z' H' s'/\D.ct Z' H'
 | .ret u=>∃v Z' H',Inv X pins Z' H' s'/\RelV v u/\D.rt v H'
noncomputable def PE(X:Cx)(e:Expr)(t:TE):Prop:=
 ∀(pins:List (Addr×Obj)) (s:Shared) (Z:St) (H:Hp) (Q:VK),Inv X pins Z H s->t Z H Q->wpAny (model X.prog X.w) X.A (eval e X.env) (EP X pins Z Q) X.xe s
noncomputable def PT(X:Cx)(e:Expr)(t:TT):Prop:=
 ∀(pins:List (Addr×Obj)) (s:Shared) (Z:St) (H:Hp) (Q:Bool->Hp->Prop),Inv X pins Z H s->t Z H Q->wpAny (model X.prog X.w) X.A (isTrue e X.env (eval e X.env)) (TP X pins Z Q) X.xe s
noncomputable def PW(X:Cx)(e:Expr)(t:TT):Prop:=
 ∀(whole:Sem Value) (pins:List (Addr×Obj)) (s:Shared) (Z:St) (H:Hp) (Q:Bool->Hp->Prop),Inv X pins Z H s->t Z H Q->wpAny (model X.prog X.w) X.A (isTrue e X.env whole) (TP X pins Z Q) X.xe s
theorem PW.pt{X:Cx}{e:Expr}{t:TT}(h:PW X e t):PT X e t:=h _
noncomputable def PA(X:Cx)(es:List Expr)(t:TA):Prop:=
 ∀(pos:Pos) (pins:List (Addr×Obj)) (s:Shared) (Z:St) (H:Hp) (Q:List V->Hp->Prop),Inv X pins Z H s->t Z H Q->wpAny (model X.prog X.w) X.A (spliced (backTo pos (starEach es X.env))) (AP X pins Z Q) X.xe s
noncomputable def PS(X:Cx)(st:Stmt)(t:TS):Prop:=
 ∀(pins:List (Addr×Obj)) (s:Shared) (Z:St) (H:Hp) (D:Ends),Inv X pins Z H s->t D Z H->wpAny (model X.prog X.w) X.A (exec st X.env) (SP X pins D) X.xe s
noncomputable def PSs(X:Cx)(st:List Stmt)(t:TS):Prop:=
 ∀(pins:List (Addr×Obj)) (s:Shared) (Z:St) (H:Hp) (D:Ends),Inv X pins Z H s->t D Z H->wpAny (model X.prog X.w) X.A (execs st X.env) (SP X pins D) X.xe s
theorem thn{α:Type}{t:Sem α}{Q Q':α->Shared->Prop}{M:Model}{E:Value->Shared->Prop}{s:Shared}(h:wpAny M A t Q E s)(hQ:∀a s,Q a s->Q' a s):wpAny M A t Q' E s:=kq h hQ fun _ _ x=>x
variable{Z:St}{pos:Pos}{pins:List (Addr×Obj)}
section
variable{X:Cx}
noncomputable def ACH:Option (Option V)->(V->Prop)->Prop
 | some (some v),k=>k v
 | _,_=>False
noncomputable def Lh(i:Nat):TE:=fun Z H Q=>ACH Z[i]? fun v=>Q v H
theorem pU{i:Nat}{Q:VK}(h:Lh i Z H Q):∃v,Z[i]?=some (some v)/\Q v H:=by
 unfold Lh at h
 match e:Z[i]?,h with
 | some (some v),h=>exact⟨v,rfl,h⟩
theorem K5{i:Nat}{Q:VK}{v:V}(e:Z[i]?=some (some v))(h:Q v H):Lh i Z H Q:=by
 unfold Lh;rw[e];exact h
noncomputable abbrev Vw(T G:Prop):=(T->G)->T->G
noncomputable def tC(v:V):TE:=fun _ H Q=>Q v H
theorem lq{i:Nat}(hN:X.N[i]?=some x)(hv:Vis X.env.scope x)(hd:(x==("__debug__":Str))=false:=by decide)(hcd:(x==("__classdict__":Str))=false:=by decide):PE X (.Name x pos) (Lh i):=by
 intro pins s Z H Q I h;obtain⟨v,e,h⟩:=pU h;obtain⟨m,hn,hl⟩:=I.loc;obtain⟨u,r,l⟩:=hl i x v hN e hv;have fin:EP X pins Z Q u s:=⟨v,H,I,r,h⟩;rcases l with ⟨hk,hm⟩ | ⟨hk,c,hc,hcell⟩
 ·exact wpAny_Name (wpAny_loadName_local I.ok.kind hk hn hm fin) hd
 ·rcases hk with hk | hk
  ·exact wpAny_Name (wpAny_loadName_cell I.ok.kind hk hc hcell fin) hd
  ·exact wpAny_Name (wpAny_loadName_free I.ok.kind hk hc hcell fin hcd) hd
theorem Af{i j pos}:PE X (.Constant (.int i) j pos) (tC (.int i)):=fun _ _ _ H _ I h=>wpAny_Constant_int ⟨.int i,H,I.tok _,⟨_,rfl⟩,h⟩
theorem Jr{b j pos}:PE X (.Constant (.bool b) j pos) (tC (.bl b)):=fun _ _ _ H _ I h=>Constant_bool ⟨.bl b,H,I,rfl,h⟩
theorem Hm{j pos}:PE X (.Constant .none j pos) (tC .non):=fun _ _ _ H _ I h=>Constant_none ⟨.non,H,I,rfl,h⟩
theorem Ai{x j pos}:PE X (.Constant (.str x) j pos) (tC (.str x)):=fun _ _ _ H _ I h=>Calls.Constant_str ⟨.str x,H,I.tok _,⟨_,rfl⟩,h⟩
noncomputable def Gl(X:Cx)(x:Str):Prop:=X.env.kindOf x=some .globalImplicit
theorem Mi{E:Value->Shared->Prop}{s:Shared}{Q:Value->Shared->Prop}(I:Inv X pins Z H s)(hg:Gl X x)(hm:X.mg x=some u)(h:Q u s)
 (hd:(x==("__debug__":Str))=false:=by decide):wpAny (model X.prog X.w) X.A (eval (.Name x pos) X.env) Q E s:=
 Calls.Name_function_global I.ok.kind hg (Calls.loadGlobal_global (by rw[I.ok.glob];exact I.mod.glob.keeps I.bk) hm h) hd
theorem G8{E:Value->Shared->Prop}{s:Shared}{Q:Value->Shared->Prop}(I:Inv X pins Z H s)(hg:Gl X x)(hm:X.mg x=none)(hv:bootBuiltins x=some u)(h:Q u s)
 (hn:x≠"__name__":=by decide)(hd:(x==("__debug__":Str))=false:=by decide):wpAny (model X.prog X.w) X.A (eval (.Name x pos) X.env) Q E s:=by
 obtain⟨mb,h1,h2⟩:=I.mod.blt;exact Calls.Name_function_global I.ok.kind hg (Calls.loadGlobal_builtin (by rw[I.ok.glob];exact I.mod.glob.keeps I.bk) hm (by rw[I.ok.blt];exact h1.keeps I.bk) ((h2 x hn).trans hv) h) hd
theorem Bv{v:V}(hg:Gl X x)(hm:X.mg x=some u)(r:RelV v u)(hd:(x==("__debug__":Str))=false:=by decide):PE X (.Name x pos) (tC v):=
 fun _ _ _ H _ I h=>Mi I hg hm ⟨v,H,I,r,h⟩ hd
theorem Wh{v:V}(hg:Gl X x)(hm:X.mg x=none)(hv:bootBuiltins x=some u)(r:RelV v u)(hn:x≠"__name__":=by decide)(hd:(x==("__debug__":Str))=false:=by decide):PE X (.Name x pos) (tC v):=
 fun _ _ _ H _ I h=>G8 I hg hm hv ⟨v,H,I,r,h⟩ hn hd
variable{a b:Expr}{ta tb:TE}{pos:Pos}
noncomputable def PC(X:Cx)(op:CmpOp)(a b:Expr)(t:TE):Prop:=
 ∀(pins:List (Addr×Obj)) (s:Shared) (Z:St) (H:Hp) (Q:VK),Inv X pins Z H s->t Z H Q->
  wpAny (model X.prog X.w) X.A (eval a X.env) (fun v s₁=>wpAny (model X.prog X.w) X.A (eval b X.env) (fun u s₂=>wpAny (model X.prog X.w) X.A (compareOp op v u) (EP X pins Z Q) X.xe s₂) X.xe s₁) X.xe s
noncomputable def tB(t:TE):TT:=fun Z H Q=>t Z H fun x H1=>∃c,x=.bl c/\Q c H1
theorem Wa{op:CmpOp}{t:TE}(h:PC X op a b t)(h1:behindInMarks op b=false:=by first | exact nobehind _ (by decide) (by decide) | rfl):PT X (.Compare a [op] [b] pos) (tB t):=by
 intro pins s Z H Q I hw;refine wpAny_isTrue_Compare1 (thn (h pins s Z H _ I hw) fun v s1 h1=>thn h1 fun u s2 h2=>thn h2 fun c s3 hZ=>?_) h1;obtain⟨x,H1,I1,r1,q1⟩:=hZ;obtain⟨d,rfl,q⟩:=q1;cases r1;exact jc8 ⟨H1,I1,q⟩
theorem Gh{e:Expr}{t:TE}(h:PE X e t)(he:∀whole,isTrue e X.env whole=(do let v <-whole;standAt e.pos;holding [v] (truthy v)):=by intro _;rfl):PT X e (tB t):=by
 intro pins s Z H Q I hw;refine isTrue_plain (thn (h pins s Z H _ I hw) fun v s1 hZ=>?_) (he _);obtain⟨x,H1,I1,r1,q1⟩:=hZ;obtain⟨d,rfl,q⟩:=q1;cases r1;exact jc8 ⟨H1,I1,q⟩
variable{tA tB':TT}{rest:List Expr}
noncomputable def AAL(t u:TT):TT:=fun Z H Q=>t Z H fun c H1=>if c=true then u Z H1 Q else Q false H1
noncomputable def tOr(t u:TT):TT:=fun Z H Q=>t Z H fun c H1=>if c=true then Q true H1 else u Z H1 Q
noncomputable def zq(t:TT):TT:=fun Z H Q=>t Z H fun c H1=>Q (!c) H1
theorem JD(ha:PT X a tA):PW X (.BoolOp .And [a] pos) tA:=by
 intro wh pins s Z H Q I h;refine isTrue_and (thn (ha pins s Z H Q I h) fun c s1 e=>?_);cases c with
 | true=>exact isTrue_and_nil e
 | false=>exact e
theorem Gg(ha:PT X a tA):PW X (.BoolOp .Or [a] pos) tA:=by
 intro wh pins s Z H Q I h;refine isTrue_or (thn (ha pins s Z H Q I h) fun c s1 e=>?_);cases c with
 | false=>exact isTrue_or_nil e
 | true=>exact e
theorem K6(ha:PT X a tA)(hb:PW X (.BoolOp .And (b::rest) pos) tB'):PW X (.BoolOp .And (a::b::rest) pos) (AAL tA tB'):=by
 intro wh pins s Z H Q I h;refine isTrue_and (thn (ha pins s Z H _ I h) fun c s1 hZ=>?_);obtain⟨H1,I1,q1⟩:=hZ;cases c with
 | true=>exact hb wh pins s1 Z H1 Q I1 q1
 | false=>exact⟨H1,I1,q1⟩
theorem IK(ha:PT X a tA)(hb:PW X (.BoolOp .Or (b::rest) pos) tB'):PW X (.BoolOp .Or (a::b::rest) pos) (tOr tA tB'):=by
 intro wh pins s Z H Q I h;refine isTrue_or (thn (ha pins s Z H _ I h) fun c s1 hZ=>?_);obtain⟨H1,I1,q1⟩:=hZ;cases c with
 | true=>exact⟨H1,I1,q1⟩
 | false=>exact hb wh pins s1 Z H1 Q I1 q1
theorem JF(ha:PT X a tA):PT X (.UnaryOp .Not a pos) (zq tA):=by
 intro pins s Z H Q I h;exact isTrue_not (ha pins s Z H (fun c H1=>Q (!c) H1) I h)
noncomputable def uz(ta tb:TE):TE:=fun Z H Q=>ta Z H fun x H1=>∃c,x=.bl c/\if c=true then tb Z H1 Q else Q (.bl false) H1
noncomputable def zj(ta tb:TE):TE:=fun Z H Q=>ta Z H fun x H1=>∃c,x=.bl c/\if c=true then Q (.bl true) H1 else tb Z H1 Q
theorem Wg{op}{t:TE}(h:PE X a t):PE X (.BoolOp op [a] pos) t:=fun pins s Z H Q I hw=>BoolOp_one (h pins s Z H Q I hw)
theorem Wi(ha:PE X a ta)(hb:PE X (.BoolOp .And (b::rest) pos) tb):PE X (.BoolOp .And (a::b::rest) pos) (uz ta tb):=by
 intro pins s Z H Q I h;refine BoolOp_and (thn (ha pins s Z H _ I h) fun v s1 hZ=>?_);obtain⟨x,H1,I1,r1,q1⟩:=hZ;obtain⟨c,rfl,q1⟩:=q1;cases r1;refine jc8 ?_;cases c with
 | true=>exact hb pins s1 Z H1 Q I1 q1
 | false=>exact⟨.bl false,H1,I1,rfl,q1⟩
theorem ABK(ha:PE X a ta)(hb:PE X (.BoolOp .Or (b::rest) pos) tb):PE X (.BoolOp .Or (a::b::rest) pos) (zj ta tb):=by
 intro pins s Z H Q I h;refine BoolOp_or (thn (ha pins s Z H _ I h) fun v s1 hZ=>?_);obtain⟨x,H1,I1,r1,q1⟩:=hZ;obtain⟨c,rfl,q1⟩:=q1;cases r1;refine jc8 ?_;cases c with
 | false=>exact hb pins s1 Z H1 Q I1 q1
 | true=>exact⟨.bl true,H1,I1,rfl,q1⟩
noncomputable def tIf(t:TT)(ta tb:TE):TE:=fun Z H Q=>t Z H fun c H1=>if c=true then ta Z H1 Q else tb Z H1 Q
theorem Ds{c:Expr}(hc:PT X c tA)(ha:PE X a ta)(hb:PE X b tb):PE X (.IfExp c a b pos) (tIf tA ta tb):=by
 intro pins s Z H Q I h;refine wpAny_IfExp (thn (hc pins s Z H _ I h) fun d s1 hZ=>?_);obtain⟨H1,I1,q1⟩:=hZ;cases d with
 | true=>exact ha pins s1 Z H1 Q I1 q1
 | false=>exact hb pins s1 Z H1 Q I1 q1
end
noncomputable def SqL(K:Fr)(H:Hp)(a:Addr)(xs:List V):Prop:=
 Rd H a (.lst xs)\/
  ∃(o:Obj) (its:Array Value) (n:Nat),K.lookup a=some o/\o.cls=.type "list"/\o.dict=none/\o.data=.seq its n/\its.size<=sizeLine/\Vals xs its.toList
noncomputable def SqT(K:Fr)(H:Hp)(a:Addr)(xs:List V):Prop:=
 Rd H a (.tup xs)\/
  ∃(o:Obj) (its:Array Value) (n:Nat),K.lookup a=some o/\o.cls=.type "tuple"/\o.data=.seq its n/\its.size<=sizeLine/\Vals xs its.toList
noncomputable def ACk:Value->Option V
 | .none=>some .non
 | .bool b=>some (.bl b)
 | .int i _=>some (.int i)
 | .str x _=>some (.str x)
 | .bytes b _=>some (.byt b)
 | .float b _=>some (.flt b)
 | .ref a=>some (.ref a)
 | .type n=>some (.ty n)
 | _=>none
theorem RelV.abs{x:V}(r:RelV x u):ACk u=some x:=by
 cases x with
 | non=>cases r;rfl
 | bl _=>cases r;rfl
 | int _=>obtain⟨t,rfl⟩:=r;rfl
 | str _=>obtain⟨t,rfl⟩:=r;rfl
 | byt _=>obtain⟨t,rfl⟩:=r;rfl
 | flt _=>obtain⟨t,rfl⟩:=r;rfl
 | ref _=>cases r;rfl
 | ty _=>cases r;rfl
theorem RelV.inj{x y:V}(r:RelV x u)(q:RelV y u):x=y:=ki (r.abs.symm.trans q.abs)
theorem Vals.inj:∀{xs ys:List V} {us:List Value},Vals xs us->Vals ys us->xs=ys
 | _,_,_,.nil,.nil=>rfl
 | _,_,_,.cons r t,.cons r' t'=>by rw[r.inj r',Vals.inj t t']
variable{K:Fr}
section
variable{X:Cx}{pins:List (Addr×Obj)}{Z:St}{H:Hp}{s:Shared}{a:Addr}{xs ys:List V}
theorem SqL.of(h:H a=some (.lst xs)):SqL K H a xs:=.inl (.inl h)
theorem SqT.of(h:H a=some (.tup xs)):SqT K H a xs:=.inl (.inl h)
theorem Inv.list(I:Inv X pins Z H s)(h:SqL X.K H a xs):∃its:List Value,Vals xs its/\PlainL s.heap a its.toArray/\xs.length<=sizeLine:=by
 rcases h with h | ⟨o,its,n,hk,hc,hd,hs,hz,r⟩
 ·obtain⟨z,its,n,r,e⟩:=h.ok I.hok;exact⟨its,r,⟨_,n,e,rfl,rfl,rfl⟩,z⟩
 ·refine⟨its.toList,r,⟨o,n,I.kIn a o hk,hc,hd,by simpa using hs⟩,?_⟩;have e:=r.length;simp only[ko] at e;lia
theorem Inv.tuple(I:Inv X pins Z H s)(h:SqT X.K H a xs):∃its:List Value,Vals xs its/\IsTup s.heap a its.toArray/\xs.length<=sizeLine:=by
 rcases h with h | ⟨o,its,n,hk,hc,hs,hz,r⟩
 ·obtain⟨z,its,r,p⟩:=h.ok I.hok;exact⟨its,r,p,z⟩
 ·refine⟨its.toList,r,⟨o,I.kIn a o hk,hc,n,by simpa using hs⟩,?_⟩;have e:=r.length;simp only[ko] at e;lia
theorem Inv.list_inj(I:Inv X pins Z H s)(h:SqL X.K H a xs)(h':SqL X.K H a ys):xs=ys:=by
 obtain⟨its,r,⟨o,n,e,_,_,d⟩,_⟩:=I.list h;obtain⟨its',r',⟨o',n',e',_,_,d'⟩,_⟩:=I.list h';rw[e] at e';cases e';rw[d] at d';injection d' with d1 _;have:its=its':=by simpa using xo Array.toList d1
 subst this;exact r.inj r'
theorem Inv.tuple_inj(I:Inv X pins Z H s)(h:SqT X.K H a xs)(h':SqT X.K H a ys):xs=ys:=by
 obtain⟨its,r,⟨o,e,_,n,d⟩,_⟩:=I.tuple h;obtain⟨its',r',⟨o',e',_,n',d'⟩,_⟩:=I.tuple h';rw[e] at e';cases e';rw[d] at d';injection d' with d1 _;have:its=its':=by simpa using xo Array.toList d1
 subst this;exact r.inj r'
end
noncomputable abbrev Cx.wish(X:Cx)(E:Value->Shared->Prop):Cx:={ X with xe:=E }
noncomputable abbrev Cx.nox(X:Cx):Cx:=X.wish fun _ _=>False
theorem Cx.Ok.wish{X:Cx}(ok:X.Ok)(E:Value->Shared->Prop):(X.wish E).Ok:=
 ⟨ok.mod,ok.kind,ok.glob,ok.blt,ok.above,ok.inj,ok.has,ok.cab,ok.hd,ok.frames,ok.stk,ok.exf,ok.bs,ok.bsz,ok.noex,ok.exfs,ok.funs,ok.frf⟩
theorem Cx.Ok.unwish{X:Cx}{E:Value->Shared->Prop}(ok:(X.wish E).Ok):X.Ok:=
 ⟨ok.mod,ok.kind,ok.glob,ok.blt,ok.above,ok.inj,ok.has,ok.cab,ok.hd,ok.frames,ok.stk,ok.exf,ok.bs,ok.bsz,ok.noex,ok.exfs,ok.funs,ok.frf⟩
section
variable{X:Cx}{pins:List (Addr×Obj)}{Z:St}{H:Hp}{s:Shared}{E:Value->Shared->Prop}
theorem Inv.wish(I:Inv X pins Z H s)(E:Value->Shared->Prop):Inv (X.wish E) pins Z H s:=⟨I.ok.wish E,I.os,I.bare,I.base,I.loc,I.cell,I.free,I.freeC,I.pin,I.hok,I.len⟩
theorem Inv.unwish(I:Inv (X.wish E) pins Z H s):Inv X pins Z H s:=⟨I.ok.unwish,I.os,I.bare,I.base,I.loc,I.cell,I.free,I.freeC,I.pin,I.hok,I.len⟩
theorem SP.unwish{D:Ends}{f:Flow}{s':Shared}(h:SP (X.wish E) pins D f s'):SP X pins D f s':=by
 cases f with
 | next=>obtain⟨Z',H',I,q⟩:=h;exact⟨Z',H',I.unwish,q⟩
 | brk=>obtain⟨Z',H',I,q⟩:=h;exact⟨Z',H',I.unwish,q⟩
 | cont=>obtain⟨Z',H',I,q⟩:=h;exact⟨Z',H',I.unwish,q⟩
 | ret u=>obtain⟨v,Z',H',I,r,q⟩:=h;exact⟨v,Z',H',I.unwish,r,q⟩
theorem PSs.nox{st:List Stmt}{t:TS}(h:PSs X.nox st t):PSs X st t:=fun pins s Z H D I hw=>
 kq (h pins s Z H D (I.wish _) hw) (fun _ _ q=>q.unwish) fun _ _ z=>False.elim z
end
section
variable{X:Cx}{st:Stmt}{rest:List Stmt}{t u:TS}{e:Expr}{te:TE}{pos:Pos}
noncomputable def uv:TS:=fun D Z H=>D.nx Z H
noncomputable def wA(t u:TS):TS:=fun D Z H=>t { D with nx:=u D } Z H
theorem Aq:PSs X [] uv:=fun _ _ Z H _ I h=>wpAny_execs_nil ⟨Z,H,I,h⟩
theorem Ac(h1:PS X st t)(h2:PSs X rest u):PSs X (st::rest) (wA t u):=by
 intro pins s Z H D I h;refine wpAny_execs_cons (thn (h1 pins s Z H { D with nx:=u D } I h) fun f s1 q=>?_);cases f with
 | next=>
  obtain⟨Z',H',I',q⟩:=q;exact h2 pins s1 Z' H' D I' q
 | ret v=>exact q
 | brk=>exact q
 | cont=>exact q
theorem Ad(h1:PS X st t):PSs X [st] t:=by
 intro pins s Z H D I h;refine wpAny_execs_cons (thn (h1 pins s Z H D I h) fun f s1 q=>?_);cases f with
 | next=>exact wpAny_execs_nil q
 | ret v=>exact q
 | brk=>exact q
 | cont=>exact q
theorem Inv.quiet{s:Shared}(I:Inv X pins Z H s):interactive X.env=false:=by simp[interactive,I.ok.kind]
noncomputable def ux(te:TE):TS:=fun D Z H=>te Z H fun _ H1=>D.nx Z H1
theorem BR(he:PE X e te)(hs:swapsWith e none pos.line X.env=pure false:=by rfl):PS X (.Expr e pos) (ux te):=by
 intro pins s Z H D I h;exact wpAny_Expr_any (thn (he pins s Z H _ I h) fun v s1 ⟨x,H1,I1,r1,q1⟩=>⟨Z,H1,I1,q1⟩) I.quiet hs
noncomputable def zf(te:TE):TS:=fun D Z H=>te Z H D.rt
theorem Al(he:PE X e te):PS X (.Return (some e) pos) (zf te):=by
 intro pins s Z H D I h;exact wpAny_Return_some (thn (he pins s Z H _ I h) fun v s1 ⟨x,H1,I1,r1,q1⟩=>⟨x,Z,H1,I1,r1,q1⟩)
noncomputable def zx(c:TT)(t u:TS):TS:=fun D Z H=>c Z H fun b H1=>if b=true then t D Z H1 else u D Z H1
theorem Ay{c:Expr}{a b:List Stmt}{tc:TT}(hc:PT X c tc)(ha:PSs X a t)(hb:PSs X b u):PS X (.If c a b pos) (zx tc t u):=by
 intro pins s Z H D I h;refine wpAny_If (thn (hc pins s Z H _ I h) fun d s1 hZ=>?_);obtain⟨H1,I1,q1⟩:=hZ;cases d with
 | true=>exact ha pins s1 Z H1 D I1 q1
 | false=>exact hb pins s1 Z H1 D I1 q1
noncomputable def wB:TS:=fun _ _ _=>False
theorem BX:PS X st wB:=fun _ _ _ _ _ _ h=>h.elim
end
noncomputable abbrev TG:=V->St->Hp->(St->Hp->Prop)->Prop
noncomputable abbrev TGs:=List V->St->Hp->(St->Hp->Prop)->Prop
noncomputable def PG(X:Cx)(target:Expr)(t:TG):Prop:=
 ∀(pins:List (Addr×Obj)) (s:Shared) (Z:St) (H:Hp) (v:V) (u:Value) (Q:St->Hp->Prop),Inv X pins Z H s->RelV v u->t v Z H Q->
  wpAny (model X.prog X.w) X.A (assign target X.env u) (fun _ s'=>∃Z' H',Inv X pins Z' H' s'/\Q Z' H') X.xe s
noncomputable def PGs(X:Cx)(ts:List Expr)(t:TGs):Prop:=
 ∀(pins:List (Addr×Obj)) (s:Shared) (Z:St) (H:Hp) (vs:List V) (us:List Value) (Q:St->Hp->Prop),Inv X pins Z H s->Vals vs us->t vs Z H Q->
  wpAny (model X.prog X.w) X.A (assignInOrder ((assignEach ts X.env).map (·.2)) us) (fun _ s'=>∃Z' H',Inv X pins Z' H' s'/\Q Z' H') X.xe s
noncomputable abbrev uY:=V->V->V->Hp->(Hp->Prop)->Prop
noncomputable def ABr(X:Cx)(t:uY):Prop:=
 ∀(pins:List (Addr×Obj)) (s:Shared) (Z:St) (H:Hp) (o i v:V) (ov iv u:Value) (Q:Hp->Prop),Inv X pins Z H s->RelV o ov->RelV i iv->RelV v u->t o i v H Q->
  wpAny (model X.prog X.w) X.A (setItem ov iv u) (fun _ s'=>∃H',Inv X pins Z H' s'/\Q H') X.xe s
section
variable{X:Cx}{pos:Pos}
noncomputable def Il(i:Nat):TG:=fun v Z H Q=>Q (Z.set i (some v)) H
theorem FJ{i:Nat}(hN:X.N.Nodup)(hi:X.N[i]?=some x)(hx:Loc X.env.scope x)(hf:X.fn x=true\/X.env.scope.names.lookup x=some .local:=by first | exact .inl rfl | exact .inr rfl | assumption):PG X (.Name x pos) (Il i):=by
 intro pins s Z H v u Q I r h;exact wpAny_assign_Name (Ji I hN hi hx r (fun s' I'=>⟨_,H,I',h⟩) hf)
noncomputable def ym:TGs:=fun vs Z H Q=>vs=[]/\Q Z H
noncomputable def Yp(t:TG)(u:TGs):TGs:=fun vs Z H Q=>∃v r,vs=v::r/\t v Z H fun Z' H'=>u r Z' H' Q
theorem c7:PGs X [] ym:=by
 intro pins s Z H vs us Q I r h;obtain⟨e,h⟩:=h;subst e;cases r;exact assignInOrder_nil ⟨Z,H,I,h⟩
theorem Lw{e:Expr}{es:List Expr}{t:TG}{u:TGs}(h1:PG X e t)(h2:PGs X es u)
 (hs:(assignEach (e::es) X.env).map (·.2)=assign e X.env::(assignEach es X.env).map (·.2):=by rfl):PGs X (e::es) (Yp t u):=by
 intro pins s Z H vs us Q I r h;obtain⟨v,vr,e1,h⟩:=h;subst e1;cases r with
 | cons r rr=>
  rw[hs];refine assignInOrder_cons (thn (h1 pins s Z H _ _ _ I r h) fun _ s1 hZ=>?_);obtain⟨σ1,H1,I1,q1⟩:=hZ;exact h2 pins s1 σ1 H1 _ _ Q I1 rr q1
noncomputable def tW(K:Fr)(n:Nat)(t:TGs):TG:=fun v Z H Q=>∃a xs,v=.ref a/\SqT K H a xs/\xs.length=n/\t xs Z H Q
theorem yI{es:List Expr}{k:Nat}{t:TGs}{n:Nat}(hc:X.calm=true)(h:PGs X es t)
 (hn:(assignEach es X.env).length=n:=by rfl)(hst:(assignEach es X.env).findIdx? (·.1)=none:=by rfl):PG X (.Tuple es k pos) (tW X.K n t):=by
 intro pins s Z H v u Q I r hw;obtain⟨a,xs,e1,hq,hl,hw⟩:=hw;subst e1;cases r;obtain⟨its,rv,ht,hz⟩:=I.tuple hq;refine assign_Tuple_tuple (I.ok.hd hc) ht (by simp[hn,<-hl,rv.length]) hst fun h' hx=>?_;have I1:Inv X pins Z H { s with heap:=h' }:=I.kept (t':=s.toks) fun b o e=>hx b o (uj (zo e)) e;exact h pins _ Z H xs _ Q I1 (by simpa using rv) hw
noncomputable def ABX(to ti:TE)(t:uY):TG:=fun v Z H Q=>to Z H fun o H1=>ti Z H1 fun i H2=>t o i v H2 fun H3=>Q Z H3
theorem lZ{o i:Expr}{to ti:TE}{t:uY}(ho:PE X o to)(hi:PE X i ti)(hs:ABr X t)
 (ha:∀v,assign (.Subscript o i pos) X.env v=(do
  let ov <-holding [v] (eval o X.env)
  let iv <-holding [v,ov] (eval i X.env)
  standAt pos
  holding [v,ov,iv] (setItem ov iv v)
  release [v,ov,iv] []):=by intro _;rfl):PG X (.Subscript o i pos) (ABX to ti t):=by
 intro pins s Z H v u Q I r h;rw[ha];refine jv (wpAny_holding (thn (ho pins s Z H _ I h) fun ov s1 hZ=>?_));obtain⟨x,H1,I1,r1,q1⟩:=hZ;refine jv (wpAny_holding (thn (hi pins s1 Z H1 _ I1 q1) fun iv s2 hZ=>?_));obtain⟨y,H2,I2,r2,q2⟩:=hZ;refine jv (wpAny_standAt (jv (wpAny_holding (thn (hs pins s2 Z H2 x y v ov iv u _ I2 r1 r2 r q2) fun _ s3 hZ=>?_))));obtain⟨H3,I3,q3⟩:=hZ;exact wpAny_release ⟨Z,H3,I3,q3⟩
noncomputable def fJ(te:TE)(g:TG):TS:=fun D Z H=>te Z H fun x H1=>g x Z H1 D.nx
theorem lU{tg e:Expr}{te:TE}{g:TG}(he:PE X e te)(hg:PG X tg g)(hs:swapsWithSole [tg] e pos.line X.env=pure false:=by rfl)(hw:swappedStores [tg] e X.env=pure none:=by rfl)
 (h1:(assignEach [tg] X.env).map (·.2)=[assign tg X.env]:=by rfl):PS X (.Assign [tg] e pos) (fJ te g):=by
 intro pins s Z H D I h;refine wpAny_Assign_stores (thn (he pins s Z H _ I h) fun v s1 hZ=>?_) hs hw;obtain⟨x,H1,I1,r1,q1⟩:=hZ;rw[h1];exact thn (hg pins s1 Z H1 x v _ I1 r1 q1) fun _ s2 q=>q
theorem Ak(i:Nat){x:Str}{e:Expr}{te:TE}{pos':Pos}(he:PE X e te)(hN:X.N.Nodup:=by assumption)(hi:X.N[i]?=some x:=by exact rfl)(hx:Loc X.env.scope x:=by walk_at"o")(hs:swapsWith e (some (.Name x pos')) pos.line X.env=pure false:=by rfl)(hf:X.fn x=true\/X.env.scope.names.lookup x=some .local:=by first | exact .inl rfl | exact .inr rfl | assumption):
 PS X (.Assign [.Name x pos'] e pos) (fJ te (Il i)):=by
 intro pins s Z H D I h;refine wpAny_Assign_Name (thn (he pins s Z H _ I h) fun v s1 hZ=>?_) hs;obtain⟨y,H1,I1,r1,q1⟩:=hZ;exact Ji I1 hN hi hx r1 (fun s2 I2=>⟨_,H1,I2,q1⟩) hf
noncomputable def zg(i j:Nat)(ta:TA):TS:=fun D Z H=>ta Z H fun vs H1=>∃v w,vs=[v,w]/\D.nx ((Z.set i (some v)).set j (some w)) H1
theorem yE{i j:Nat}{y:Str}{a b:Expr}{ta:TA}{px py pt:Pos}{kt k2 pt2}(hc:X.calm=true)(hN:X.N.Nodup)(hi:X.N[i]?=some x)(hj:X.N[j]?=some y)(hij:i≠j)
 (hx:X.env.scope.names.lookup x=some .local)(hy:X.env.scope.names.lookup y=some .local)(ha:PA X [a,b] ta)
 (hw:swappedStores [.Tuple [.Name x px,.Name y py] kt pt] (.Tuple [a,b] k2 pt2) X.env=pure (some [x,y]))
 (hs:swapsWithSole [.Tuple [.Name x px,.Name y py] kt pt] (.Tuple [a,b] k2 pt2) pos.line X.env=pure false:=by rfl):
 PS X (.Assign [.Tuple [.Name x px,.Name y py] kt pt] (.Tuple [a,b] k2 pt2) pos) (zg i j ta):=by
 intro pins s Z H D I h;rw[exec_Assign_arm];refine jv (wpAny_standAt ?_);rw[hs];refine jv (xp ?_);rw[yv (by decide)];refine jv (Tuple_ (thn (ha _ pins s Z H _ I h) fun us s1 hZ=>?_));obtain⟨vs,H1,I1,r1,q1⟩:=hZ;obtain⟨v,w,e1,q1⟩:=q1;subst e1;obtain⟨u1,u2,rfl,rv,rw'⟩:∃u1 u2,us=[u1,u2]/\RelV v u1/\RelV w u2:=by
  cases r1 with
  | cons p q=>
   cases q with
   | cons p' q'=>
    cases q';exact⟨_,_,rfl,p,p'⟩
 refine wpAny_newObj_type ?_ (by show 2<=sizeLine;decide);have I2:Inv X pins Z H1 { s1 with heap:=s1.heap.push { cls:=.type "tuple",data:=.seq [u1,u2].toArray } }:=I1.kept (t':=s1.toks) fun b o e=>js _ e;rw[hw];refine jv (xp ?_);show wpAny (model X.prog X.w) X.A (do rule "assign.swapped-stores";let items <-unpackItems (.ref s1.heap.objs.size) 2 none;assignInOrder [fun v=>bindName X.env y v,fun v=>bindName X.env x v] items.reverse;pure Flow.next) _ _ _
 refine jv (wpAny_rule (jv (unpackItems_tuple (items:= #[u1,u2]) (I.ok.hd hc) (IsTup.new s1.heap _) fun h' hx'=>?_)));have I3:=I2.kept (h':=h') (t':=s1.toks) fun b o e=>hx' b o (uj (zo e)) e;show wpAny _ _ (assignInOrder [fun v=>bindName X.env y v,fun v=>bindName X.env x v] [u2,u1] >>= fun _=>pure Flow.next) _ _ _
 refine jv (assignInOrder_cons (wpAny_bindName (Ji I3 hN hj (.inl hy) rw' (fun s2 I4=>?_) (.inr hy))));refine assignInOrder_cons (wpAny_bindName (Ji I4 hN hi (.inl hx) rv (fun s3 I5=>assignInOrder_nil (xp ?_)) (.inr hx)));rw[List.set_comm _ _ (Ne.symm hij)] at I5;exact⟨_,H1,I5,q1⟩
end
section
variable{X:Cx}{pos:Pos}
noncomputable def vz(c:TT)(tb:TS):TS:=fun D Z H=>∃W:Nat->St->Hp->Prop,(∃m,W m Z H)/\∀m Z H,W m Z H->
 c Z H fun b H1=>if b=true then ∃N:St->Hp->Prop,(∀Z' H',N Z' H'->∃m',m'<m/\W m' Z' H')/\tb { D with nx:=N,ct:=N,bk:=D.nx } Z H1 else D.nx Z H1
theorem FT{c:Expr}{body:List Stmt}{tc:TT}{tb:TS}(hp:PassesOwn (model X.prog X.w) X.A X.env X.xe)(hc:PT X c tc)(hb:PSs X body tb):PS X (.While c body [] pos) (vz tc tb):=by
 intro pins s Z H D I h;obtain⟨W,⟨m0,w0⟩,turn⟩:=h;refine wpAny_While (codeAny_whileLoop (fun n s'=>∃Z' H',Inv X pins Z' H' s'/\W n Z' H') ?_ m0 ⟨Z,H,I,w0⟩);rintro n s1 ⟨σ1,H1,I1,w1⟩;refine jg4 hp (thn (hc pins s1 σ1 H1 _ I1 (turn n σ1 H1 w1)) fun b s2 hZ=>?_);obtain⟨H2,I2,q2⟩:=hZ;cases b with
 | true=>
  obtain⟨N,hN,q2⟩:=q2;rw[xz rfl];refine jg4 hp (thn (hb pins s2 σ1 H2 _ I2 q2) fun f s3 q3=>?_);cases f with
  | next=>
   obtain⟨σ3,H3,I3,n3⟩:=q3;obtain⟨m',hm,w3⟩:=hN σ3 H3 n3;exact⟨m',hm,σ3,H3,I3,w3⟩
  | cont=>
   obtain⟨σ3,H3,I3,n3⟩:=q3;obtain⟨m',hm,w3⟩:=hN σ3 H3 n3;exact⟨m',hm,σ3,H3,I3,w3⟩
  | brk=>exact q3
  | ret v=>exact q3
 | false=>
  rw[yv ze];exact wpAny_execs_nil ⟨σ1,H2,I2,q2⟩
end
structure It where
 go:Nat->Hp->Prop
 yld:Nat->Hp->V->Hp->Prop
 stop:Nat->Hp->Prop
noncomputable def Ih(X:Cx)(pins:List (Addr×Obj))(H:Hp)(b:Addr):Prop:=
 H b=none/\b≠X.env.locals/\b∉X.fs/\(b∈X.ex\/X.s₀.heap.objs.size<=b)/\(∀x c,X.env.cells.lookup x=some c->c≠b)/\∀p∈X.pn++pins,p.1≠b
theorem Inv.fpOk{X:Cx}{H':Hp}{s:Shared}{b:Addr}(I:Inv X pins Z H s)(hb:s.heap.objs.size<=b)(hn:H' b=none):Ih X pins H' b:=by
 refine⟨hn,Nat.ne_of_gt (xh I.lt hb),I.nofs hb,.inr (zv I.sz hb),fun x c e z=>?_,fun p hp z=>?_⟩
 ·obtain⟨v,q⟩:=I.cell x c e;exact absurd (xh q.lt (by rw[z];exact hb)) (jc9 _)
 ·exact absurd (xh (zo (I.pin p hp).1) (by rw[z];exact hb)) (jc9 _)
structure Turn(P:Program)(w:World)(K:Fr)(tg:Expr)(J:It)(fp:List Addr)(it:Addr)(tn:Nat->Heap->Prop):Prop where
 mem:it∈fp
 obj:∀i h,tn i h->∀b∈fp,∃o,h.get? b=some o/\∀v,o.data≠.cell v
 keep:∀i h h',tn i h->(∀b∈fp,∀o,h.get? b=some o->h'.get? b=some o)->tn i h'
 item:∀(X:Cx),X.prog=P->X.w=w->X.K=K->X.calm=true->∀(i:Nat) (pins:List (Addr×Obj)) (s:Shared) (Z:St) (H:Hp) (E:Value->Shared->Prop),Inv X pins Z H s->(∀b∈fp,Ih X pins H b)->tn i s.heap->J.go i H->
  wpAny (model P w) X.A (pyNext (.ref it)) (fun r s1=>∃u,r=some u/\
   wpAny (model P w) X.A (letOwnedTupleGo tg (.ref it) u) (fun _ s2=>∃x H',Inv X pins Z H' s2/\RelV x u/\J.yld i H x H'/\tn (i+1) s2.heap/\∀b∈fp,H' b=none) E s1) E s
 done:∀(X:Cx),X.prog=P->X.w=w->X.K=K->X.calm=true->∀(i:Nat) (pins:List (Addr×Obj)) (s:Shared) (Z:St) (H:Hp) (E:Value->Shared->Prop),Inv X pins Z H s->(∀b∈fp,Ih X pins H b)->tn i s.heap->J.stop i H->
  wpAny (model P w) X.A (pyNext (.ref it)) (fun r s1=>r=none/\Inv X pins Z H s1) E s
 self:∀(A:Around) (i:Nat) (s:Shared) (Q:Value->Shared->Prop) (E:Value->Shared->Prop),tn i s.heap->Q (.ref it) s->wpAny (model P w) A (pyIter (.ref it)) Q E s
noncomputable abbrev TI:=St->Hp->(It->Hp->Prop)->Prop
noncomputable def PIE(X:Cx)(pins:List (Addr×Obj))(Z:St)(tg:Expr)(R:It->Hp->Prop)(itv:Value)(s2:Shared):Prop:=
 ∃(it:Addr) (fp:List Addr) (tn:Nat->Heap->Prop) (J:It) (H':Hp),itv=.ref it/\Inv X pins Z H' s2/\Turn X.prog X.w X.K tg J fp it tn/\tn 0 s2.heap/\(∀b∈fp,Ih X pins H' b)/\R J H'
noncomputable def PI(X:Cx)(tg iter:Expr)(wi:TI):Prop:=
 ∀(pins:List (Addr×Obj)) (s:Shared) (Z:St) (H:Hp) (R:It->Hp->Prop),Inv X pins Z H s->wi Z H R->
  wpAny (model X.prog X.w) X.A (eval iter X.env) (fun v s1=>wpAny (model X.prog X.w) X.A (pyIter v) (PIE X pins Z tg R) X.xe s1) X.xe s
theorem Yo{M:Model}{E:Value->Shared->Prop}{s:Shared}{tg:Expr}{it:Addr}{o:Obj}{n:String}{vs:Array Value}{Q:Unit->Shared->Prop}(ho:s.heap.get? it=some o)(hc:o.cls=.type n)(hd:o.data=.fields vs)
 (hn:["enumerate","zip","dict_itemiterator","dict_reverseitemiterator","odict_iterator","itertools.zip_longest","itertools.pairwise"].contains n=false)(hQ:Q () s):wpAny M A (letOwnedTupleGo tg (.ref it) u) Q E s:=by
 unfold letOwnedTupleGo;cases tg<;>first
  | exact xp hQ
  | (cases u<;>first
   | exact xp hQ
   | (refine jv (wpAny_load ho ?_)
      rw[hc,hd];show wpAny M A (if (["enumerate","zip","dict_itemiterator","dict_reverseitemiterator","odict_iterator","itertools.zip_longest","itertools.pairwise"].contains n&&vs[0]?==some (rawInt _))=true then _ else _) Q E s;rw[yv (by intro h;rw[hn,Bool.false_and] at h;cases h)];exact xp hQ))
noncomputable def Itl(K:Fr)(a:Addr):It:=
 ⟨fun i H=>∃xs x,SqL K H a xs/\xs[i]?=some x,fun i H x H'=>H'=H/\∀xs,SqL K H a xs->xs[i]?=some x,fun i H=>∃xs,SqL K H a xs/\xs.length<=i⟩
noncomputable def Itt(K:Fr)(a:Addr):It:=
 ⟨fun i H=>∃xs x,SqT K H a xs/\xs[i]?=some x,fun i H x H'=>H'=H/\∀xs,SqT K H a xs->xs[i]?=some x,fun i H=>∃xs,SqT K H a xs/\xs.length<=i⟩
noncomputable def Itr(lo:Int)(n:Nat):It:=⟨fun i _=>i<n,fun i H x H'=>H'=H/\x=.int (lo+i),fun i _=>n<=i⟩
theorem fH{P:Program}{w:World}{tg:Expr}(a it:Addr):Turn P w K tg (Itl K a) [it] it (fun i h=>h.IsListIter it a i) where
 mem:=by simp
 obj:=fun i h st b hb=>by
  have e:b=it:=by simpa using hb
  subst e;obtain⟨o,e,c,d⟩:=st;exact⟨o,e,fun v z=>by rw[d] at z;cases z⟩
 keep:=fun i h h' st k=>st.at fun o e=>k it (by simp) o e
 item:=by
  intro X hP hw hK hc i pins s Z H E I hf st hg;subst hP hw hK;obtain⟨xs,x,hq,hx⟩:=hg;obtain⟨its,rv,p,hz⟩:=I.list hq;obtain⟨u,hu,ru⟩:=rv.get hx;obtain⟨f0,f1,f2,f3,f4,f5⟩:=hf it (by simp);refine wpAny_pyNext_list_item st p.isList (x:=u) (by simpa using hu) fun h' st' sb=>?_;have I1:Inv X pins Z H { s with heap:=h' }:=I.turned (t':=s.toks) (fun b o hb e=>(sb.2 b hb).trans e) f0 f1 f3 f4 f5;obtain⟨o,e,c,d⟩:=id st';exact⟨u,rfl,Yo (s:={ s with heap:=h' }) e c d (by decide) ⟨x,H,I1,ru,⟨rfl,fun ys hy=>by rw[I.list_inj hy hq];exact hx⟩,st',fun b hb=>(hf b hb).1⟩⟩
 done:=by
  intro X hP hw hK hc i pins s Z H E I hf st hg;subst hP hw hK;obtain⟨xs,hq,hx⟩:=hg;obtain⟨its,rv,p,hz⟩:=I.list hq;obtain⟨f0,f1,f2,f3,f4,f5⟩:=hf it (by simp);have hl:=rv.length;exact wpAny_pyNext_list_end (I.ok.hd hc) st p.isList (by simp;lia) fun h' eb=>⟨rfl,I.turned (t':=s.toks) (fun b o hb e=>eb b o hb e) f0 f1 f3 f4 f5⟩
 self:=fun _ _ _ _ _ st h=>wpAny_pyIter_listiter st h
theorem Zu{P:Program}{w:World}{tg:Expr}(a it:Addr):Turn P w K tg (Itt K a) [it] it (fun i h=>h.IsTupleIter it a i) where
 mem:=by simp
 obj:=fun i h st b hb=>by
  have e:b=it:=by simpa using hb
  subst e;obtain⟨o,e,c,d⟩:=st;exact⟨o,e,fun v z=>by rw[d] at z;cases z⟩
 keep:=fun i h h' st k=>st.at fun o e=>k it (by simp) o e
 item:=by
  intro X hP hw hK hc i pins s Z H E I hf st hg;subst hP hw hK;obtain⟨xs,x,hq,hx⟩:=hg;obtain⟨its,rv,p,hz⟩:=I.tuple hq;obtain⟨u,hu,ru⟩:=rv.get hx;obtain⟨f0,f1,f2,f3,f4,f5⟩:=hf it (by simp);refine wpAny_pyNext_tuple_item st (show s.heap.IsTuple a its.toArray from p) (x:=u) (by simpa using hu) fun h' st' sb=>?_;have I1:Inv X pins Z H { s with heap:=h' }:=I.turned (t':=s.toks) (fun b o hb e=>(sb.2 b hb).trans e) f0 f1 f3 f4 f5;obtain⟨o,e,c,d⟩:=id st';exact⟨u,rfl,Yo (s:={ s with heap:=h' }) e c d (by decide) ⟨x,H,I1,ru,⟨rfl,fun ys hy=>by rw[I.tuple_inj hy hq];exact hx⟩,st',fun b hb=>(hf b hb).1⟩⟩
 done:=by
  intro X hP hw hK hc i pins s Z H E I hf st hg;subst hP hw hK;obtain⟨xs,hq,hx⟩:=hg;obtain⟨its,rv,p,hz⟩:=I.tuple hq;obtain⟨f0,f1,f2,f3,f4,f5⟩:=hf it (by simp);have hl:=rv.length;exact wpAny_pyNext_tuple_end (I.ok.hd hc) st (show s.heap.IsTuple a its.toArray from p) (by simp;lia) fun h' eb=>⟨rfl,I.turned (t':=s.toks) (fun b o hb e=>eb b o hb e) f0 f1 f3 f4 f5⟩
 self:=fun _ _ _ _ _ st h=>wpAny_pyIter_tupleiter st h
theorem Zv{P:Program}{w:World}{tg:Expr}(it:Addr)(lo:Int)(n:Nat):Turn P w K tg (Itr lo n) [it] it (fun i h=>IsRangeIter h it (lo+(i:Nat)*1) ((n:Int)-(i:Nat)) 1) where
 mem:=by simp
 obj:=fun i h st b hb=>by
  have e:b=it:=by simpa using hb
  subst e;exact⟨_,st,fun v z=>by
   have z':Data.fields _=Data.cell v:=z;cases z'⟩
 keep:=fun i h h' st k=>k it (by simp) _ st
 item:=by
  intro X hP hw hK hc i pins s Z H E I hf st hg;subst hP hw hK;obtain⟨f0,f1,f2,f3,f4,f5⟩:=hf it (by simp);have W:=Walks.range (prog:=X.prog) (w:=X.w) (I.ok.hd hc) it lo 1 n;refine W.item i s _ _ hg st fun v h' tk hv st' kk=>?_;obtain⟨t,rfl⟩:=hv;have I1:Inv X pins Z H { s with heap:=h',toks:=tk }:=I.turned (fun b o hb e=>kk b o (by simpa using hb) e) f0 f1 f3 f4 f5;refine⟨_,rfl,Yo (s:={ s with heap:=h',toks:=tk }) (n:="range_iterator") st' rfl rfl (by decide) ⟨.int (lo+i),H,I1,⟨t,?_⟩,⟨rfl,rfl⟩,st',fun b hb=>(hf b hb).1⟩⟩;rw[Int.mul_one]
 done:=by
  intro X hP hw hK hc i pins s Z H E I hf st hg;subst hP hw hK;obtain⟨f0,f1,f2,f3,f4,f5⟩:=hf it (by simp);exact wpAny_pyNext_range_end (I.ok.hd hc) st (by have:n<=i:=hg;lia) fun h' eb=>⟨rfl,I.turned (t':=s.toks) (fun b o hb e=>eb b o hb e) f0 f1 f3 f4 f5⟩
 self:=fun _ _ _ _ _ st h=>wpAny_pyIter_rangeiter st h
section
variable{X:Cx}{tg:Expr}
noncomputable def vV(K:Fr)(tl:TE):TI:=fun Z H R=>tl Z H fun x H1=>∃a,x=.ref a/\(∃xs,SqL K H1 a xs)/\R (Itl K a) H1
noncomputable def tQ(K:Fr)(tl:TE):TI:=fun Z H R=>tl Z H fun x H1=>∃a,x=.ref a/\(∃xs,SqT K H1 a xs)/\R (Itt K a) H1
theorem Fx{l:Expr}{tl:TE}(hl:PE X l tl):PI X tg l (vV X.K tl):=by
 intro pins s Z H R I h;refine thn (hl pins s Z H _ I h) fun v s1 hZ=>?_;obtain⟨x,H1,I1,r1,q1⟩:=hZ;obtain⟨a,e,⟨xs,hq⟩,q⟩:=q1;subst e;cases r1;obtain⟨its,rv,p,hz⟩:=I1.list hq;refine wpAny_pyIter_list p.isList ?_;refine⟨s1.heap.objs.size,[s1.heap.objs.size],_,_,H1,rfl,I1.kept (t':=s1.toks) fun b o e=>js _ e,fH a _,⟨_,zw _ rfl,rfl,rfl⟩,fun b hb=>?_,q⟩;have e:b=s1.heap.objs.size:=by simpa using hb
 subst e;exact I1.fpOk (qh _) (I1.hok.fresh (qh _))
theorem RX{l:Expr}{tl:TE}(hl:PE X l tl):PI X tg l (tQ X.K tl):=by
 intro pins s Z H R I h;refine thn (hl pins s Z H _ I h) fun v s1 hZ=>?_;obtain⟨x,H1,I1,r1,q1⟩:=hZ;obtain⟨a,e,⟨xs,hq⟩,q⟩:=q1;subst e;cases r1;obtain⟨its,rv,p,hz⟩:=I1.tuple hq;refine wpAny_pyIter_tuple (show s1.heap.IsTuple a its.toArray from p) ?_;refine⟨s1.heap.objs.size,[s1.heap.objs.size],_,_,H1,rfl,I1.kept (t':=s1.toks) fun b o e=>js _ e,Zu a _,⟨_,zw _ rfl,rfl,rfl⟩,fun b hb=>?_,q⟩;have e:b=s1.heap.objs.size:=by simpa using hb
 subst e;exact I1.fpOk (qh _) (I1.hok.fresh (qh _))
theorem YW{s:Shared}{R:It->Hp->Prop}{E:Value->Shared->Prop}{lo hi:Int}{t u v:Tok}{tk:Nat}(I:Inv X pins Z H s)(h1: -(2^62)<=lo)(h2:lo<2^62)(h3: -(2^62)<=hi)(h4:hi<2^62)
 (q:R (Itr lo (hi-lo).toNat) H):wpAny (model X.prog X.w) X.A (pyIter (.ref s.heap.objs.size)) (PIE X pins Z tg R) E { s with heap:=s.heap.push { cls:=.type "range",data:=.fields #[.int lo t,.int hi u,.int 1 v] },toks:=tk }:=by
 refine wpAny_pyIter_range (IsRange.new ..) (small_one h1 h2 h3 h4) ?_;have I1:Inv X pins Z H { s with heap:=s.heap.push { cls:=.type "range",data:=.fields #[.int lo t,.int hi u,.int 1 v] },toks:=tk }:=I.kept fun b o e=>js _ e;refine⟨(s.heap.push { cls:=.type "range",data:=.fields #[.int lo t,.int hi u,.int 1 v] }).objs.size,[(s.heap.push { cls:=.type "range",data:=.fields #[.int lo t,.int hi u,.int 1 v] }).objs.size],_,_,H,rfl,
  I1.kept (t':=tk) fun b o e=>js _ e,Zv _ lo (hi-lo).toNat,?_,fun b hb=>?_,q⟩
 ·have e1:lo+((0:Nat):Int)*1=lo:=by simp
  have e2:(((hi-lo).toNat:Nat):Int)-((0:Nat):Int)=Builtin.Range.rangeSize lo hi 1:=by rw[rangeSize_one];split<;>lia
  show IsRangeIter _ _ (lo+((0:Nat):Int)*1) ((((hi-lo).toNat:Nat):Int)-((0:Nat):Int)) 1;rw[e1,e2];exact zw _ rfl
 ·have e:b=(s.heap.push { cls:=.type "range",data:=.fields #[.int lo t,.int hi u,.int 1 v] }).objs.size:=by simpa using hb
  subst e;exact I1.fpOk (qh _) (I1.hok.fresh (qh _))
noncomputable def vU(ta:TA):TI:=fun Z H R=>ta Z H fun vs H1=>∃j:Int,vs=[.int j]/\ -(2^62)<=j/\j<2^62/\R (Itr 0 j.toNat) H1
noncomputable def vR(ta:TA):TI:=fun Z H R=>ta Z H fun vs H1=>∃i j:Int,vs=[.int i,.int j]/\(-(2^62)<=i/\i<2^62/\ -(2^62)<=j/\j<2^62)/\R (Itr i (j-i).toNat) H1
theorem Nu{a:Expr}{ta:TA}{p:Pos}(hg:Gl X "range")(hm:X.mg "range"=none)(ha:PA X [a] ta)(hs:starEach [a] X.env=[(false,eval a X.env)]:=by rfl):PI X tg (.Call (.Name "range" p) [a] [] pos) (vU ta):=by
 intro pins s Z H R I h;refine Call_ (G8 I hg hm boot_range (ui (thn (ha pos pins s Z H _ I h) fun us s1 hZ=>?_) hs rfl));obtain⟨vs,H1,I1,r1,q1⟩:=hZ;obtain⟨j,e,q1,q2,q⟩:=q1;subst e;cases r1 with
 | cons r rr=>
  cases rr;obtain⟨t,rfl⟩:=r;exact call_range_1 (YW I1 (by lia) (by lia) q1 q2 (by simpa using q))
theorem gW{a b:Expr}{ta:TA}{p:Pos}(hg:Gl X "range")(hm:X.mg "range"=none)(ha:PA X [a,b] ta)(hs:starEach [a,b] X.env=[(false,eval a X.env),(false,eval b X.env)]:=by rfl)(hs2:starEach [b] X.env=[(false,eval b X.env)]:=by rfl):
 PI X tg (.Call (.Name "range" p) [a,b] [] pos) (vR ta):=by
 intro pins s Z H R I h;refine Call_ (G8 I hg hm boot_range (ui (thn (ha pos pins s Z H _ I h) fun us s1 ⟨vs,H1,I1,r1,q1⟩=>?_) (by rw[hs,hs2]) (by rw[hs2];rfl)));obtain⟨i,j,e,⟨q1,q2,q3,q4⟩,q⟩:=q1;subst e;cases r1 with
 | cons r rr=>
  cases rr with
  | cons r' rr=>
   cases rr;obtain⟨t,rfl⟩:=r;obtain⟨t',rfl⟩:=r';exact call_range_2 (YW I1 q1 q2 q3 q4 q)
noncomputable def zy(wi:TI)(g:TG)(tb:TS):TS:=fun D Z H=>wi Z H fun J H1=>∃W:Nat->Nat->St->Hp->Prop,(∃m,W 0 m Z H1)/\∀i m Z H,W i m Z H->
 (J.stop i H/\D.nx Z H)\/(J.go i H/\∃N:St->Hp->Prop,(∀Z' H',N Z' H'->∃m',m'<m/\W (i+1) m' Z' H')/\∀x H',J.yld i H x H'->g x Z H' fun σ2 H2=>tb { D with nx:=N,ct:=N,bk:=D.nx } σ2 H2)
noncomputable def K8(fp:List Addr)(h:Heap):List (Addr×Obj):=fp.filterMap fun b=>(h.get? b).map fun o=>(b,o)
theorem Gq{fp:List Addr}{h:Heap}{b:Addr}{o:Obj}(hb:b∈fp)(e:h.get? b=some o):(b,o)∈K8 fp h:=List.mem_filterMap.mpr ⟨b,hb,by rw[e];rfl⟩
theorem gb{fp:List Addr}{h:Heap}{p:Addr×Obj}(hp:p∈K8 fp h):p.1∈fp/\h.get? p.1=some p.2:=by
 obtain⟨b,hb,e⟩:=List.mem_filterMap.mp hp;cases q:h.get? b with
 | none=>rw[q] at e;cases e
 | some o=>
  rw[q] at e;have e':(b,o)=p:=ki e;subst e';exact⟨hb,q⟩
theorem Inv.pinned{s:Shared}{fp:List Addr}(I:Inv X pins Z H s)(hf:∀b∈fp,Ih X pins H b)(ho:∀b∈fp,∃o,s.heap.get? b=some o/\∀v,o.data≠.cell v):Inv X (pins++K8 fp s.heap) Z H s:=
 I.pins_of fun p hp=>(vx.mp hp).elim (fun z=>I.pin p (xy _ z)) fun z=>by
  obtain⟨hb,e⟩:=gb z;obtain⟨f0,f1,f2,_⟩:=hf p.1 hb;obtain⟨o,e',d⟩:=ho p.1 hb;rw[e] at e';cases e';exact⟨e,f0,f1,f2,d⟩
theorem Inv.unpinned{pl:List (Addr×Obj)}{s:Shared}(I:Inv X (pins++pl) Z H s):Inv X pins Z H s:=I.pins_of fun p hp=>I.pin p (xy _ (jg0 _ hp))
theorem Ib{iter:Expr}{body:List Stmt}{wi:TI}{g:TG}{tb:TS}(hp:PassesOwn (model X.prog X.w) X.A X.env X.xe)(hc:X.calm=true)(hi:PI X tg iter wi)(hg:PG X tg g)(hb:PSs X body tb)
 (hs:∀x,foldedSetIterable iter X.env x=pure x:=by intro _;rfl):PS X (.For tg iter body [] pos) (zy wi g tb):=by
 intro pins s Z H D I h;refine wpAny_For (thn (hi pins s Z H _ I h) fun v s1 h1=>thn h1 fun itv s2 h2=>?_) hs;obtain⟨it,fp,tn,J,H2,e,I2,T,st2,f2,W,⟨m0,w0⟩,turn⟩:=h2;subst e;have stat:∀{H':Hp},(∀b∈fp,H' b=none)->∀b∈fp,Ih X pins H' b:=fun hn b hb=>⟨hn b hb,(f2 b hb).2⟩;refine codeAny_forLoop_any (fun n s'=>∃i Z' H',Inv X pins Z' H' s'/\tn i s'.heap/\(∀b∈fp,H' b=none)/\W i n Z' H') ?_ m0 ⟨0,Z,H2,I2,st2,fun b hb=>(f2 b hb).1,w0⟩;rintro n s3 ⟨i,σ3,H3,I3,st3,fr3,w3⟩;rcases turn i n σ3 H3 w3 with ⟨stop,qn⟩ | ⟨go,N,hN,step⟩
 ·refine jg4 hp (thn (T.done X rfl rfl rfl hc i pins s3 σ3 H3 X.xe I3 (stat fr3) st3 stop) fun r s4 ⟨hr,I4⟩=>?_);subst hr;exact wpAny_execs_nil ⟨σ3,H3,I4,qn⟩
 ·refine jg4 hp (thn (T.item X rfl rfl rfl hc i pins s3 σ3 H3 X.xe I3 (stat fr3) st3 go) fun r s4 ⟨u,hr,h4⟩=>?_);subst hr;refine jg4 hp (thn h4 fun _ s5 hZ=>?_);obtain⟨x,H5,I5,r5,y5,st5,fr5⟩:=hZ;have I5':=I5.pinned (stat fr5) (T.obj _ _ st5);refine jg4 hp (thn (hg _ s5 σ3 H5 x u _ I5' r5 (step x H5 y5)) fun _ s6 hZ=>?_);obtain⟨σ6,H6,I6,q6⟩:=hZ;refine jg4 hp (thn (hb _ s6 σ6 H6 _ I6 q6) fun f s7 q7=>?_);have again:∀{σ7:St} {H7:Hp},Inv X (pins++K8 fp s5.heap) σ7 H7 s7->N σ7 H7->∃m,m<n/\∃i Z' H',Inv X pins Z' H' s7/\tn i s7.heap/\(∀b∈fp,H' b=none)/\W i m Z' H':=fun{σ7 H7} I7 n7=>by
   obtain⟨m',hm,w7⟩:=hN σ7 H7 n7;refine⟨m',hm,i+1,σ7,H7,I7.unpinned,T.keep _ _ _ st5 fun b hb o e=>(I7.pin (b,o) (xy _ (xy _ (Gq hb e)))).1,fun b hb=>?_,w7⟩;obtain⟨o,e,d⟩:=T.obj _ _ st5 b hb;exact(I7.pin (b,o) (xy _ (xy _ (Gq hb e)))).2.1
  cases f with
  | next=>obtain⟨σ7,H7,I7,n7⟩:=q7;exact again I7 n7
  | cont=>obtain⟨σ7,H7,I7,n7⟩:=q7;exact again I7 n7
  | brk=>obtain⟨σ7,H7,I7,q7⟩:=q7;exact⟨σ7,H7,I7.unpinned,q7⟩
  | ret v=>obtain⟨x7,σ7,H7,I7,r7,q7⟩:=q7;exact⟨x7,σ7,H7,I7.unpinned,r7,q7⟩
end
theorem J3{xs:List V}{g:TG}{tb:TS}{D:Ends}(Pv:Nat->St->Hp->Prop)(h0:Pv 0 Z H)(hl:∀i Z H,i<=xs.length->Pv i Z H->SqL K H a xs)
 (hs:∀i x Z H,xs[i]?=some x->Pv i Z H->g x Z H fun σ2 H2=>tb { D with nx:=Pv (i+1),ct:=Pv (i+1),bk:=D.nx } σ2 H2)(hd:∀Z H,Pv xs.length Z H->D.nx Z H):
 ∃W:Nat->Nat->St->Hp->Prop,(∃m,W 0 m Z H)/\∀i m Z H,W i m Z H->
  ((Itl K a).stop i H/\D.nx Z H)\/((Itl K a).go i H/\∃N:St->Hp->Prop,(∀Z' H',N Z' H'->∃m',m'<m/\W (i+1) m' Z' H')/\∀x H',(Itl K a).yld i H x H'->g x Z H' fun σ2 H2=>tb { D with nx:=N,ct:=N,bk:=D.nx } σ2 H2):=by
 refine⟨fun i m Z H=>m=xs.length-i/\i<=xs.length/\Pv i Z H,⟨xs.length,by simp,ka _,h0⟩,?_⟩;rintro i m Z H ⟨rfl,hi,p⟩;have q:=hl i Z H hi p;by_cases hlt:i<xs.length
 ·refine .inr ⟨⟨xs,xs[i],q,by simp[hlt]⟩,Pv (i+1),fun Z' H' p'=>⟨xs.length-(i+1),by lia,rfl,hlt,p'⟩,fun x H' y=>?_⟩;obtain⟨e,y⟩:=y;subst e;exact hs i x Z _ (y xs q) p
 ·have e:i=xs.length:=by lia
  subst e;exact .inl ⟨⟨xs,q,qh _⟩,hd Z H p⟩
theorem tX{xs:List V}{g:TG}{tb:TS}{D:Ends}(Pv:Nat->St->Hp->Prop)(h0:Pv 0 Z H)(hl:∀i Z H,i<=xs.length->Pv i Z H->SqT K H a xs)
 (hs:∀i x Z H,xs[i]?=some x->Pv i Z H->g x Z H fun σ2 H2=>tb { D with nx:=Pv (i+1),ct:=Pv (i+1),bk:=D.nx } σ2 H2)(hd:∀Z H,Pv xs.length Z H->D.nx Z H):
 ∃W:Nat->Nat->St->Hp->Prop,(∃m,W 0 m Z H)/\∀i m Z H,W i m Z H->
  ((Itt K a).stop i H/\D.nx Z H)\/((Itt K a).go i H/\∃N:St->Hp->Prop,(∀Z' H',N Z' H'->∃m',m'<m/\W (i+1) m' Z' H')/\∀x H',(Itt K a).yld i H x H'->g x Z H' fun σ2 H2=>tb { D with nx:=N,ct:=N,bk:=D.nx } σ2 H2):=by
 refine⟨fun i m Z H=>m=xs.length-i/\i<=xs.length/\Pv i Z H,⟨xs.length,by simp,ka _,h0⟩,?_⟩;rintro i m Z H ⟨rfl,hi,p⟩;have q:=hl i Z H hi p;by_cases hlt:i<xs.length
 ·refine .inr ⟨⟨xs,xs[i],q,by simp[hlt]⟩,Pv (i+1),fun Z' H' p'=>⟨xs.length-(i+1),by lia,rfl,hlt,p'⟩,fun x H' y=>?_⟩;obtain⟨e,y⟩:=y;subst e;exact hs i x Z _ (y xs q) p
 ·have e:i=xs.length:=by lia
  subst e;exact .inl ⟨⟨xs,q,qh _⟩,hd Z H p⟩
theorem iV{lo:Int}{n:Nat}{g:TG}{tb:TS}{D:Ends}(Pv:Nat->St->Hp->Prop)(h0:Pv 0 Z H)
 (hs:∀i Z H,i<n->Pv i Z H->g (.int (lo+i)) Z H fun σ2 H2=>tb { D with nx:=Pv (i+1),ct:=Pv (i+1),bk:=D.nx } σ2 H2)(hd:∀Z H,Pv n Z H->D.nx Z H):
 ∃W:Nat->Nat->St->Hp->Prop,(∃m,W 0 m Z H)/\∀i m Z H,W i m Z H->
  ((Itr lo n).stop i H/\D.nx Z H)\/((Itr lo n).go i H/\∃N:St->Hp->Prop,(∀Z' H',N Z' H'->∃m',m'<m/\W (i+1) m' Z' H')/\∀x H',(Itr lo n).yld i H x H'->g x Z H' fun σ2 H2=>tb { D with nx:=N,ct:=N,bk:=D.nx } σ2 H2):=by
 refine⟨fun i m Z H=>m=n-i/\i<=n/\Pv i Z H,⟨n,by simp,ka _,h0⟩,?_⟩;rintro i m Z H ⟨rfl,hi,p⟩;by_cases hlt:i<n
 ·refine .inr ⟨hlt,Pv (i+1),fun Z' H' p'=>⟨n-(i+1),by lia,rfl,hlt,p'⟩,fun x H' y=>?_⟩;obtain⟨e,y⟩:=y;subst e y;exact hs i Z _ hlt p
 ·have e:i=n:=by lia
  subst e;exact .inl ⟨qh _,hd Z H p⟩
noncomputable abbrev R2:=V->V->Hp->VK->Prop
noncomputable def OpR(X:Cx)(f:Value->Value->Sem Value)(r:R2):Prop:=
 ∀(pins:List (Addr×Obj)) (s:Shared) (Z:St) (H:Hp) (x y:V) (v u:Value) (Q:VK),Inv X pins Z H s->RelV x v->RelV y u->r x y H Q->
  wpAny (model X.prog X.w) X.A (f v u) (EP X pins Z Q) X.xe s
noncomputable def UnR(X:Cx)(f:Value->Sem Value)(r:V->Hp->VK->Prop):Prop:=
 ∀(pins:List (Addr×Obj)) (s:Shared) (Z:St) (H:Hp) (x:V) (v:Value) (Q:VK),Inv X pins Z H s->RelV x v->r x H Q->
  wpAny (model X.prog X.w) X.A (f v) (EP X pins Z Q) X.xe s
noncomputable def HD(X:Cx)(f:Value)(r:List V->Hp->VK->Prop):Prop:=
 ∀(pins:List (Addr×Obj)) (s:Shared) (Z:St) (H:Hp) (xs:List V) (us:List Value) (Q:VK),Inv X pins Z H s->Vals xs us->r xs H Q->
  wpAny (model X.prog X.w) X.A (call f us) (EP X pins Z Q) X.xe s
noncomputable def ACn(X:Cx)(r:V->Hp->(Bool->Hp->Prop)->Prop):Prop:=
 ∀(pins:List (Addr×Obj)) (s:Shared) (Z:St) (H:Hp) (x:V) (v:Value) (Q:Bool->Hp->Prop),Inv X pins Z H s->RelV x v->r x H Q->
  wpAny (model X.prog X.w) X.A (truthy v) (TP X pins Z Q) X.xe s
noncomputable def tOp(r:R2)(ta tb:TE):TE:=fun Z H Q=>ta Z H fun x H1=>tb Z H1 fun y H2=>r x y H2 Q
noncomputable def tUn(r:V->Hp->VK->Prop)(ta:TE):TE:=fun Z H Q=>ta Z H fun x H1=>r x H1 Q
noncomputable def rI(C:Int->Int->Prop)(g:Int->Int->V):R2:=fun x y H Q=>∃i j,x=.int i/\y=.int j/\C i j/\Q (g i j) H
noncomputable def rI0(g:Int->Int->V):R2:=fun x y H Q=>∃i j,x=.int i/\y=.int j/\Q (g i j) H
noncomputable def rU(g:Int->V):V->Hp->VK->Prop:=fun x H Q=>∃i,x=.int i/\Q (g i) H
section
variable{X:Cx}{a b c:Expr}{ta tb tc:TE}{pos:Pos}
theorem zJ(ha:PE X a ta)(hb:PE X b tb){pins:List (Addr×Obj)}{s:Shared}{Z:St}{H:Hp}{R:V->V->Hp->Prop}(I:Inv X pins Z H s)
 (h:ta Z H fun x H1=>tb Z H1 fun y H2=>R x y H2){Q:Value->Shared->Prop}{f:Value->Value->Sem Value}
 (hf:∀v u s2 x y H2,Inv X pins Z H2 s2->RelV x v->RelV y u->R x y H2->wpAny (model X.prog X.w) X.A (f v u) Q X.xe s2):
 wpAny (model X.prog X.w) X.A (eval a X.env) (fun v s₁=>wpAny (model X.prog X.w) X.A (eval b X.env) (fun u s₂=>wpAny (model X.prog X.w) X.A (f v u) Q X.xe s₂) X.xe s₁) X.xe s:=by
 refine thn (ha pins s Z H _ I h) fun v s1 hZ=>?_;obtain⟨x,H1,I1,r1,q1⟩:=hZ;refine thn (hb pins s1 Z H1 _ I1 q1) fun u s2 hZ=>?_;obtain⟨y,H2,I2,r2,q2⟩:=hZ;exact hf v u s2 x y H2 I2 r1 r2 q2
theorem Ag{op:Operator}{r:R2}(ho:OpR X (binaryOp op) r)(ha:PE X a ta)(hb:PE X b tb):PE X (.BinOp a op b pos) (tOp r ta tb):=by
 intro pins s Z H Q I h;exact wpAny_BinOp (zJ ha hb I h fun v u s2 x y H2 I2 rx ry q=>ho pins s2 Z H2 x y v u Q I2 rx ry q)
theorem Gj{op:UnaryOp}{r:V->Hp->VK->Prop}(ho:UnR X (unaryOp op) r)(ha:PE X a ta):PE X (.UnaryOp op a pos) (tUn r ta):=by
 intro pins s Z H Q I h;exact UnaryOp_ (thn (ha pins s Z H _ I h) fun v s1 ⟨x,H1,I1,r1,q1⟩=>ho pins s1 Z H1 x v Q I1 r1 q1)
theorem opI{f:Value->Value->Sem Value}{C:Int->Int->Prop}{g:Int->Int->Int}
 (rule:∀(i j:Int) (t u:Tok) (s:Shared) (Q:Value->Shared->Prop) (E:Value->Shared->Prop),C i j->Q (.int (g i j) s.toks) { s with toks:=s.toks+1 }->wpAny (model X.prog X.w) X.A (f (.int i t) (.int j u)) Q E s):
 OpR X f (rI C fun i j=>.int (g i j)):=by
 intro pins s Z H x y v u Q I rx ry h;obtain⟨i,j,rfl,rfl,hc,q⟩:=h;obtain⟨t,rfl⟩:=rx;obtain⟨t',rfl⟩:=ry;exact rule i j t t' s _ _ hc ⟨.int (g i j),H,I.tok _,⟨_,rfl⟩,q⟩
theorem mQ{f:Value->Value->Sem Value}{g:Int->Int->Int}
 (rule:∀(i j:Int) (t u:Tok) (s:Shared) (Q:Value->Shared->Prop) (E:Value->Shared->Prop),Q (.int (g i j) s.toks) { s with toks:=s.toks+1 }->wpAny (model X.prog X.w) X.A (f (.int i t) (.int j u)) Q E s):
 OpR X f (rI0 fun i j=>.int (g i j)):=by
 intro pins s Z H x y v u Q I rx ry h;obtain⟨i,j,rfl,rfl,q⟩:=h;obtain⟨t,rfl⟩:=rx;obtain⟨t',rfl⟩:=ry;exact rule i j t t' s _ _ ⟨.int (g i j),H,I.tok _,⟨_,rfl⟩,q⟩
theorem rm{f:Value->Value->Sem Value}{g:Int->Int->Bool}
 (rule:∀(i j:Int) (t u:Tok) (s:Shared) (Q:Value->Shared->Prop) (E:Value->Shared->Prop),Q (.bool (g i j)) s->wpAny (model X.prog X.w) X.A (f (.int i t) (.int j u)) Q E s):
 OpR X f (rI0 fun i j=>.bl (g i j)):=by
 intro pins s Z H x y v u Q I rx ry h;obtain⟨i,j,rfl,rfl,q⟩:=h;obtain⟨t,rfl⟩:=rx;obtain⟨t',rfl⟩:=ry;exact rule i j t t' s _ _ ⟨.bl (g i j),H,I,rfl,q⟩
noncomputable def ABx(i j:Int):Prop:=0<=j/\j<=1000000/\i.natAbs<2^64
noncomputable def ABy(i j:Int):Prop:=(-(2^64)<i/\i<2^64)\/(-(2^64)<j/\j<2^64)
theorem ABy.ok{i j:Int}(h:ABy i j):IntMulOk i j:=by
 rcases h with ⟨h1,h2⟩ | ⟨h1,h2⟩
 ·exact .of_left (intBits_le_64 h1 h2)
 ·exact .of_right (intBits_le_64 h1 h2)
theorem Zr(k:Nat):(0:Int)<=2^k:=by
 rw[two_pow_cast];exact Int.natCast_nonneg _
theorem Bq:OpR X (binaryOp .Add) (rI0 fun i j=>.int (i+j)):=mQ fun _ _ _ _ _ _ _ q=>add_int q
theorem DN:OpR X (binaryOp .Sub) (rI0 fun i j=>.int (i-j)):=mQ fun _ _ _ _ _ _ _ q=>sub_int q
theorem Bp:OpR X (binaryOp .Mod) (rI (fun _ j=>0<j) fun i j=>.int (i%j)):=opI fun i j _ _ _ _ _ hc q=>by
 have h1:(0:Int)<j:=hc;exact mod_int' (by lia) (by rw[Int.fmod_eq_emod_of_nonneg i (by lia)];exact q)
theorem Jt:OpR X (binaryOp .Pow) (rI ABx fun i j=>.int (i^j.toNat)):=opI fun _ _ _ _ _ _ _ hc q=>pow_int_small hc.1 hc.2.1 hc.2.2 q
theorem Js:OpR X (binaryOp .RShift) (rI (fun _ j=>0<=j) fun i j=>.int (i/2^j.toNat)):=opI fun i j _ _ _ _ _ hc q=>
 rshift_int hc (by rw[Int.fdiv_eq_ediv_of_nonneg i (Zr _)];exact q)
theorem GD:OpR X (binaryOp .BitAnd) (rI0 fun i j=>.int (Builtin.bitAnd i j)):=mQ fun _ _ _ _ _ _ _ q=>and_int q
theorem U9:OpR X (binaryOp .BitOr) (rI0 fun i j=>.int (Builtin.bitOr i j)):=mQ fun _ _ _ _ _ _ _ q=>or_int q
theorem aX:OpR X (binaryOp .BitXor) (rI0 fun i j=>.int (Builtin.bitXor i j)):=mQ fun _ _ _ _ _ _ _ q=>xor_int q
theorem unI{f:Value->Sem Value}{g:Int->Int}
 (rule:∀(i:Int) (t:Tok) (s:Shared) (Q:Value->Shared->Prop) (E:Value->Shared->Prop),Q (.int (g i) s.toks) { s with toks:=s.toks+1 }->wpAny (model X.prog X.w) X.A (f (.int i t)) Q E s):
 UnR X f (rU fun i=>.int (g i)):=by
 intro pins s Z H x v Q I rx h;obtain⟨i,rfl,q⟩:=h;obtain⟨t,rfl⟩:=rx;exact rule i t s _ _ ⟨.int (g i),H,I.tok _,⟨_,rfl⟩,q⟩
theorem El:UnR X (unaryOp .USub) (rU fun i=>.int (-i)):=unI fun _ _ _ _ _ q=>neg_int q
end
noncomputable def qe:V->V->Bool
 | .non,.non=>true | .non,.int _=>true | .int _,.non=>true | .non,.bl _=>true | .bl _,.non=>true | .non,.str _=>true | .str _,.non=>true
 | .int _,.int _=>true | .bl _,.bl _=>true | .str _,.str _=>true | .byt _,.byt _=>true
 | .int _,.str _=>true | .str _,.int _=>true | .bl _,.str _=>true | .str _,.bl _=>true
 | _,_=>false
noncomputable def rEq:R2:=fun x y H Q=>qe x y=true/\Q (.bl (decide (x=y))) H
noncomputable def rNe:R2:=fun x y H Q=>qe x y=true/\Q (.bl (!decide (x=y))) H
theorem eE{i j:Int}:decide (V.int i=V.int j)=(i==j):=by
 rw[vv];simp
theorem oH{i j:Bool}:decide (V.bl i=V.bl j)=(i==j):=by
 rw[vv];simp
theorem d9{i j:Str}:decide (V.str i=V.str j)=(i==j):=by
 rw[vv];simp
theorem eF{i j:Array UInt8}:decide (V.byt i=V.byt j)=(i.toList==j.toList):=by
 rw[vv];cases i;cases j;simp
section
variable{X:Cx}{a b c:Expr}{ta tb tc:TE}{pos:Pos}
theorem CP{s:Shared}{Q:VK}{k k':Bool}(I:Inv X pins Z H s)(q:Q (.bl k) H)(e:k=k'):EP X pins Z Q (.bool k') s:=by
 subst e;exact⟨.bl k,H,I,rfl,q⟩
theorem Bm:OpR X (compareOp .Eq) rEq:=by
 intro pins s Z H x y v u Q I rx ry h;obtain⟨hs,q⟩:=h;cases x with
 | non=>
  cases rx;cases y with
  | non=>cases ry;exact PySem.EqNone.eq_none_none (CP I q (by simp))
  | bl j=>cases ry;exact PySem.EqNone.eq_none_bool (CP I q (by simp))
  | int j=>obtain⟨t',rfl⟩:=ry;exact PySem.EqNone.eq_none_int (CP I q (by simp))
  | str j=>obtain⟨t',rfl⟩:=ry;exact PySem.EqNone.eq_none_str (CP I q (by simp))
  | _=>exact absurd (show false=true from hs) ze
 | bl i=>
  cases rx;cases y with
  | non=>cases ry;exact PySem.EqNone.eq_bool_none (CP I q (by simp))
  | bl j=>cases ry;exact eq_bool (CP I q oH)
  | str j=>obtain⟨t',rfl⟩:=ry;exact PySem.EqMixed.eq_bool_str (CP I q (by simp))
  | _=>exact absurd (show false=true from hs) ze
 | int i=>
  obtain⟨t,rfl⟩:=rx;cases y with
  | non=>cases ry;exact PySem.EqNone.eq_int_none (CP I q (by simp))
  | int j=>obtain⟨t',rfl⟩:=ry;exact eq_int (CP I q eE)
  | str j=>obtain⟨t',rfl⟩:=ry;exact PySem.EqMixed.eq_int_str (CP I q (by simp))
  | _=>exact absurd (show false=true from hs) ze
 | str i=>
  obtain⟨t,rfl⟩:=rx;cases y with
  | non=>cases ry;exact PySem.EqNone.eq_str_none (CP I q (by simp))
  | bl j=>cases ry;exact PySem.EqMixed.eq_str_bool (CP I q (by simp))
  | int j=>obtain⟨t',rfl⟩:=ry;exact PySem.EqMixed.eq_str_int (CP I q (by simp))
  | str j=>obtain⟨t',rfl⟩:=ry;exact eq_str (CP I q d9)
  | _=>exact absurd (show false=true from hs) ze
 | byt i=>
  obtain⟨t,rfl⟩:=rx;cases y with
  | byt j=>obtain⟨t',rfl⟩:=ry;exact PySem.W.eq_bytes (CP I q eF)
  | _=>exact absurd (show false=true from hs) ze
 | _=>cases y<;>exact absurd (show false=true from hs) ze
theorem Ek:OpR X (compareOp .NotEq) rNe:=by
 intro pins s Z H x y v u Q I rx ry h;obtain⟨hs,q⟩:=h;cases x with
 | non=>
  cases rx;cases y with
  | non=>cases ry;exact PySem.EqNone.ne_none_none (CP I q (by simp))
  | bl j=>cases ry;exact PySem.EqNone.ne_none_bool (CP I q (by simp))
  | int j=>obtain⟨t',rfl⟩:=ry;exact PySem.EqNone.ne_none_int (CP I q (by simp))
  | str j=>obtain⟨t',rfl⟩:=ry;exact PySem.EqNone.ne_none_str (CP I q (by simp))
  | _=>exact absurd (show false=true from hs) ze
 | bl i=>
  cases rx;cases y with
  | non=>cases ry;exact PySem.EqNone.ne_bool_none (CP I q (by simp))
  | bl j=>cases ry;exact ne_bool (CP I q (xo not oH))
  | str j=>obtain⟨t',rfl⟩:=ry;exact PySem.EqMixed.ne_bool_str (CP I q (by simp))
  | _=>exact absurd (show false=true from hs) ze
 | int i=>
  obtain⟨t,rfl⟩:=rx;cases y with
  | non=>cases ry;exact PySem.EqNone.ne_int_none (CP I q (by simp))
  | int j=>obtain⟨t',rfl⟩:=ry;exact ne_int (CP I q (xo not eE))
  | str j=>obtain⟨t',rfl⟩:=ry;exact PySem.EqMixed.ne_int_str (CP I q (by simp))
  | _=>exact absurd (show false=true from hs) ze
 | str i=>
  obtain⟨t,rfl⟩:=rx;cases y with
  | non=>cases ry;exact PySem.EqNone.ne_str_none (CP I q (by simp))
  | bl j=>cases ry;exact PySem.EqMixed.ne_str_bool (CP I q (by simp))
  | int j=>obtain⟨t',rfl⟩:=ry;exact PySem.EqMixed.ne_str_int (CP I q (by simp))
  | str j=>obtain⟨t',rfl⟩:=ry;exact ne_str (CP I q (xo not d9))
  | _=>exact absurd (show false=true from hs) ze
 | byt i=>
  obtain⟨t,rfl⟩:=rx;cases y with
  | byt j=>obtain⟨t',rfl⟩:=ry;exact PySem.W.ne_bytes (CP I q (xo not eF))
  | _=>exact absurd (show false=true from hs) ze
 | _=>cases y<;>exact absurd (show false=true from hs) ze
theorem GP:OpR X (compareOp .Lt) (rI0 fun i j=>.bl (decide (i<j))):=rm fun _ _ _ _ _ _ _ q=>lt_int q
theorem Ja:OpR X (compareOp .LtE) (rI0 fun i j=>.bl (decide (i<=j))):=rm fun _ _ _ _ _ _ _ q=>le_int q
theorem Fl:OpR X (compareOp .Gt) (rI0 fun i j=>.bl (decide (j<i))):=rm fun _ _ _ _ _ _ _ q=>gt_int q
theorem vI:OpR X (compareOp .GtE) (rI0 fun i j=>.bl (decide (j<=i))):=rm fun _ _ _ _ _ _ _ q=>ge_int q
theorem VB:OpR X (compareOp .In) (fun x y H Q=>∃i j,x=.str i/\y=.str j/\Q (.bl (!(Builtin.Str.occurrences j i 0 j.length 1).isEmpty)) H):=by
 intro pins s Z H x y v u Q I rx ry h;obtain⟨i,j,rfl,rfl,q⟩:=h;obtain⟨t,rfl⟩:=rx;obtain⟨t',rfl⟩:=ry;exact in_str (CP I q rfl)
theorem K9:OpR X (compareOp .Is) (fun x y H Q=>y=.non/\Q (.bl (decide (x=.non))) H):=by
 intro pins s Z H x y v u Q I rx ry h;obtain⟨rfl,q⟩:=h;cases ry;refine is_none_gen (CP I q ?_);cases x<;>first
  | (cases rx;rfl)
  | (obtain ⟨t,rfl⟩:=rx;rfl)
theorem rZ:OpR X (compareOp .IsNot) (fun x y H Q=>y=.non/\Q (.bl (!decide (x=.non))) H):=by
 intro pins s Z H x y v u Q I rx ry h;obtain⟨rfl,q⟩:=h;cases ry;refine isnot_none_gen (CP I q ?_);cases x<;>first
  | (cases rx;rfl)
  | (obtain ⟨t,rfl⟩:=rx;rfl)
theorem Ao(b:Expr){op:CmpOp}(h:op≠.In:=by decide)(h2:op≠.NotIn:=by decide):behindInMarks op b=false:=by
 have e1:(op==CmpOp.In)=false:=by cases op<;>first | rfl | exact absurd rfl h
 have e2:(op==CmpOp.NotIn)=false:=by cases op<;>first | rfl | exact absurd rfl h2
 cases b<;>simp[behindInMarks,e1,e2]
theorem HN{op:CmpOp}{r:R2}(ho:OpR X (compareOp op) r)(ha:PE X a ta)(hb:PE X b tb)(hm:behindInMarks op b=false):PE X (.Compare a [op] [b] pos) (tOp r ta tb):=by
 intro pins s Z H Q I h;exact wpAny_Compare1 (zJ ha hb I h fun v u s2 x y H2 I2 rx ry q=>ho pins s2 Z H2 x y v u Q I2 rx ry q) hm
noncomputable def ur(t:TE):TT:=fun Z H Q=>t Z H fun x H'=>∃k,x=.bl k/\Q k H'
theorem Aj{op:CmpOp}{r:R2}(ho:OpR X (compareOp op) r)(ha:PE X a ta)(hb:PE X b tb)(hm:behindInMarks op b=false):PT X (.Compare a [op] [b] pos) (ur (tOp r ta tb)):=by
 intro pins s Z H Q I h;refine wpAny_isTrue_Compare1 (thn (ha pins s Z H _ I h) fun v s1 ⟨x,H1,I1,r1,q1⟩=>thn (hb pins s1 Z H1 _ I1 q1) fun u s2 ⟨y,H2,I2,r2,q2⟩=>
  thn (ho pins s2 Z H2 x y v u _ I2 r1 r2 q2) fun c s3 ⟨z,H3,I3,r3,k,e,q3⟩=>?_) hm
 subst e;cases r3;exact jc8 ⟨H3,I3,q3⟩
noncomputable def jj(r r':R2)(ta tb tc:TE):TE:=fun Z H Q=>ta Z H fun x H1=>tb Z H1 fun y H2=>r x y H2 fun z H3=>∃k,z=.bl k/\
 (if k=true then tc Z H3 fun w' H4=>r' y w' H4 Q else Q (.bl false) H3)
theorem Ly{op op':CmpOp}{r r':R2}(ho:OpR X (compareOp op) r)(ho':OpR X (compareOp op') r')(ha:PE X a ta)(hb:PE X b tb)(hc:PE X c tc)
 (hm:lastMarks [op,op'] [b,c]=false:=by with_unfolding_all rfl):PE X (.Compare a [op,op'] [b,c] pos) (jj r r' ta tb tc):=by
 intro pins s Z H Q I h;refine Compare_chain (thn (ha pins s Z H _ I h) fun v s1 ⟨x,H1,I1,r1,q1⟩=>chain_link (thn (hb pins s1 Z H1 _ I1 q1) fun u s2 ⟨y,H2,I2,r2,q2⟩=>
  thn (ho pins s2 Z H2 x y v u _ I2 r1 r2 q2) fun d s3 ⟨z,H3,I3,r3,k,e,q3⟩=>?_)) hm
 subst e;cases r3;refine jc8 ?_;cases k with
 | false=>exact ite_ff ⟨.bl false,H3,I3,rfl,q3⟩
 | true=>exact ite_tt (chain_last (thn (hc pins s3 Z H3 _ I3 q3) fun w' s4 ⟨z',H4,I4,r4,q4⟩=>ho' pins s4 Z H4 y z' u w' Q I4 r2 r4 q4))
noncomputable def ACm(K:Fr)(x:V)(H:Hp)(k:Bool):Prop:=
 match x with
 | .non=>k=false
 | .bl b=>k=b
 | .int i=>k=(i != 0)
 | .str y=>y.length<=sizeLine/\k=((y.length:Int) != 0)
 | .byt y=>y.size<=sizeLine/\k=((y.size:Int) != 0)
 | .ref p=>(∃xs,SqL K H p xs/\k=!xs.isEmpty)\/(∃xs,SqT K H p xs/\k=!xs.isEmpty)\/∃kvs,H p=some (.dK kvs)/\k=!kvs.isEmpty
 | _=>False
theorem bH{κ:Type}{kvs:List (κ×V)}{vs:List (κ×Value)}(r:KV kvs vs):(!vs.isEmpty)=!kvs.isEmpty:=by
 cases r<;>rfl
theorem Rm{xs:List V}{its:List Value}(r:Vals xs its):(!its.toArray.isEmpty)=!xs.isEmpty:=by
 cases r<;>simp
theorem LC:(sizeLine:Nat)<2^63:=by rw[sizeLine_eq];decide
theorem vy:ACn X (fun x H Q=>∃k,ACm X.K x H k/\Q k H):=by
 intro pins s Z H x v Q I rx h;obtain⟨k,e,q⟩:=h;have hl:=LC;have hs:sizeLine=16777216:=sizeLine_eq;cases x with
 | non=>
  cases rx;have e':k=false:=e;subst e';exact truthy_none ⟨H,I,q⟩
 | bl b=>
  cases rx;have e':k=b:=e;subst e';exact jc8 ⟨H,I,q⟩
 | int i=>
  obtain⟨t,rfl⟩:=rx;have e':k=(i != 0):=e;subst e';exact PySem.P.truthy_int ⟨H,I,q⟩
 | str y=>
  obtain⟨t,rfl⟩:=rx;obtain⟨hy,e'⟩:y.length<=sizeLine/\k=((y.length:Int) != 0):=e;subst e';exact PySem.P.truthy_str (by lia) ⟨H,I.tok _,q⟩
 | byt y=>
  obtain⟨t,rfl⟩:=rx;obtain⟨hy,e'⟩:y.size<=sizeLine/\k=((y.size:Int) != 0):=e;subst e';exact PySem.W.truthy_bytes (by lia) ⟨H,I.tok _,q⟩
 | ref p=>
  cases rx;have e':(∃xs,SqL X.K H p xs/\k=!xs.isEmpty)\/(∃xs,SqT X.K H p xs/\k=!xs.isEmpty)\/∃kvs,H p=some (.dK kvs)/\k=!kvs.isEmpty:=e;rcases e' with ⟨xs,hx,e'⟩ | ⟨xs,hx,e'⟩ | ⟨kvs,hx,e'⟩
  ·subst e';obtain⟨its,r,pl,hz⟩:=I.list hx;have hlen:=r.length;exact wpAny_truthy_list pl.isList (by simp only[xi];lia) ⟨H,I.tok _,by rw[Rm r];exact q⟩
  ·subst e';obtain⟨its,r,pl,hz⟩:=I.tuple hx;have hlen:=r.length;exact truthy_tuple pl (by simp only[xi];lia) ⟨H,I.tok _,by rw[Rm r];exact q⟩
  ·subst e';obtain⟨hz,hS,vs,r,m⟩:kvs.length<=sizeLine/\(p==sysModules)=false/\∃vs,KV kvs vs/\s.heap.DictOf (Eg X.prog X.w) p vs:=I.hok p _ hx;have hlen:kvs.length=vs.length:=Paired.length r;exact wpAny_truthy_dict hS m (by lia) ⟨H,I.tok _,by rw[bH r];exact q⟩
 | _=>exact(show False from e).elim
theorem Ar:OpR X (binaryOp .Add) (fun x y H Q=>∃i j,x=.str i/\y=.str j/\i.length+j.length<=sizeLine/\Q (.str (i++j)) H):=by
 intro pins s Z H x y v u Q I rx ry h;obtain⟨i,j,rfl,rfl,hz,q⟩:=h;obtain⟨t,rfl⟩:=rx;obtain⟨t',rfl⟩:=ry;exact add_str (fun t' tk=>⟨.str (i++j),H,I.tok _,⟨_,rfl⟩,q⟩) hz
theorem vals1{x:V}(r:Vals [x] us):∃u,us=[u]/\RelV x u:=by
 cases r with
 | cons r1 r2=>cases r2;exact⟨_,rfl,r1⟩
theorem vals2{x y:V}(r:Vals [x,y] us):∃u w',us=[u,w']/\RelV x u/\RelV y w':=by
 cases r with
 | cons r1 r2=>
  cases r2 with
  | cons r3 r4=>cases r4;exact⟨_,_,rfl,r1,r3⟩
theorem Y6:HD X (.builtin "abs") (fun xs H Q=>∃i,xs=[.int i]/\Q (.int (if i<0 then -i else i)) H):=by
 intro pins s Z H xs us Q I r h;obtain⟨i,rfl,q⟩:=h;obtain⟨u,rfl,t,rfl⟩:=vals1 r;exact call_abs_int fun u tk=>⟨.int (if i<0 then -i else i),H,I.tok _,⟨_,rfl⟩,q⟩
theorem jB(hc:X.calm=true):HD X (.builtin "min") (fun xs H Q=>∃i j,xs=[.int i,.int j]/\Q (.int (if j<i then j else i)) H):=by
 intro pins s Z H xs us Q I r h;obtain⟨i,j,rfl,q⟩:=h;obtain⟨u,w',rfl,⟨t,rfl⟩,⟨t',rfl⟩⟩:=vals2 r;refine min_two_ints (I.ok.hd hc) fun h' tk k=>⟨_,H,I.kept k,?_,q⟩;by_cases hj:j<i
 ·rw[xz hj,xz hj];exact⟨_,rfl⟩
 ·rw[yv hj,yv hj];exact⟨_,rfl⟩
theorem BL:HD X (.type "str") (fun xs H Q=>∃i,xs=[.int i]/\i.natAbs.log2<1920/\Q (.str (toString i)) H):=by
 intro pins s Z H xs us Q I r h;obtain⟨i,rfl,hz,q⟩:=h;obtain⟨u,rfl,t,rfl⟩:=vals1 r;exact PySem.P.str_of_int hz ⟨.str _,H,I.tok _,⟨_,rfl⟩,q⟩
end
structure cB(h:Heap)(x dx C:Addr)(mA:Str->Option Value):Prop where
 obj:h.get? x=some (PySem.W.instObj C dx)
 ns:h.Ns1 dx mA
 ne:dx≠x
theorem iD{h:Heap}{dx:Addr}{mA:Str->Option Value}(n:h.Ns1 dx mA):∃od,h.get? dx=some od/\∀name,PySem.W.lookIn name od=some (mA name):=by
 obtain⟨o,es,ep,ho,hd,hk,_,hm⟩:=n;refine⟨o,ho,fun name=>?_⟩;have e:=hm name;unfold nsFind findBy at e;rw[<-Array.find?_toList] at e;unfold PySem.W.lookIn;rw[hd];dsimp only;split
 ·rename_i y q
  rw[q] at e;exact xo some e
 ·rename_i q
  rw[q] at e;have a:es.toList.any (·.refKey)=false:=by
   rw[List.any_eq_false];intro y hy;obtain⟨z,t,hkey⟩:=hk y (Array.mem_toList_iff.mp hy);simp[DictEntry.refKey,hkey]
  have a':¬es.toList.any (·.refKey)=true:=by rw[a];exact ze
  rw[yv a'];exact xo some e
theorem cB.look{h:Heap}{x dx C:Addr}{mA:Str->Option Value}(I:cB h x dx C mA):∃od,PySem.W.InstAt h x (PySem.W.instObj C dx) C (some od)/\∀name,PySem.W.lookIn name od=some (mA name):=
 let ⟨od,ho,hl⟩:=iD I.ns
 ⟨od,⟨I.obj,rfl,rfl,ho⟩,hl⟩
section
variable{prog:Program}{w:World}{A:Around}{E:Value->Shared->Prop}{s:Shared}{K:Fr}{x dx C f:Addr}{mA:Str->Option Value}{name:Str}{v:Value}
theorem tV{expr:Bool}{Q:Value->Shared->Prop}(X:K.In s.heap)(I:cB s.heap x dx C mA)(hg:PySem.W.plainGet K C name=true)(hh:PySem.W.hasDictIn K C=true)
 (ha:PySem.W.findIn K (.ref C) name=some none)(hv:mA name=some v)(hv':PySem.W.handedIn v=true)(h:Q v { s with toks:=s.toks+1 }):
 wpAny (model prog w) A (getAttr (.ref x) name expr) Q E s:=by
 obtain⟨od,J,hl⟩:=I.look;exact PySem.W.get_value X J (PySem.W.plainGet_of hg).1 (PySem.W.findObj_own hh ha rfl (by rw[hl,hv])) hv' h
theorem nJ{pl:Sem Bool}{Q:Value×List Value->Shared->Prop}(X:K.In s.heap)(I:cB s.heap x dx C mA)(hg:PySem.W.plainGet K C name=true)
 (hf:PySem.W.findIn K (.ref C) name=some (some (.ref f)))(ht:PySem.W.isFn K (.ref f)=true)(hv:mA name=none)(h:Q (.ref f,[.ref x]) s):
 wpAny (model prog w) A (getMethod (.ref x) name pl) Q E s:=by
 obtain⟨od,J,hl⟩:=I.look;exact PySem.W.method_fn X J (PySem.W.plainGet_of hg).1 (PySem.W.plainGet_of hg).2 hf (ja5.mp ht) (by show(PySem.W.lookIn name od).map (·.isSome)=some false;rw[hl,hv];rfl) h
theorem qd{ns:List Str}{Q:Unit->Shared->Prop}(X:K.In s.heap)(I:cB s.heap x dx C mA)
 (hs:PySem.W.findIn K (.ref C) "__setattr__"=some (some (.builtin "object.__setattr__")))(hp:PySem.W.plainOver K C=true)(ht:PySem.W.takerIn K C name=some none)(hh:PySem.W.hasDictIn K C=true)
 (hw:PySem.Within mA ns)(hsz:ns.length<=sizeLine)
 (h:∀h',cB h' x dx C (fun y=>if y=name then some v else mA y)->Heap.SameBut dx s.heap h'->Q () { s with heap:=h',toks:=s.toks+2 }):
 wpAny (model prog w) A (setAttr (.ref x) name v) Q E s:=by
 obtain⟨od,J,hl⟩:=I.look;refine PySem.W.set_plain X J hs (PySem.W.osa_open (s:={ s with toks:=s.toks+1 }) (r:=none) X J hp ht fun b=>?_);obtain⟨cd,hc,hd'⟩:=PySem.W.any_some hh;have hx:s.heap.get? x=some ⟨.ref C,some dx,.plain,#[]⟩:=I.obj;refine jv (xp (jv (jv (wpAny_loadPart hx (jv (PySem.W.Looks.here (s:={ s with toks:=s.toks+1 }) (PySem.W.looks_clsIn X hc) ?_))))));rw[hd'];refine xp (a:=some dx) (jv (xp (jv ?_)));refine wpAny_nsSet1 (s:={ s with toks:=s.toks+1 }) I.ns fun h' hn2 hs2=>?_;obtain⟨oD,esD,epD,hoD,hdD,hcD⟩:=hn2.count (PySem.Within.cons name v hw);refine jv (wpAny_lookBehind hoD (by rw[hdD];exact pastItsLine_dict (zv hcD (by rw[qq];lia))) ?_);exact xp (h _ ⟨(hs2.2 _ (Ne.symm I.ne)).trans I.obj,hn2,I.ne⟩ hs2)
theorem mX{R:Result->Shared->Prop}{vs:List Value}{kw:List (Str×Value)}(X:K.In s.heap)(hm:PySem.W.makesIn K C=true)
 (hi:PySem.W.findIn K (.ref C) "__init__"=some (some (.ref f)))(hf:PySem.W.typeIn K (.ref f)=some (.type "function"))
 (h:codeAny (model prog w) (A.under (.builtin "type.__call__" ⟨.ref C::vs,kw⟩)) (.call (.ref f) ⟨.ref (s.heap.objs.size+1)::vs,kw⟩) (PySem.W.InitBack (s.heap.objs.size+1) R)
  { s with heap:=(s.heap.push PySem.W.emptyDict).push (PySem.W.instObj C s.heap.objs.size) }):
 codeAny (model prog w) A (.call (.ref C) ⟨vs,kw⟩) R s:=by
 obtain⟨hh,g,d,t,os⟩:=s;exact PySem.W.make_core (PySem.W.makes_of X hm) (PySem.W.looks_findIn X hi) (fun self=>PySem.W.bind_fn X self hf) (.inl rfl) h
end
noncomputable def Ea(f:Str)(v:V):List (Str×V)->List (Str×V)
 | []=>[(f,v)]
 | (g,x)::r=>if g=f then (g,v)::r else (g,x)::Ea f v r
theorem O3(f g:Str)(v:V):∀fs:List (Str×V),(Ea f v fs).lookup g=if g=f then some v else fs.lookup g
 | []=>by
  show List.lookup g [(f,v)]=_;by_cases h:g=f
  ·have hb:(g==f)=true:=ja5.mpr h;simp only[List.lookup,hb,xz h]
  ·have hb:(g==f)=false:=beq_eq_false_iff_ne.mpr h;simp only[List.lookup,hb,yv h]
 | (k,x)::r=>by
  have ih:=O3 f g v r;rw[show Ea f v ((k,x)::r)=(if k=f then (k,v)::r else (k,x)::Ea f v r) from rfl];by_cases hk:k=f
  ·rw[xz hk];by_cases h:g=k
   ·have hb:(g==k)=true:=ja5.mpr h;simp only[List.lookup,hb,xz (h.trans hk)]
   ·have hb:(g==k)=false:=beq_eq_false_iff_ne.mpr h;simp only[List.lookup,hb,yv (fun e:g=f=>h (e.trans hk.symm))]
  ·rw[yv hk];by_cases h:g=k
   ·have hb:(g==k)=true:=ja5.mpr h;simp only[List.lookup,hb,yv (fun e:g=f=>hk (h.symm.trans e))]
   ·have hb:(g==k)=false:=beq_eq_false_iff_ne.mpr h;simp only[List.lookup,hb];exact ih
theorem N7(f:Str)(v:V):∀fs:List (Str×V),f∈(Ea f v fs).map (·.1)/\∀g,g∈fs.map (·.1)->g∈(Ea f v fs).map (·.1)
 | []=>⟨by simp[Ea],fun g h=>by simp at h⟩
 | (k,x)::r=>by
  obtain⟨i1,i2⟩:=N7 f v r;rw[show Ea f v ((k,x)::r)=(if k=f then (k,v)::r else (k,x)::Ea f v r) from rfl];by_cases hk:k=f
  ·rw[xz hk];subst hk;exact⟨by simp,fun g h=>by simpa using h⟩
  ·rw[yv hk];refine⟨?_,fun g h=>?_⟩
   ·rw[xk];exact qr _ i1
   ·rw[xk] at h ⊢;rcases qm.mp h with e | e
    ·exact qm.mpr (.inl e)
    ·exact qr _ (i2 g e)
theorem O5(f:Str)(v:V):∀fs:List (Str×V),(Ea f v fs).length<=fs.length+1
 | []=>by simp[Ea]
 | (k,x)::r=>by
  have ih:=O5 f v r;rw[show Ea f v ((k,x)::r)=(if k=f then (k,v)::r else (k,x)::Ea f v r) from rfl];by_cases hk:k=f
  ·rw[xz hk,qq,qq];lia
  ·rw[yv hk,qq,qq];lia
theorem JX.some_of{v:V}{o:Option Value}(r:JX (some v) o):∃u,o=some u/\RelV v u:=by
 cases o with
 | none=>exact(show False from r).elim
 | some u=>exact⟨u,rfl,r⟩
theorem JX.none_of{o:Option Value}(r:JX none o):o=none:=by
 cases o with
 | none=>rfl
 | some u=>exact(show False from r).elim
theorem iQ{v:V}(r:RelV v u):PySem.W.handedIn u=true:=by
 cases v with
 | non=>cases (show u=Value.none from r);rfl
 | bl b=>cases (show u=Value.bool b from r);rfl
 | int i=>obtain⟨t,e⟩:=(show ∃t,u=Value.int i t from r);cases e;rfl
 | str x=>obtain⟨t,e⟩:=(show ∃t,u=Value.str x t from r);cases e;rfl
 | byt b=>obtain⟨t,e⟩:=(show ∃t,u=Value.bytes b t from r);cases e;rfl
 | flt b=>obtain⟨t,e⟩:=(show ∃t,u=Value.float b t from r);cases e;rfl
 | ref a=>cases (show u=Value.ref a from r);rfl
 | ty n=>cases (show u=Value.type n from r);rfl
section
variable{P:Program}{w:World}{H H':Hp}{h h':Heap}{a C dx:Addr}{fs fs':List (Str×V)}
theorem Qq(hok:HOk P w H h)(e:H a=some (.ins C dx fs)):∃mA,cB h a dx C mA/\(∀f,JX (fs.lookup f) (mA f))/\PySem.Within mA (fs.map (·.1))/\fs.length<=1000/\H dx=some (.own a):=by
 obtain⟨d,z,ne,ob,mA,n,r,q⟩:=(show Ef P w H h a (.ins C dx fs) from hok a _ e);exact⟨mA,⟨ob,n,ne⟩,r,q,z,d⟩
end
structure Cls(K:Fr)(C:Addr):Prop where
 pg:PySem.W.plainGet K C Str.empty=true
 hd:PySem.W.hasDictIn K C=true
 po:PySem.W.plainOver K C=true
 sa:PySem.W.findIn K (.ref C) "__setattr__"=some (some (.builtin "object.__setattr__"))
theorem Cls.get{C:Addr}(c:Cls K C)(f:Str):PySem.W.plainGet K C f=true:=c.pg
noncomputable def Dm(K:Fr)(C:Addr)(f:Str):Prop:=PySem.W.findIn K (.ref C) f=some none
theorem Dm.taker{C:Addr}{f:Str}(n:Dm K C f):PySem.W.takerIn K C f=some none:=by
 unfold PySem.W.takerIn;rw[show PySem.W.findIn K (.ref C) f=some none from n];rfl
structure Meth(K:Fr)(C:Addr)(m:Str)(f:Addr):Prop where
 at_:PySem.W.findIn K (.ref C) m=some (some (.ref f))
 fn:PySem.W.isFn K (.ref f)=true
 kp:PySem.W.keepIn K (.ref f)=true
section
variable{X:Cx}{pins:List (Addr×Obj)}{Z:St}{H:Hp}{s:Shared}{a C dx:Addr}{fs:List (Str×V)}{f:Str}{v:V}{A:Around}{E:Value->Shared->Prop}
theorem bJ{b:Bool}{Q:Value->Shared->Prop}(I:Inv X pins Z H s)(e:H a=some (.ins C dx fs))(c:Cls X.K C)(n:Dm X.K C f)(l:fs.lookup f=some v)
 (h:∀u s',Inv X pins Z H s'->RelV v u->Q u s'):wpAny (model X.prog X.w) A (getAttr (.ref a) f b) Q E s:=by
 obtain⟨mA,O,r,_,_,_⟩:=Qq I.hok e;obtain⟨u,hu,ru⟩:=JX.some_of (v:=v) (o:=mA f) (by rw[<-l];exact r f);exact tV I.kIn O (c.get f) c.hd n hu (iQ ru) (h u _ (I.tok _) ru)
theorem JN{m:Str}{g:Addr}{pl:Sem Bool}{Q:Value×List Value->Shared->Prop}(I:Inv X pins Z H s)(e:H a=some (.ins C dx fs))(c:Cls X.K C)(k:Meth X.K C m g)(l:fs.lookup m=none)
 (h:Q (.ref g,[.ref a]) s):wpAny (model X.prog X.w) A (getMethod (.ref a) m pl) Q E s:=by
 obtain⟨mA,O,r,_,_,_⟩:=Qq I.hok e;have hn:mA m=none:=JX.none_of (by rw[<-l];exact r m);exact nJ I.kIn O (c.get m) k.at_ k.fn hn h
theorem Z4{y:V}{Q:Unit->Shared->Prop}(I:Inv X pins Z H s)(e:H a=some (.ins C dx fs))(c:Cls X.K C)(n:Dm X.K C f)(hl:fs.length<1000)(ry:RelV y u)
 (h:∀s',Inv X pins Z (upd H a (.ins C dx (Ea f y fs))) s'->Q () s'):wpAny (model X.prog X.w) A (setAttr (.ref a) f u) Q E s:=by
 obtain⟨mA,O,r,wi,_,ho⟩:=Qq I.hok e;have hz:(fs.map (·.1)).length<=sizeLine:=by rw[jp,sizeLine_eq];lia
 refine qd I.kIn O c.sa c.po n.taker c.hd wi hz fun h' O' sb=>h _ ?_;have hd:∃o,h'.get? dx=some o:=let ⟨o,_,_,e',_⟩:=O'.ns;⟨o,e'⟩;refine I.write (x:=a) (e:=dx) (by rw[e];exact True.intro) (.inr ho) (fun b q hb z=>(sb.2 b hb).trans z) hd ?_;refine⟨by rw[Aw O.ne];exact ho,?_,O.ne,O'.obj,_,O'.ns,fun g=>?_,fun g hg=>?_⟩
 ·have:=O5 f y fs;lia
 ·show JX ((Ea f y fs).lookup g) (if g=f then some u else mA g);rw[O3];by_cases q:g=f
  ·rw[xz q,xz q];exact ry
  ·rw[yv q,yv q];exact r g
 ·by_cases q:g=f
  ·rw[q];exact(N7 f y fs).1
  ·refine(N7 f y fs).2 g (wi g fun z=>hg ?_);show(if g=f then some u else mA g)=none;rw[yv q];exact z
theorem Inv.made(I:Inv X pins Z H s):Inv X pins Z (upd (upd H s.heap.objs.size (.own (s.heap.objs.size+1))) (s.heap.objs.size+1) (.ins C s.heap.objs.size []))
 { s with heap:=(s.heap.push PySem.W.emptyDict).push (PySem.W.instObj C s.heap.objs.size) }:=by
 have e1:(s.heap.push PySem.W.emptyDict).get? s.heap.objs.size=some PySem.W.emptyDict:=zw s.heap rfl;have e2:((s.heap.push PySem.W.emptyDict).push (PySem.W.instObj C s.heap.objs.size)).get? (s.heap.objs.size+1)=some (PySem.W.instObj C s.heap.objs.size):=by
  have:=zw (s.heap.push PySem.W.emptyDict) (o:=PySem.W.instObj C s.heap.objs.size) rfl
  rwa [jf8] at this
 have e3:(s.heap.push PySem.W.emptyDict).Ns s.heap.objs.size (fun _=>none):=⟨PySem.W.emptyDict,#[],_,e1,rfl,(fun e he=>absurd he (by simp)),fun _=>rfl⟩;have I1:=I.laid (a:=s.heap.objs.size) (o:=.own (s.heap.objs.size+1)) (h':=s.heap.push PySem.W.emptyDict) (t':=s.toks) (fun b u q=>js _ q) (qh _) ⟨_,e1⟩;refine I1.laid (a:=s.heap.objs.size+1) (o:=.ins C s.heap.objs.size []) (t':=s.toks) (fun b u q=>js _ q) (jj3 (jf8 _ _)) ?_;have ne:s.heap.objs.size≠s.heap.objs.size+1:=uj (jj0 _);refine⟨by rw[Aw ne,Ah],ka _,ne,e2,fun _=>none,(Heap.Ns1.of_empty e3).at fun o q=>js _ q,fun _=>True.intro,fun y hy=>absurd rfl hy⟩
theorem uO{prog:Program}{w:World}{env:Env}{e:Expr}{f:Str}{s:Shared}{Q:Value->Shared->Prop}(hb:attributeBase e f env (eval e env)=eval e env)
 (h:wpAny (model prog w) A (eval e env) (fun o s₁=>wpAny (model prog w) A (getAttr o f true) Q E s₁) E s):wpAny (model prog w) A (eval (.Attribute e f pos) env) Q E s:=
 Attribute_any_ h (by rw[arm_eval_Attribute,hb])
end
noncomputable def z9(K:Fr)(ta:TE)(f:Str):TE:=fun Z H Q=>ta Z H fun x H1=>∃a C dx fs v,x=.ref a/\H1 a=some (.ins C dx fs)/\Cls K C/\Dm K C f/\fs.lookup f=some v/\Q v H1
noncomputable def AAl(K:Fr)(ta tv:TE)(f:Str):TS:=fun D Z H=>tv Z H fun y H1=>ta Z H1 fun x H2=>∃a C dx fs,x=.ref a/\H2 a=some (.ins C dx fs)/\Cls K C/\Dm K C f/\fs.length<1000/\
 D.nx Z (upd H2 a (.ins C dx (Ea f y fs)))
section
variable{X:Cx}{o e value:Expr}{f:Str}{pos pos' tpos:Pos}{ta tv:TE}
theorem By(he:PE X e ta)(hb:attributeBase e f X.env (eval e X.env)=eval e X.env):PE X (.Attribute e f pos) (z9 X.K ta f):=by
 intro pins s Z H Q I h;refine uO hb (thn (he pins s Z H _ I h) fun u s1 hZ=>?_);obtain⟨x,H1,I1,rx,a,C,dx,fs,v,ex,ea,c,n,l,q⟩:=hZ;subst ex;obtain rfl:u=Value.ref a:=rx;exact bJ I1 ea c n l fun u' s2 I2 ru=>⟨v,H1,I2,ru,q⟩
theorem Fq(ha:PE X o ta)(hv:PE X value tv)(hs:swapsWith value (some (.Attribute o f pos')) pos.line X.env=pure false):PS X (.Assign [.Attribute o f pos'] value pos) (AAl X.K ta tv f):=by
 intro pins s Z H D I h;refine plainObj_wpAny_Assign_Attribute (thn (hv pins s Z H _ I h) fun u s1 ⟨y,H1,I1,ry,q⟩=>thn (ha pins s1 Z H1 _ I1 q) fun ov s2 hZ=>?_) hs;obtain⟨x,H2,I2,rx,a,C,dx,fs,ex,ea,c,n,l,q2⟩:=hZ;subst ex;obtain rfl:ov=Value.ref a:=rx;exact Z4 I2 ea c n l ry fun s3 I3=>⟨Z,_,I3,q2⟩
end
section
variable{X:Cx}{pins:List (Addr×Obj)}{Z:St}{H:Hp}{s:Shared}{A:Around}{E:Value->Shared->Prop}{Q:Value->Shared->Prop}{c:Value}{b:Bool}
inductive Mz(K:Fr)(H:Hp):V->Value->Prop where
 | non:Mz K H .non (.type "NoneType")
 | bl (x:Bool):Mz K H (.bl x) (.type "bool")
 | int (i:Int):Mz K H (.int i) (.type "int")
 | str (x:Str):Mz K H (.str x) (.type "str")
 | flt (x:UInt64):Mz K H (.flt x) (.type "float")
 | lst {a:Addr} {xs:List V} (e:H a=some (.lst xs)):Mz K H (.ref a) (.type "list")
 | frz {a:Addr} {o:Obj} {xs:List V} (e:H a=some (.frz o (.lst xs))):Mz K H (.ref a) (.type "list")
 | tup {a:Addr} {xs:List V} (e:H a=some (.tup xs)):Mz K H (.ref a) (.type "tuple")
 | dK {a:Addr} {kvs:List (Key×V)} (e:H a=some (.dK kvs)):Mz K H (.ref a) (.type "dict")
 | dT {a:Addr} {kvs:List (List Key×V)} (e:H a=some (.dT kvs)):Mz K H (.ref a) (.type "dict")
 | ins {a C dx:Addr} {fs:List (Str×V)} (e:H a=some (.ins C dx fs)) (cl:Cls K C) (ha:PySem.W.findIn K (.ref C) "__class__"=some (some (.builtin "object.__class__")))
  (hn:PySem.W.specialIn K (.builtin "object.__class__") "__get__"=some (some (.builtin "getset_descriptor.__get__"))) (htk:PySem.W.takesIn K (.builtin "object.__class__")=some true)
  (hm:PySem.W.mroIn K C (.type "object")=some true):Mz K H (.ref a) (.ref C)
theorem iI{x:V}{t:Value}(I:Inv X pins Z H s)(rx:RelV x u)(ty:Mz X.K H x t)(e:PySem.W.kitOne X.K t c=some b)(h:∀tk,Q (.bool b) { s with toks:=tk }):
 wpAny (model X.prog X.w) A (call (.builtin "isinstance") [u,c]) Q E s:=by
 cases ty with
 | non=>cases (show u=Value.none from rx);exact ja7 PySem.W.kitx_none I.kIn True.intro e (fun z=>nomatch z) h
 | bl y=>cases (show u=Value.bool y from rx);exact ja7 PySem.W.kitx_bool I.kIn True.intro e (fun z=>nomatch z) h
 | int i=>obtain⟨t,q⟩:=(show ∃t,u=Value.int i t from rx);cases q;exact ja7 PySem.W.kitx_int I.kIn True.intro e (fun z=>nomatch z) h
 | str y=>obtain⟨t,q⟩:=(show ∃t,u=Value.str y t from rx);cases q;exact ja7 PySem.W.kitx_str I.kIn True.intro e (fun z=>nomatch z) h
 | flt y=>obtain⟨t,q⟩:=(show ∃t,u=Value.float y t from rx);cases q;exact ja7 PySem.W.kitx_float I.kIn True.intro e (fun z=>nomatch z) h
 | @lst a xs ea=>
  cases (show u=Value.ref a from rx);obtain⟨_,_,n,_,h1⟩:=(show Ef X.prog X.w H s.heap a (.lst xs) from I.hok a _ ea);exact ja7 PySem.W.kitx_list I.kIn ⟨_,h1,rfl⟩ e (fun z=>nomatch z) h
 | @frz a ob xs ea=>
  cases (show u=Value.ref a from rx);obtain⟨_,_,_,n,_,h1⟩:=(show Ef X.prog X.w H s.heap a (.frz ob (.lst xs)) from I.hok a _ ea);exact ja7 PySem.W.kitx_list I.kIn ⟨_,h1,rfl⟩ e (fun z=>nomatch z) h
 | @tup a xs ea=>
  cases (show u=Value.ref a from rx);obtain⟨_,_,_,p⟩:=(show Ef X.prog X.w H s.heap a (.tup xs) from I.hok a _ ea);obtain⟨o,h1,h2,_⟩:=p;exact ja7 PySem.W.kitx_tuple I.kIn ⟨o,h1,h2⟩ e (fun z=>nomatch z) h
 | @dK a kvs ea=>
  cases (show u=Value.ref a from rx);obtain⟨_,_,vs,_,p⟩:=(show Ef X.prog X.w H s.heap a (.dK kvs) from I.hok a _ ea);obtain⟨o,es,ep,h1,h2,_⟩:=p;exact ja7 PySem.W.kitx_dict I.kIn ⟨o,h1,h2.1⟩ e (fun z=>nomatch z) h
 | @dT a kvs ea=>
  cases (show u=Value.ref a from rx);obtain⟨_,_,xs,_,o,es,ep,h1,h2,_⟩:=(show Ef X.prog X.w H s.heap a (.dT kvs) from I.hok a _ ea);exact ja7 PySem.W.kitx_dict I.kIn ⟨o,h1,h2.1⟩ e (fun z=>nomatch z) h
 | @ins a C dx fs ea cl ha hn htk hm=>
  cases (show u=Value.ref a from rx);obtain⟨mA,O,_⟩:=Qq I.hok ea;obtain⟨od,J,_⟩:=O.look;exact ja7 (PySem.W.kitx_own (cl.get _) cl.hd ha hn htk hm) I.kIn J e (fun z=>nomatch z) h
end
structure Do(k:Nat)(A:Around):Prop where
 hd:A.handled=none
 dp:A.depth+3*k+5<recursionLimit
 un:A.units+16*k+200<cLine
 gd:A.guards=some []
theorem Do.mono{j k:Nat}(r:Do k A)(h:j<=k):Do j A:=⟨r.hd,by have:=r.dp;lia,by have:=r.un;lia,r.gd⟩
theorem Do.deeper{k:Nat}(r:Do (k+1) A)(env:Env):Do k (A.deeper env):=
 ⟨r.hd,by have:=r.dp;show A.depth+1+3*k+5<_;lia,by have:=r.un;show A.units+3+16*k+200<_;lia,r.gd⟩
theorem az{C:Addr}{kw:List (Str×Value)}:(A.under (.builtin "type.__call__" ⟨.ref C::us,kw⟩)).depth=A.depth+1:=by
 first | rfl | simp[Around.under,Code.weight,Code.isCreation,Code.isGuard,Code.isCaller,Code.frames,Code.isFrame,guardIds]
theorem au{C:Addr}{kw:List (Str×Value)}:(A.under (.builtin "type.__call__" ⟨.ref C::us,kw⟩)).units=A.units+1:=by
 first | rfl | simp[Around.under,Code.cUnits,Code.frames,Code.isFrame]
theorem Yk{C:Addr}{kw:List (Str×Value)}(h:A.guards=some []):(A.under (.builtin "type.__call__" ⟨.ref C::us,kw⟩)).guards=some []:=by
 have e:(Code.builtin "type.__call__" ⟨.ref C::us,kw⟩).guards=[]:=by
  unfold Code.guards;rw[yv (by show ¬guardIds.contains "type.__call__"=true;decide)]
 have e2:(A.under (.builtin "type.__call__" ⟨.ref C::us,kw⟩)).guards=pushGuards (Code.builtin "type.__call__" ⟨.ref C::us,kw⟩).guards A.guards:=rfl;rw[e2,e,h];rfl
theorem Do.make{k:Nat}(r:Do (k+1) A)(C:Addr)(us:List Value)(kw:List (Str×Value)):Do k (A.under (.builtin "type.__call__" ⟨.ref C::us,kw⟩)):=
 ⟨r.hd,by have:=r.dp;rw[az];lia,by have:=r.un;rw[au];lia,Yk r.gd⟩
theorem Do.depth{k:Nat}(r:Do k A):A.depth<recursionLimit:=by have:=r.dp;lia
theorem Do.units{k:Nat}(r:Do k A):A.units+64<cLine:=by have:=r.un;lia
theorem Do.units0{k:Nat}(r:Do k A):A.units<cLine:=by have:=r.un;lia
noncomputable def Zz:TA:=fun _ H Q=>Q [] H
noncomputable def uy(ta:TE)(tr:TA):TA:=fun Z H Q=>ta Z H fun x H1=>tr Z H1 fun xs H2=>Q (x::xs) H2
section
variable{X:Cx}{e:Expr}{es:List Expr}{te:TE}{t:TA}{pos:Pos}
theorem Ab:PA X [] Zz:=fun _ _ _ _ H Q I h=>Calls.spliced_nil ⟨[],H,I,.nil,h⟩
theorem Aa(ha:PE X e te)(hr:PA X es t)(hs:starEach (e::es) X.env=(false,eval e X.env)::starEach es X.env:=by rfl):PA X (e::es) (uy te t):=by
 intro pos pins s Z H Q I h;rw[hs];show wpAny _ _ (spliced ((false,eval e X.env)::backTo pos (starEach es X.env))) _ _ s;refine Calls.spliced_cons (thn (ha pins s Z H _ I h) fun u s1 hZ=>?_);obtain⟨x,H1,I1,r1,q1⟩:=hZ;exact thn (hr pos pins s1 Z H1 _ I1 q1) fun us s2 ⟨xs,H2,I2,r2,q2⟩=>⟨x::xs,H2,I2,.cons r1 r2,q2⟩
noncomputable def zc(t:TA):TE:=fun Z H Q=>t Z H fun xs H1=>xs.length<=sizeLine/\∀p,H1 p=none->Q (.ref p) (upd H1 p (.tup xs))
noncomputable def pW(t:TA):TE:=fun Z H Q=>t Z H fun xs H1=>xs.length<=sizeLine/\∀p,H1 p=none->Q (.ref p) (upd H1 p (.lst xs))
theorem Az{x1}(h:PA X es t):PE X (.Tuple es x1 pos) (zc t):=by
 intro pins s Z H Q I hq;refine wpAny_Tuple_spliced (thn (h pos pins s Z H _ I hq) fun us s1 ⟨xs,H1,I1,r,z,q⟩=>⟨by rw[<-r.length];exact z,?_⟩);have hf:H1 s1.heap.objs.size=none:=I1.hok.fresh (qh _);refine⟨.ref s1.heap.objs.size,upd H1 s1.heap.objs.size (.tup xs),I1.laid (t':=s1.toks) (fun b u e=>js _ e) (qh _) ?_,rfl,q _ hf⟩;exact⟨z,us,r,⟨_,zw _ rfl,rfl,_,rfl⟩⟩
theorem En(h:PA X es t):PE X (.List es pos) (pW t):=by
 intro pins s Z H Q I hq;refine wpAny_List_spliced (thn (h pos pins s Z H _ I hq) fun us s1 ⟨xs,H1,I1,r,z,q⟩=>⟨by rw[<-r.length];exact z,?_⟩);have hf:H1 s1.heap.objs.size=none:=I1.hok.fresh (qh _);refine⟨.ref s1.heap.objs.size,upd H1 s1.heap.objs.size (.lst xs),I1.laid (t':=s1.toks) (fun b u e=>js _ e) (qh _) ?_,rfl,q _ hf⟩;exact⟨z,us,0,r,zw _ rfl⟩
end
noncomputable abbrev Sp:=List V->Hp->VK->XK->Prop
noncomputable abbrev CXT:=List Env->Hp->Shared->XK->Value->Shared->Prop
structure cD(P:Program)(w:World)(K:Fr)(mg:Str->Option Value)(base:Heap)(A:Around)(outer:List Env)(s:Shared)(H:Hp):Prop where
 frames:A.frames=some outer
 mod:Mod K mg base
 bs:∀b o,base.get? b=some o->s.heap.get? b=some o/\H b=none
 bsz:base.objs.size<=s.heap.objs.size
 funs:s.heap.FunFrames base outer
 frf:∀b∈frs outer,H b=none
 hok:HOk P w H s.heap
 bare:AllBare s.gens
noncomputable def CE(outer:List Env)(P:Program)(w:World)(H:Hp)(s:Shared)(Q:VK)(u:Value)(s':Shared):Prop:=
 ∃v H',s'.os=s.os/\AllBare s'.gens/\Un (frs outer) [] H H' s.heap s'.heap/\HOk P w H' s'.heap/\RelV v u/\Q v H'
noncomputable def CR(CX:CXT)(outer:List Env)(P:Program)(w:World)(H:Hp)(s:Shared)(Q:VK)(E:XK)(r:Result)(s':Shared):Prop:=
 match r with
 | .ok (.ret u)=>CE outer P w H s Q u s'
 | .ok _=>False
 | .error e=>CX outer H s E e s'
structure Et(P:Program)(w:World)(K:Fr)(mg:Str->Option Value)(base:Heap)(CX:CXT)(k:Nat)(f:Addr)(fd:FuncData)(ps:List Str)(sp:Sp):Prop where
 len:∀vs H Q E,sp vs H Q E->vs.length=ps.length
 run:∀(A:Around) (outer:List Env) (s:Shared) (H:Hp) (args:Args) (us:List Value) (vs:List V) (Q:VK) (E:XK),Do k A->cD P w K mg base A outer s H->BindsTo s fd args (ps.zip us)->Vals vs us->sp vs H Q E->
  codeAny (model P w) A (.call (.ref f) args) (CR CX outer P w H s Q E) s
theorem Et.mono{P:Program}{w:World}{mg:Str->Option Value}{base:Heap}{CX:CXT}{j k:Nat}{f:Addr}{fd:FuncData}{ps:List Str}{sp:Sp}(F:Et P w K mg base CX j f fd ps sp)(h:j<=k):
 Et P w K mg base CX k f fd ps sp:=⟨F.len,fun A outer s H args us vs Q E hr=>F.run A outer s H args us vs Q E (hr.mono h)⟩
theorem cD.make{P:Program}{w:World}{mg:Str->Option Value}{base:Heap}{outer:List Env}{s:Shared}(e:cD P w K mg base A outer s H)(C:Addr)(us:List Value)(kw:List (Str×Value)):
 cD P w K mg base (A.under (.builtin "type.__call__" ⟨.ref C::us,kw⟩)) outer s H:=⟨by first | exact e.frames | (simpa [Around.under,Code.envs,Code.isFrame,pushEnvs] using e.frames),e.mod,e.bs,e.bsz,e.funs,e.frf,e.hok,e.bare⟩
section
variable{X:Cx}{pins:List (Addr×Obj)}{Z:St}{H:Hp}{s s':Shared}
theorem Inv.env0(I:Inv X pins Z H s):cD X.prog X.w X.K X.mg X.base X.A X.stack s H:=
 ⟨I.ok.frames,I.ok.mod,I.bs,zv I.ok.bsz I.sz,I.stack,I.stkFree,I.hok,I.bare⟩
theorem Inv.after{Q:VK}(I:Inv X pins Z H s)(h:CE X.stack X.prog X.w H s Q u s'):EP X pins Z Q u s':=by
 obtain⟨v,H',os,bare,un,hok,r,q⟩:=h;obtain⟨hh,g,d,t,os'⟩:=s';obtain rfl:os'=s.os:=os;exact⟨v,H',I.call (h':=hh) (g':=g) (d':=d) (t':=t) (ch:=[]) un hok bare (fun b z=>absurd z (by simp)),r,q⟩
end
noncomputable def cO(sp:Sp)(dvs:List V)(E:XK)(t:TA):TE:=fun Z H Q=>t Z H fun vs H1=>sp (vs++dvs) H1 Q E
noncomputable def Xm(C:Addr)(m:Str)(sp:Sp)(dvs:List V)(E:XK)(ta:TE)(t:TA):TE:=fun Z H Q=>ta Z H fun x H1=>∃a dx fs,x=.ref a/\H1 a=some (.ins C dx fs)/\fs.lookup m=none/\
 t Z H1 fun vs H2=>sp (x::(vs++dvs)) H2 Q E
noncomputable def U0(C:Addr)(sp:Sp)(dvs:List V)(E:XK)(t:TA):TE:=fun Z H Q=>t Z H fun vs H1=>∀x dx,H1 x=none->H1 dx=none->dx≠x->
 sp (.ref x::(vs++dvs)) (upd (upd H1 dx (.own x)) x (.ins C dx [])) (fun v H2=>v=.non/\Q (.ref x) H2) E
noncomputable def Binds(K:Fr)(fd:FuncData)(ps:List Str)(ds:List Value):Prop:=
 ∀(s:Shared) (us:List Value),K.In s.heap->(us++ds).length=ps.length->BindsTo s fd ⟨us,[]⟩ (ps.zip (us++ds))
theorem Binds.all{fd:FuncData}{ps:List Str}(h:∀us:List Value,us.length=ps.length->bindArgs fd ⟨us,[]⟩=pure (ps.zip us)):Binds K fd ps []:=fun s us _ hl=>by
 rw[ya] at hl ⊢;exact .of_eq (h us hl)
noncomputable def KN(CX:CXT)(X:Cx)(E:XK):Prop:=∀(pins:List (Addr×Obj)) (Z:St) (H:Hp) (s:Shared) (e:Value) (s':Shared),Inv X pins Z H s->CX X.stack H s E e s'->X.xe e s'
section
variable{X:Cx}{CX:CXT}{k:Nat}{f C:Addr}{fd:FuncData}{ps:List Str}{sp:Sp}{dvs:List V}{ds:List Value}{E:XK}{x m:Str}{p pos apos:Pos}{e o:Expr}{es:List Expr}{ta:TE}{t:TA}
theorem Nm{s:Shared}{Q:VK}{vs:List V}(F:Et X.prog X.w X.K X.mg X.base CX k f fd ps sp)(hr:Do k X.A)(hb:Binds X.K fd ps ds)(hd:Vals dvs ds)(hx:KN CX X E)
 (I:Inv X pins Z H s)(r:Vals vs us)(h:sp (vs++dvs) H Q E):wpAny (model X.prog X.w) X.A (call (.ref f) us) (EP X pins Z Q) X.xe s:=by
 have r2:Vals (vs++dvs) (us++ds):=r.append hd;have hl:(us++ds).length=ps.length:=by rw[<-r2.length];exact F.len _ _ _ _ h
 refine wpAny_call (codeAny_mono (F.run X.A X.stack s H ⟨us,[]⟩ (us++ds) (vs++dvs) Q E hr I.env0 (hb s us I.kIn hl) r2 h) fun r s' hq=>?_);cases r with
 | error e=>exact hx pins Z H s e s' I hq
 | ok fl=>
  cases fl with
  | ret u=>exact I.after hq
  | next=>exact False.elim hq
  | brk=>exact False.elim hq
  | cont=>exact False.elim hq
theorem rQ(F:Et X.prog X.w X.K X.mg X.base CX k f fd ps sp)(hr:Do k X.A)(hg:Gl X x)(hm:X.mg x=some (.ref f))(hk:PySem.W.keepIn X.K (.ref f)=true)(hb:Binds X.K fd ps ds)(hd:Vals dvs ds)(hx:KN CX X E)
 (ha:PA X (e::es) t)(hdb:(x==("__debug__":Str))=false:=by decide)(he:starEach (e::es) X.env=(false,eval e X.env)::starEach es X.env:=by rfl)(hpl:(backTo pos (starEach es X.env)).any (·.1)=false:=by rfl):
 PE X (.Call (.Name x p) (e::es) [] pos) (cO sp dvs E t):=by
 intro pins s Z H Q I h;refine jc1 (Mi I hg hm ?_ hdb);refine jd4 (h₀:=X.base) I.ok.mod.kin hk (thn (ha pos pins s Z H _ I h) fun us s1 ⟨vs,H1,I1,r,q⟩=>⟨I1.kIn,?_⟩) he hpl;exact Nm F hr hb hd hx I1 r q
theorem rP{pl:Sem Bool}(he:PE X o ta)(c:Cls X.K C)(hm:Meth X.K C m f)(F:Et X.prog X.w X.K X.mg X.base CX k f fd ps sp)(hr:Do k X.A)(hb:Binds X.K fd ps ds)(hd:Vals dvs ds)(hx:KN CX X E)(ha:PA X (e::es) t)
 (hst:starEach (e::es) X.env=(false,eval e X.env)::starEach es X.env:=by rfl)(hpl:(backTo pos (starEach es X.env)).any (·.1)=false:=by rfl)
 (ht:eval (.Call (.Attribute o m apos) (e::es) [] pos) X.env=(do
  let ov <-eval o X.env
  standAt apos.atName
  let (f,first) <-holding [ov] (getMethod ov m pl)
  callWith pos f first (backTo pos (starEach (e::es) X.env)) (backToKw pos (keywordEach [] X.env))):=by rfl):
 PE X (.Call (.Attribute o m apos) (e::es) [] pos) (Xm C m sp dvs E ta t):=by
 intro pins s Z H Q I h;refine jf6 (pl:=pl) (thn (he pins s Z H _ I h) fun u s1 hZ=>?_) ht;obtain⟨x,H1,I1,rx,a,dx,fs,ex,ea,l,q⟩:=hZ;subst ex;obtain rfl:u=Value.ref a:=rx;refine JN I1 ea c hm l ?_;refine jd4 (first:=[.ref a]) (h₀:=X.base) I.ok.mod.kin hm.kp (thn (ha pos pins s1 Z H1 _ I1 q) fun us s2 ⟨vs,H2,I2,r,q2⟩=>⟨I2.kIn,?_⟩) hst hpl
 exact Nm (us:=.ref a::us) (vs:=.ref a::vs) F hr hb hd hx I2 (.cons rfl r) q2
theorem lr{pl:Sem Bool}(he:PE X o ta)(c:Cls X.K C)(hm:Meth X.K C m f)(F:Et X.prog X.w X.K X.mg X.base CX k f fd ps sp)(hr:Do k X.A)(hb:Binds X.K fd ps ds)(hd:Vals dvs ds)(hx:KN CX X E)
 (ht:eval (.Call (.Attribute o m apos) [] [] pos) X.env=(do
  let ov <-eval o X.env
  standAt apos.atName
  let (f,first) <-holding [ov] (getMethod ov m pl)
  callWith pos f first (backTo pos (starEach [] X.env)) (backToKw pos (keywordEach [] X.env))):=by rfl):
 PE X (.Call (.Attribute o m apos) [] [] pos) (Xm C m sp dvs E ta Zz):=by
 intro pins s Z H Q I h;refine jf6 (pl:=pl) (thn (he pins s Z H _ I h) fun u s1 hZ=>?_) ht;obtain⟨x,H1,I1,rx,a,dx,fs,ex,ea,l,q⟩:=hZ;subst ex;obtain rfl:u=Value.ref a:=rx;refine JN I1 ea c hm l ?_;exact PySem.W.callWith_K0 (first:=[.ref a]) I1.kIn hm.kp (Nm (us:=[.ref a]) (vs:=[.ref a]) F hr hb hd hx I1 (.cons rfl .nil) q)
structure Mk(K:Fr)(C f:Addr):Prop where
 makes:PySem.W.makesIn K C=true
 init:PySem.W.findIn K (.ref C) "__init__"=some (some (.ref f))
 fn:PySem.W.isFn K (.ref f)=true
 kp:PySem.W.keepIn K (.ref C)=true
theorem YS{s:Shared}{Q:VK}{vs:List V}(M:Mk X.K C f)(F:Et X.prog X.w X.K X.mg X.base CX k f fd ps sp)(hr:Do (k+1) X.A)(hb:Binds X.K fd ps ds)(hd:Vals dvs ds)
 (hx:KN CX X E)(I:Inv X pins Z H s)(r:Vals vs us)
 (h:∀x dx,H x=none->H dx=none->dx≠x->sp (.ref x::(vs++dvs)) (upd (upd H dx (.own x)) x (.ins C dx [])) (fun v H2=>v=.non/\Q (.ref x) H2) E):
 wpAny (model X.prog X.w) X.A (call (.ref C) us) (EP X pins Z Q) X.xe s:=by
 have hq:=h (s.heap.objs.size+1) s.heap.objs.size (I.hok.fresh (Nat.le_succ _)) (I.hok.fresh (qh _)) (uj (jj0 _));have I2:=Inv.made (C:=C) I;have r2:Vals (V.ref (s.heap.objs.size+1)::(vs++dvs)) (Value.ref (s.heap.objs.size+1)::(us++ds)):=.cons rfl (r.append hd);have hl:(Value.ref (s.heap.objs.size+1)::us++ds).length=ps.length:=by
  have e:=r2.length;rw[F.len _ _ _ _ hq] at e;exact e.symm
 refine wpAny_call (mX (f:=f) I.kIn M.makes M.init (ja5.mp M.fn) (codeAny_mono (F.run _ X.stack _ _ ⟨Value.ref (s.heap.objs.size+1)::us,[]⟩ (Value.ref (s.heap.objs.size+1)::(us++ds)) _ _ E (hr.make C us [])
  (I2.env0.make C us []) (hb _ (Value.ref (s.heap.objs.size+1)::us) I2.kIn hl) r2 hq) fun r s' hq'=>?_))
 cases r with
 | error e=>exact hx pins Z _ _ e s' I2 hq'
 | ok fl=>
  cases fl with
  | ret u=>
   obtain⟨v,H',I3,rv,ev,q3⟩:=I2.after hq';subst ev;exact⟨rv,⟨V.ref (s.heap.objs.size+1),H',I3,rfl,q3⟩⟩
  | next=>exact False.elim hq'
  | brk=>exact False.elim hq'
  | cont=>exact False.elim hq'
theorem dG(M:Mk X.K C f)(F:Et X.prog X.w X.K X.mg X.base CX k f fd ps sp)(hr:Do (k+1) X.A)(hg:Gl X x)(hm:X.mg x=some (.ref C))(hb:Binds X.K fd ps ds)(hd:Vals dvs ds)(hx:KN CX X E)
 (ha:PA X (e::es) t)(hdb:(x==("__debug__":Str))=false:=by decide)(he:starEach (e::es) X.env=(false,eval e X.env)::starEach es X.env:=by rfl)(hpl:(backTo pos (starEach es X.env)).any (·.1)=false:=by rfl):
 PE X (.Call (.Name x p) (e::es) [] pos) (U0 C sp dvs E t):=by
 intro pins s Z H Q I h;refine jc1 (Mi I hg hm ?_ hdb);refine jd4 (h₀:=X.base) I.ok.mod.kin M.kp (thn (ha pos pins s Z H _ I h) fun us s1 ⟨vs,H1,I1,r,q⟩=>⟨I1.kIn,?_⟩) he hpl;exact YS M F hr hb hd hx I1 r q
theorem mD(M:Mk X.K C f)(F:Et X.prog X.w X.K X.mg X.base CX k f fd ps sp)(hr:Do (k+1) X.A)(hg:Gl X x)(hm:X.mg x=some (.ref C))(hb:Binds X.K fd ps ds)(hd:Vals dvs ds)(hx:KN CX X E)
 (hdb:(x==("__debug__":Str))=false:=by decide):PE X (.Call (.Name x p) [] [] pos) (U0 C sp dvs E Zz):=by
 intro pins s Z H Q I h;refine jc1 (Mi I hg hm ?_ hdb);exact PySem.W.callWith_K0 I.kIn M.kp (YS (us:=[]) M F hr hb hd hx I .nil h)
end
noncomputable def PK(X:Cx)(kws:List Keyword)(t:TA):Prop:=
 ∀(pos:Pos) (pins:List (Addr×Obj)) (s:Shared) (Z:St) (H:Hp) (Q:List V->Hp->Prop),Inv X pins Z H s->t Z H Q->wpAny (model X.prog X.w) X.A (evalAll ((backToKw pos (keywordEach kws X.env)).map (·.2))) (AP X pins Z Q) X.xe s
section
variable{X:Cx}{CX:CXT}{k:Nat}{f C:Addr}{fd:FuncData}{ps ks:List Str}{sp:Sp}{E:XK}{x m:Str}{p pos apos kpos:Pos}{e o:Expr}{es:List Expr}{kws:List Keyword}{te ta:TE}{t tk:TA}{nm:Option Str}
variable{g:List Value->List Value->List Value}{gV:List V->List V->List V}
end
structure Cp(N P:List Str)(sc:Scope):Prop where
 kind:sc.kind=.function
 co:sc.isCoroutine=false
 gen:sc.isGenerator=false
 nd:N.Nodup
 pre:N.take P.length=P
 par:∀x∈P,sc.names.lookup x=some .local\/sc.names.lookup x=some .cell
 nofree:∀y∈sc.names,y.2≠.free
theorem Vm{kindOf:Str->Option NameKind}:∀{binds:List (Str×Value)} {m:Str->Option Value},(∀v,(x,v)∉binds)->bindL kindOf binds m x=m x
 | [],_,_=>rfl
 | (n,v)::r,m,h=>by
  unfold bindL;rw[Vm fun w hw=>h w (qr _ hw)];split
  ·have:x≠n:=by rintro rfl;exact h v qk
   simp[this]
  ·rfl
theorem Vo{kindOf:Str->Option NameKind}:∀{binds:List (Str×Value)} {m:Str->Option Value},(∀v,(x,v)∉binds)->bindC kindOf binds m x=m x
 | [],_,_=>rfl
 | (n,v)::r,m,h=>by
  unfold bindC;rw[Vo fun w hw=>h w (qr _ hw)];split
  ·rfl
  ·have:x≠n:=by rintro rfl;exact h v qk
   simp[this]
theorem Vn{kindOf:Str->Option NameKind}{v:Value}:∀{P:List Str} {vs:List Value} {i:Nat} {m:Str->Option Value},P.Nodup->P[i]?=some x->vs[i]?=some v->kindOf x=some .local->
 bindL kindOf (P.zip vs) m x=some v
 | [],_,_,_,_,h,_,_=>by simp at h
 | _::_,[],_,_,_,_,h,_=>by simp at h
 | p::P,w::vs,0,m,nd,h1,h2,hk=>by
  simp at h1 h2;subst h1;subst h2;show bindL kindOf ((p,w)::P.zip vs) m p=_;unfold bindL;rw[Vm fun v hv=>(List.nodup_cons.mp nd).1 (List.of_mem_zip hv).1,xz hk];simp
 | p::P,w::vs,i+1,m,nd,h1,h2,hk=>by
  show bindL kindOf ((p,w)::P.zip vs) m x=_;unfold bindL;exact Vn (i:=i) (List.nodup_cons.mp nd).2 (by simpa using h1) (by simpa using h2) hk
theorem Vp{kindOf:Str->Option NameKind}{v:Value}:∀{P:List Str} {vs:List Value} {i:Nat} {m:Str->Option Value},P.Nodup->P[i]?=some x->vs[i]?=some v->kindOf x≠some .local->
 bindC kindOf (P.zip vs) m x=some v
 | [],_,_,_,_,h,_,_=>by simp at h
 | _::_,[],_,_,_,_,h,_=>by simp at h
 | p::P,w::vs,0,m,nd,h1,h2,hk=>by
  simp at h1 h2;subst h1;subst h2;show bindC kindOf ((p,w)::P.zip vs) m p=_;unfold bindC;rw[Vo fun v hv=>(List.nodup_cons.mp nd).1 (List.of_mem_zip hv).1,yv hk];simp
 | p::P,w::vs,i+1,m,nd,h1,h2,hk=>by
  show bindC kindOf ((p,w)::P.zip vs) m x=_;unfold bindC;exact Vp (i:=i) (List.nodup_cons.mp nd).2 (by simpa using h1) (by simpa using h2) hk
noncomputable def start(N:List Str)(vs:List V):St:=vs.map some++List.replicate (N.length-vs.length) none
noncomputable def Um(CX:CXT)(P:Program)(w:World)(K:Fr)(mg:Str->Option Value)(base:Heap)(N:List Str)(qual:Str)(scope:Scope)(f:Addr)(cd:Value)(A:Around)(outer:List Env)(s:Shared)(H:Hp)(E:XK):Cx where
 prog:=P
 w:=w
 K:=K
 mg:=mg
 base:=base
 A:=A.deeper (envOfC qual scope s.heap.objs.size f cd)
 N:=N
 s₀:=s
 H₀:=H
 env:=envOfC qual scope s.heap.objs.size f cd
 outer:=outer
 stack:=envOfC qual scope s.heap.objs.size f cd::outer
 ex:=[]
 calm:=true
 fn:=fun _=>true
 pn:=[]
 xe:=fun e s'=>wpAny (model P w) (A.deeper (envOfC qual scope s.heap.objs.size f cd)) («leaving» (envOfC qual scope s.heap.objs.size f cd) e) (fun _ s''=>CX outer H s E e s'') (fun e' s''=>CX outer H s E e' s'') s'
theorem Y5{sc:Scope}{n:Nat}(h:sc.names.lookup x=some .cell):∃c,(cellsFrom n sc.names []).lookup x=some c:=by
 have q:=PySem.W.cellsFrom_some sc.names n [] (.inl h);exact jb3.mp q
theorem iJ{CX:CXT}{P:Program}{w:World}{mg:Str->Option Value}{base:Heap}{N ps:List Str}{qual:Str}{scope:Scope}{f:Addr}{cd:Value}{outer:List Env}{s s1:Shared}{E:XK}{vs:List V}
 (S:Cp N ps scope)(hd:A.handled=none)(e0:cD P w K mg base A outer s H)(hl:vs.length=ps.length)(r:Vals vs us)
 (x:InCallC s s.heap.objs.size (bindL (envOfC qual scope s.heap.objs.size f cd).kindOf (ps.zip us) fun _=>none) (cellsFrom (s.heap.objs.size+1) scope.names []) (bindC (envOfC qual scope s.heap.objs.size f cd).kindOf (ps.zip us) fun _=>none) s1):
 Inv (Um CX P w K mg base N qual scope f cd A outer s H E) [] (start N vs) H s1:=by
 have hpl:ps.length<=N.length:=by have:=xo List.length S.pre;rw[jd7] at this;lia
 obtain⟨h1,tk,rfl,hk⟩:=x.done;have noA:∀b:Addr,b∉(Um CX P w K mg base N qual scope f cd A outer s H E).ex:=fun b z=>absurd (show b∈([]:List Addr) from z) (by simp);refine⟨⟨e0.mod,S.kind,rfl,rfl,qh _,fun y z c h1 h2=>?_,fun y hy=>?_,fun y c _ h=>?_,fun _=>hd,Around.frames_deeper e0.frames,.inr ⟨rfl,rfl⟩,fun b z=>absurd z (noA b),e0.bs,e0.bsz,fun b _ _=>noA b,fun b z=>absurd z (noA b),e0.funs,e0.frf⟩,
  rfl,e0.bare,Un.kept hk,⟨_,x.toInCall.ns,fun i y v h1 h2 h3=>?_⟩,fun y c h=>⟨_,x.cell y c h⟩,e0.hok.fresh (qh _),fun y c h=>?_,fun p hp=>absurd (show p∈([]:List (Addr×Obj)) from hp) (by simp),e0.hok.kept hk,?_⟩
 ·exact name_of_addr x.apart (jh0 h1) (jh0 h2)
 ·have hy:scope.names.lookup y=some .cell\/scope.names.lookup y=some .free:=hy;rcases hy with hy | hy
  ·exact Y5 hy
  ·exact absurd rfl (S.nofree _ (jh0 hy))
 ·exact Nat.le_of_lt (x.above y c (jh0 h))
 ·have hi:i<vs.length:=by
   unfold start at h2;by_cases hi:i<vs.length
   ·exact hi
   ·rw[je9 (by simpa using hi)] at h2;rw[List.getElem?_replicate] at h2;split at h2<;>cases h2
  have ha:vs[i]?=some v:=by
   unfold start at h2;rw[List.getElem?_append_left (by simpa using hi),xc] at h2;cases e:vs[i]? with
   | none=>rw[e] at h2;cases h2
   | some a=>rw[e] at h2;cases h2;rfl
  obtain⟨u,hu,rv⟩:=r.get ha;have hp:ps[i]?=some y:=by
   rw[<-S.pre,List.getElem?_take_of_lt (by lia)];exact h1
  have ndP:ps.Nodup:=by rw[<-S.pre];exact S.nd.sublist (List.take_sublist _ _)
  refine⟨u,rv,?_⟩;rcases S.par y (zh hp) with k | k
  ·exact .inl ⟨k,Vn ndP hp hu k⟩
  ·obtain⟨c,e⟩:=Y5 (n:=s.heap.objs.size+1) k;refine .inr ⟨.inl k,c,e,?_⟩;have q:=x.cell y c e;rw[Vp ndP hp hu (by show scope.names.lookup y≠_;rw[k];decide)] at q;exact q
 ·exact e0.hok.fresh (Nat.le_of_lt (x.above y c (jh0 h)))
 ·unfold start;show _=N.length;rw[qf,jp,jb2];lia
theorem vX{CX:CXT}{P:Program}{w:World}{mg:Str->Option Value}{base:Heap}{k:Nat}{f:Addr}{name qual:Str}{params:Arguments}{body:List Stmt}{scope:Scope}{dV kV doc pm cdv ct oc:Value}{an od:Option Addr}
 {osl:Array (Option Value)}{N ps:List Str}{sp:Sp}(lk:K.lookup f=some ⟨oc,od,.func (PySem.W.fnOf name qual params body scope dV kV doc pm an cdv ct),osl⟩)(hcd:PySem.W.codeIn K cdv qual=true)(S:Cp N ps scope)
 (len:∀vs H Q E,sp vs H Q E->vs.length=ps.length)
 (hbody:∀(A:Around) (outer:List Env) (s:Shared) (H:Hp) (vs:List V) (Q:VK) (E:XK),Do k (A.deeper (envOfC qual scope s.heap.objs.size f cdv))->sp vs H Q E->
  ∃t,PSs (Um CX P w K mg base N qual scope f cdv A outer s H E) body t/\t { nx:=fun _ H'=>Q .non H',rt:=Q } (start N vs) H):
 Et P w K mg base CX (k+1) f (PySem.W.fnOf name qual params body scope dV kV doc pm an cdv ct) ps sp:=by
 refine⟨len,fun A outer s H args us vs Q E hr e0 hb r hsp=>?_⟩;have hl:=len _ _ _ _ hsp;have KX:K.In s.heap:=e0.mod.kin.keeps fun b o e=>(e0.bs b o e).1;have lim:s.heap.NoLimit:=e0.mod.nolimit.keeps fun b o e=>(e0.bs b o e).1;have hkind:∀y∈ps.zip us,scope.names.lookup y.1=some .local\/(scope.names.lookup y.1=some .cell/\((cellsFrom (s.heap.objs.size+1) scope.names []).lookup y.1).isSome=true):=fun⟨n,v⟩ hy=>by
  rcases S.par n (List.of_mem_zip hy).1 with q | q
  ·exact .inl q
  ·exact .inr ⟨q,PySem.W.cellsFrom_some _ _ _ (.inl q)⟩
 refine codeAny_call_function hr.depth (KX _ _ lk) rfl S.co S.gen rfl (PySem.W.codeRec_of KX hcd) (hb _ _ _ _ ?_);refine wpAny_newFunctionEnv_cells S.kind hkind fun env he s1 x=>?_;subst he;refine⟨lim.keeps x.toInCall.keep,codeAny_func ?_⟩;obtain⟨t,ht,hq⟩:=hbody A outer s H vs Q E (hr.deeper _) hsp;have I:Inv (Um CX P w K mg base N qual scope f cdv A outer s H E) [] (start N vs) H s1:=iJ S hr.hd e0 hl r x;refine kq (ht [] s1 (start N vs) H _ I hq) (fun fl s' hs=>?_) fun e s' hs=>hs;have fin:∀{Z':St} {H':Hp} {v:V} {u:Value},Inv (Um CX P w K mg base N qual scope f cdv A outer s H E) [] Z' H' s'->RelV v u->Q v H'->CE outer P w H s Q u s':=
  fun{Z' H' v u} J rv q=>⟨v,H',J.os,J.bare,J.base,J.hok,rv,q⟩
 cases fl with
 | ret u=>
  obtain⟨v,Z',H',J,rv,q⟩:=hs;exact fin J rv q
 | next=>
  obtain⟨Z',H',J,q⟩:=hs;exact fin (v:=V.non) (u:=Value.none) J rfl q
 | brk=>
  obtain⟨_,_,_,q⟩:=hs;exact False.elim q
 | cont=>
  obtain⟨_,_,_,q⟩:=hs;exact False.elim q
section
variable{X:Cx}{x:Str}{p pos:Pos}{e:Expr}{es:List Expr}{t:TA}{id T:String}{r:List V->Hp->VK->Prop}
noncomputable def tCB(r:List V->Hp->VK->Prop)(t:TA):TE:=fun Z H Q=>t Z H fun vs H1=>r vs H1 Q
theorem BJ(hc:HD X (.builtin id) r)(hg:Gl X x)(hm:X.mg x=none)(hv:bootBuiltins x=some (.builtin id))(ha:PA X (e::es) t)(hn:x≠"__name__":=by decide)(hdb:(x==("__debug__":Str))=false:=by decide)
 (he:starEach (e::es) X.env=(false,eval e X.env)::starEach es X.env:=by rfl)(hpl:(backTo pos (starEach es X.env)).any (·.1)=false:=by rfl):PE X (.Call (.Name x p) (e::es) [] pos) (tCB r t):=by
 intro pins s Z H Q I h;refine jc1 (G8 I hg hm hv ?_ hn hdb);exact PyProof.Rows.callWith_builtin1 (thn (ha pos pins s Z H _ I h) fun us s1 ⟨vs,H1,I1,r1,q1⟩=>hc pins s1 Z H1 vs us Q I1 r1 q1) he hpl
theorem BZ(hc:HD X (.type T) r)(hg:Gl X x)(hm:X.mg x=none)(hv:bootBuiltins x=some (.type T))(ha:PA X (e::es) t)(hn:x≠"__name__":=by decide)(hdb:(x==("__debug__":Str))=false:=by decide)
 (he:starEach (e::es) X.env=(false,eval e X.env)::starEach es X.env:=by rfl)(hpl:(backTo pos (starEach es X.env)).any (·.1)=false:=by rfl):PE X (.Call (.Name x p) (e::es) [] pos) (tCB r t):=by
 intro pins s Z H Q I h;refine jc1 (G8 I hg hm hv ?_ hn hdb);exact ui (thn (ha pos pins s Z H _ I h) fun us s1 ⟨vs,H1,I1,r1,q1⟩=>hc pins s1 Z H1 vs us Q I1 r1 q1) he hpl
end
end L2
namespace HT
open PySem PyProof.Rows
section
open PySem.SeqAt
open PySem.AutoSeq1 (wpAny_loadPart')
open PySem.MeetsSeq PySem.MeetsSeq2 PySem.MeetsSeq3
end
section
variable{prog:Program}{w:World}{A:Around}{E:Value->Shared->Prop}{s:Shared}
noncomputable def sIx(n d:Nat):Option Int->Nat
 | none=>d
 | some v=>if v<0 then (v+(n:Int)).toNat else min v.toNat n
theorem sIx_none(n d:Nat):sIx n d none=d:=rfl
theorem sIx_nat(n d k:Nat):sIx n d (some (k:Int))=min k n:=by
 show(if (k:Int)<0 then ((k:Int)+(n:Int)).toNat else min (k:Int).toNat n)=min k n;rw[yv (by lia),zk]
end
end HT
namespace L2
open PySem PySem.Spec PyProof.Rows
noncomputable abbrev TO:=St->Hp->(Option Int->Hp->Prop)->Prop
noncomputable def PO(X:Cx)(e:Option Expr)(t:TO):Prop:=
 ∀(pins:List (Addr×Obj)) (s:Shared) (Z:St) (H:Hp) (Q:Option Int->Hp->Prop),Inv X pins Z H s->t Z H Q->
  wpAny (model X.prog X.w) X.A (evalPart e X.env) (fun u s'=>∃o H',Inv X pins Z H' s'/\IsPart u o/\Q o H') X.xe s
noncomputable def cM:TO:=fun _ H Q=>Q none H
noncomputable def ut(t:TE):TO:=fun Z H Q=>t Z H fun x H1=>∃i,x=.int i/\Q (some i) H1
theorem intsAre_of{ns:List Int}:∀{us:List Value},Vals (ns.map V.int) us->IntsAre us ns:=by
 induction ns with
 | nil=>intro us r;rw[List.map_nil] at r;cases r;exact .nil
 | cons n ns ih=>
  intro us r;rw[xk] at r;cases r with
  | cons r1 r2=>
   obtain⟨t,e⟩:=r1;subst e;exact .cons n t (ih r2)
section
variable{X:Cx}{e:Expr}{te:TE}{lo hi:Option Expr}{tl th:TO}{pos p2:Pos}
theorem Fe:PO X none cM:=by
 intro pins s Z H Q I h;rw[evalPart_none];exact xp ⟨none,H,I,.none,h⟩
theorem Fd(h:PE X e te):PO X (some e) (ut te):=by
 intro pins s Z H Q I hw;rw[evalPart_some];refine thn (h pins s Z H _ I hw) fun u s1 hZ=>?_;obtain⟨x,H1,I1,r1,q1⟩:=hZ;obtain⟨i,rfl,q⟩:=q1;obtain⟨t,rfl⟩:=r1;exact⟨some i,H1,I1,.int i t,q⟩
noncomputable def SlR(X:Cx)(r:V->Option Int->Option Int->Hp->VK->Prop):Prop:=
 ∀(pins:List (Addr×Obj)) (s:Shared) (Z:St) (H:Hp) (x:V) (v vl vu:Value) (lo hi:Option Int) (sl:Addr) (Q:VK),Inv X pins Z H s->RelV x v->s.heap.IsSliceOf sl vl vu .none->IsPart vl lo->IsPart vu hi->r x lo hi H Q->
  ∃T id,typeLookup (.type T) "__getitem__"=pure (some (.builtin id))/\s.TypeIs v T/\wpAny (model X.prog X.w) X.A (getItem v (.ref sl)) (EP X pins Z Q) X.xe s
noncomputable def tSl(r:V->Option Int->Option Int->Hp->VK->Prop)(te:TE)(tl th:TO):TE:=fun Z H Q=>te Z H fun x H1=>tl Z H1 fun l H2=>th Z H2 fun u H3=>r x l u H3 Q
theorem Ej{r:V->Option Int->Option Int->Hp->VK->Prop}(hr:SlR X r)(he:PE X e te)(hl:PO X lo tl)(hu:PO X hi th):PE X (.Subscript e (.Slice lo hi none p2) pos) (tSl r te tl th):=by
 intro pins s Z H Q I h;refine Subscript_ (thn (he pins s Z H _ I h) fun v s1 hZ=>?_);obtain⟨x,H1,I1,r1,q1⟩:=hZ;refine wpAny_Slice (thn (hl pins s1 Z H1 _ I1 q1) fun vl s2 ⟨l,H2,I2,pl,q2⟩=>thn (hu pins s2 Z H2 _ I2 q2) fun vu s3 hZ=>?_);obtain⟨u,H3,I3,pu,q3⟩:=hZ;rw[evalPart_none];refine xp ?_;have I4:Inv X pins Z H3 { s3 with heap:=s3.heap.push { cls:=.type "slice",data:=.fields #[vl,vu,.none] } }:=I3.kept (t':=s3.toks) fun b ob q=>js _ q;obtain⟨T,id,hT,ht,hg⟩:=hr pins { s3 with heap:=s3.heap.push { cls:=.type "slice",data:=.fields #[vl,vu,.none] } } Z H3 x v vl vu l u s3.heap.objs.size Q I4 r1 (Heap.IsSliceOf.new ..) pl pu q3;show wpAny (model X.prog X.w) X.A (subscriptTail e (.Slice lo hi none p2) v (.ref s3.heap.objs.size)) (EP X pins Z Q) X.xe { s3 with heap:=s3.heap.push { cls:=.type "slice",data:=.fields #[vl,vu,.none] } };exact tail_any (ops:=[.ref s3.heap.objs.size,v]) ht hT hg (by with_unfolding_all rfl)
noncomputable def J5(xs:List V)(lo hi:Option Int):List V:=(xs.drop (HT.sIx xs.length 0 lo)).take (HT.sIx xs.length xs.length hi-HT.sIx xs.length 0 lo)
theorem Yz(xs:List V)(lo hi:Option Int):(J5 xs lo hi).length<=xs.length:=by
 unfold J5;rw[jd7,ja8];lia
end
noncomputable def ixN(n:Nat)(i:Int):Option Nat:=if 0<=i then (if i<n then some i.toNat else none) else if -(n:Int)<=i then some (i+n).toNat else none
noncomputable def atI{α:Type}(xs:List α)(i:Int):Option α:=(ixN xs.length i).bind fun j=>xs[j]?
theorem dY{n:Nat}{i:Int}{j:Nat}(h:ixN n i=some j):seqIndex? i n=some j/\j<n/\ -(n:Int)<=i/\i<n:=by
 unfold ixN at h;by_cases h0:0<=i
 ·rw[xz h0] at h;by_cases h1:i<n
  ·rw[xz h1] at h;have e:i.toNat=j:=ki h;exact⟨by rw[seqIndex_of h0 h1,e],by lia,by lia,h1⟩
  ·rw[yv h1] at h;cases h
 ·rw[yv h0] at h;by_cases h1: -(n:Int)<=i
  ·rw[xz h1] at h;have e:(i+n).toNat=j:=ki h;exact⟨by rw[seqIndex_neg (by lia) h1,e],by lia,h1,by lia⟩
  ·rw[yv h1] at h;cases h
theorem XX{α:Type}{xs:List α}{i:Int}{v:α}(h:atI xs i=some v):∃j,seqIndex? i xs.length=some j/\xs[j]?=some v/\j<xs.length/\ -(xs.length:Int)<=i/\i<xs.length:=by
 unfold atI at h;cases e:ixN xs.length i with
 | none=>rw[e] at h;cases h
 | some j=>
  rw[e] at h;obtain⟨h1,h2,h3,h4⟩:=dY e;exact⟨j,h1,h,h2,h3,h4⟩
theorem DX{α:Type}{xs:List α}{j:Nat}{v:α}(h:xs[j]?=some v):atI xs (j:Int)=some v:=by
 have hj:j<xs.length:=(xb.mp h).1;have e:ixN xs.length (j:Int)=some j:=by
  unfold ixN;rw[xz (by lia),xz (by lia)];simp
 unfold atI;rw[e];exact h
noncomputable def uZ(b:Expr):Prop:=∀o i,subscripted b false o i=operate [o,i] (getItem o i)
noncomputable def IxR(X:Cx)(r:R2):Prop:=
 ∀(value slice:Expr) (pins:List (Addr×Obj)) (s:Shared) (Z:St) (H:Hp) (x y:V) (v u:Value) (Q:VK),Inv X pins Z H s->RelV x v->RelV y u->r x y H Q->
  subscripted slice false v u=operate [v,u] (getItem v u)->wpAny (model X.prog X.w) X.A (subscriptTail value slice v u) (EP X pins Z Q) X.xe s
noncomputable def MtR(X:Cx)(id:String)(r:V->List V->Hp->VK->Prop):Prop:=
 ∀(pins:List (Addr×Obj)) (s:Shared) (Z:St) (H:Hp) (x:V) (xs:List V) (v:Value) (us:List Value) (Q:VK),Inv X pins Z H s->RelV x v->Vals xs us->r x xs H Q->
  wpAny (model X.prog X.w) X.A (call (.builtin id) (v::us)) (EP X pins Z Q) X.xe s
section
variable{X:Cx}{a b:Expr}{ta tb:TE}{pos:Pos}
theorem CT{r:R2}(hr:IxR X r)(ha:PE X a ta)(hb:PE X b tb)(hs:uZ b:=by exact fun _ _=>rfl):PE X (.Subscript a b pos) (tOp r ta tb):=by
 intro pins s Z H Q I h;exact Subscript_ (zJ ha hb I h fun v u s2 x y H2 I2 rx ry q=>hr a b pins s2 Z H2 x y v u Q I2 rx ry q (hs _ _))
noncomputable def rN(K:Fr):R2:=fun x y H Q=>∃p xs i v,x=.ref p/\y=.int i/\SqL K H p xs/\atI xs i=some v/\Q v H
noncomputable def rM(K:Fr):R2:=fun x y H Q=>∃p xs i v,x=.ref p/\y=.int i/\SqT K H p xs/\atI xs i=some v/\Q v H
noncomputable def ACX:R2:=fun x y H Q=>∃z i c,x=.str z/\y=.int i/\z.length<=sizeLine/\atI z.cps.toList i=some c/\Q (.str ⟨#[c]⟩) H
theorem Ck:IxR X (rN X.K):=by
 intro value slice pins s Z H x y v u Q I rx ry h hs;obtain⟨p,xs,i,z,rfl,rfl,hq,he,q⟩:=h;cases rx;obtain⟨t,rfl⟩:=ry;obtain⟨its,r,pl,hz⟩:=I.list hq;obtain⟨j,h1,h2,h3,h4,h5⟩:=XX he;obtain⟨w,ew,rw'⟩:=r.get h2;have hl:=r.length;have hn:=LC;have fin:EP X pins Z Q w s:=⟨z,H,I,rw',q⟩;by_cases h0:0<=i
 ·have hj:i.toNat=j:=by
   rw[seqIndex_of h0 h5] at h1;exact ki h1
  exact item_listR pl.isList h0 (by lia) (by rw[hj];simpa using ew) fin hs
 ·have hj:(i+(its.toArray.size:Int)).toNat=j:=by
   rw[seqIndex_neg (by lia) h4] at h1;rw[xi,<-hl];exact ki h1
  exact subscriptTail_builtinR (x:=w) pl.isList.typeIs slot_list_getitem.lookup
   (wpAny_getItem_list_neg (Q:=fun r s'=>r=w/\EP X pins Z Q r s') pl.isList (by lia) (by rw[xi]<;>lia) (by lia) (by rw[hj];simpa using ew) ⟨rfl,fin⟩) hs
theorem Ho:IxR X (rM X.K):=by
 intro value slice pins s Z H x y v u Q I rx ry h hs;obtain⟨p,xs,i,z,rfl,rfl,hq,he,q⟩:=h;cases rx;obtain⟨t,rfl⟩:=ry;obtain⟨its,r,pl,hz⟩:=I.tuple hq;obtain⟨j,h1,h2,h3,h4,h5⟩:=XX he;obtain⟨w,ew,rw'⟩:=r.get h2;have hl:=r.length;have hn:=LC;have fin:EP X pins Z Q w s:=⟨z,H,I,rw',q⟩;exact subscriptTail_builtinR (x:=w) pl.typeIs slot_tuple_getitem.lookup
  (getItem_tuple (j:=j) (Q:=fun r s'=>r=w/\EP X pins Z Q r s') pl (by lia) (by lia) (by rw[xi,<-hl];exact h1) (by simpa using ew) ⟨rfl,fin⟩) hs
theorem m9:IxR X ACX:=by
 intro value slice pins s Z H x y v u Q I rx ry h hs;obtain⟨z,i,c,rfl,rfl,hz,he,q⟩:=h;obtain⟨t,rfl⟩:=rx;obtain⟨t',rfl⟩:=ry;obtain⟨j,h1,h2,h3,h4,h5⟩:=XX he;have hl:z.cps.toList.length=z.length:=by simp[Str.length]
 rw[hl] at h1 h4 h5;have hn:=LC;exact tail_any (typeIs_str s z t) slot_str_getitem.lookup (getItem_str (c:=c) (by
  have e1:decide (i< -(2^63:Int))=false:=decide_eq_false (by lia);have e2:decide (i>=2^63)=false:=decide_eq_false (by lia);rw[e1,e2,Bool.or_false]) (by rw[h1];simpa using h2) ⟨.str ⟨#[c]⟩,H,I.tok _,⟨_,rfl⟩,q⟩) hs
theorem aq(its:List Value)(n j:Nat)(u:Value):Obj.mapSeq (·.setIfInBounds j u) { cls:=.type "list",data:=.seq its.toArray n }={ cls:=.type "list",data:=.seq (its.set j u).toArray n }:=by
 simp[Obj.mapSeq]
theorem Inv.lst{pins:List (Addr×Obj)}{Z:St}{H:Hp}{s:Shared}{p:Addr}{xs:List V}(I:Inv X pins Z H s)(h:H p=some (.lst xs)):
 ∃(its:List Value) (n:Nat),Vals xs its/\s.heap.get? p=some { cls:=.type "list",data:=.seq its.toArray n }/\xs.length<=sizeLine:=by
 obtain⟨z,its,n,r,e⟩:=I.hok p _ h;exact⟨its,n,r,e,z⟩
theorem Inv.lstUpd{pins:List (Addr×Obj)}{Z:St}{H:Hp}{s:Shared}{p:Addr}{xs ys:List V}{its its':List Value}{n n':Nat}{f:Obj->Obj}(I:Inv X pins Z H s)(h:H p=some (.lst xs))
 (ho:s.heap.get? p=some { cls:=.type "list",data:=.seq its.toArray n })(hf:f { cls:=.type "list",data:=.seq its.toArray n }={ cls:=.type "list",data:=.seq its'.toArray n' })(r:Vals ys its')(hz:ys.length<=sizeLine)(t:Nat):
 Inv X pins Z (upd H p (.lst ys)) { s with heap:=s.heap.update p f,toks:=t }:=by
 have e:(s.heap.update p f).get? p=some { cls:=.type "list",data:=.seq its'.toArray n' }:=by
  rw[jf1 f ho (by rw[hf]<;>rfl),hf]
 refine I.write (x:=p) (e:=p) (by rw[h];trivial) (.inl rfl) (fun b u hb q=>(ja3 _ _ (Ne.symm hb)).trans q) ⟨_,e⟩ ?_;exact⟨hz,its',n',r,e⟩
noncomputable def vG:V->V->V->Hp->(Hp->Prop)->Prop:=fun o i v H Q=>∃p xs k j,o=.ref p/\i=.int k/\H p=some (.lst xs)/\ixN xs.length k=some j/\Q (upd H p (.lst (xs.set j v)))
theorem set_list:ABr X vG:=by
 intro pins s Z H o i v ov iv u Q I ro ri rv h;obtain⟨p,xs,k,j,rfl,rfl,hp,hj,q⟩:=h;cases ro;obtain⟨t,rfl⟩:=ri;obtain⟨its,n,r,ho,hz⟩:=I.lst hp;obtain⟨h1,h2,h3,h4⟩:=dY hj;have hl:=r.length;have hn:=LC;have I':Inv X pins Z (upd H p (.lst (xs.set j v))) { s with heap:=s.heap.update p (Obj.mapSeq (·.setIfInBounds j u)) }:=
  I.lstUpd hp ho (aq its n j u) (r.set rv j) (by rw[List.length_set];exact hz) s.toks
 by_cases h0:0<=k
 ·have hk:k.toNat=j:=by
   rw[seqIndex_of h0 h4] at h1;exact ki h1
  exact PySem.W.ki_setAt ho h0 (by lia) (by rw[xi,<-hl];exact h4) (by rw[hk];exact⟨_,I',q⟩)
 ·have hk:(k+(its.toArray.size:Int)).toNat=j:=by
   rw[seqIndex_neg (by lia) h3] at h1;rw[xi,<-hl];exact ki h1
  exact PySem.W.ki_setBack ho (by lia) (by rw[xi,<-hl];exact h3) (by lia) (by rw[hk];exact⟨_,I',q⟩)
theorem V4(lo hi:Option Int)(n:Nat):(sliceBounds lo hi none n).1=((HT.sIx n 0 lo:Nat):Int)/\(sliceBounds lo hi none n).2.1=((HT.sIx n n hi:Nat):Int)/\(sliceBounds lo hi none n).2.2=1:=by
 refine⟨?_,?_,rfl⟩
 ·cases lo with
  | none=>simp[sliceBounds,HT.sIx]
  | some i=>
   simp only[sliceBounds,HT.sIx,Option.getD_none,show(1:Int)>0 by decide,if_true];by_cases h:i<0
   ·simp only[h,if_true]<;>lia
   ·simp only[h,if_false]<;>lia
 ·cases hi with
  | none=>simp[sliceBounds,HT.sIx]
  | some i=>
   simp only[sliceBounds,HT.sIx,Option.getD_none,show(1:Int)>0 by decide,if_true];by_cases h:i<0
   ·simp only[h,if_true]<;>lia
   ·simp only[h,if_false]<;>lia
theorem Tr(its:List Value)(lo hi:Option Int):slicePick its.toArray lo hi none=((its.drop (HT.sIx its.length 0 lo)).take (HT.sIx its.length its.length hi-HT.sIx its.length 0 lo)).toArray:=by
 obtain⟨h1,h2,h3⟩:=V4 lo hi its.toArray.size;unfold slicePick;rw[h1,h2,h3];simp only[sliceRange_one,pick_run,xi]<;>rfl
noncomputable def AAw(K:Fr):V->Option Int->Option Int->Hp->VK->Prop:=fun x lo hi H Q=>∃a xs,x=.ref a/\SqL K H a xs/\∀p,H p=none->Q (.ref p) (upd H p (.lst (J5 xs lo hi)))
theorem Iv:SlR X (AAw X.K):=by
 intro pins s Z H x v vl vu lo hi sl Q I rx hs pl pu h;obtain⟨a,xs,rfl,hx,q⟩:=h;cases rx;obtain⟨its,r,ht,hz⟩:=I.list hx;have hlen:=r.length;refine⟨"list",_,slot_list_getitem.lookup,ht.isList.typeIs,?_⟩;refine wpAny_getItem_list_slice ht.isList hs pl pu .none (by simp) ?_ (by rw[xi]<;>lia);rw[Tr,<-hlen];refine⟨.ref s.heap.objs.size,_,I.laid (t':=s.toks) (o:=.lst (J5 xs lo hi)) (fun b ob q=>js _ q) (qh _) ?_,rfl,q _ (I.hok.fresh (qh _))⟩;exact⟨zv (Yz xs lo hi) hz,_,0,(r.drop (HT.sIx xs.length 0 lo)).take (HT.sIx xs.length xs.length hi-HT.sIx xs.length 0 lo),zw _ rfl⟩
noncomputable def Im:V->Bool
 | .non=>true
 | .bl _=>true
 | .int _=>true
 | .str _=>true
 | _=>false
noncomputable def eqV:V->V->Bool
 | .non,.non=>true
 | .bl a,.bl b=>a==b
 | .bl a,.int b=>(if a then 1 else 0)==b
 | .int a,.bl b=>a==(if b then 1 else 0)
 | .int a,.int b=>a==b
 | .str a,.str b=>a==b
 | _,_=>false
theorem nj{A:Around}{s:Shared}{y x:V}{u v:Value}(ry:RelV y u)(rx:RelV x v)(fy:Im y=true)(fx:Im x=true):SeqAt.EqAt A s u v (eqV y x):=by
 cases y with
 | non=>
  cases ry;cases x with
  | non=>cases rx;exact SeqAt.EqAt.same _
  | bl b=>cases rx;exact SeqAt.EqAt.none_bool b
  | int b=>obtain⟨t,rfl⟩:=rx;exact SeqAt.EqAt.none_int b t
  | str b=>obtain⟨t,rfl⟩:=rx;exact SeqAt.EqAt.none_str b t
  | _=>exact absurd (show false=true from fx) ze
 | bl a=>
  cases ry;cases x with
  | non=>cases rx;exact SeqAt.EqAt.bool_none a
  | bl b=>cases rx;exact SeqAt.EqAt.bool_bool a b
  | int b=>obtain⟨t,rfl⟩:=rx;exact SeqAt.EqAt.bool_int a b t
  | str b=>obtain⟨t,rfl⟩:=rx;exact SeqAt.EqAt.bool_str a b t
  | _=>exact absurd (show false=true from fx) ze
 | int a=>
  obtain⟨t',rfl⟩:=ry;cases x with
  | non=>cases rx;exact SeqAt.EqAt.int_none a t'
  | bl b=>cases rx;exact SeqAt.EqAt.int_bool a t' b
  | int b=>obtain⟨t,rfl⟩:=rx;exact SeqAt.EqAt.int_int a t' b t
  | str b=>obtain⟨t,rfl⟩:=rx;exact SeqAt.EqAt.int_str a t' b t
  | _=>exact absurd (show false=true from fx) ze
 | str a=>
  obtain⟨t',rfl⟩:=ry;cases x with
  | non=>cases rx;exact SeqAt.EqAt.str_none a t'
  | bl b=>cases rx;exact SeqAt.EqAt.str_bool a t' b
  | int b=>obtain⟨t,rfl⟩:=rx;exact SeqAt.EqAt.str_int a t' b t
  | str b=>obtain⟨t,rfl⟩:=rx;exact SeqAt.EqAt.str_str a t' b t
  | _=>exact absurd (show false=true from fx) ze
 | _=>exact absurd (show false=true from fy) ze
noncomputable def eqU(x:V)(u:Value):Bool:=match u with
 | .none=>eqV .non x
 | .bool b=>eqV (.bl b) x
 | .int i _=>eqV (.int i) x
 | .str z _=>eqV (.str z) x
 | _=>false
theorem ni{x y:V}{u:Value}(r:RelV y u)(f:Im y=true):eqU x u=eqV y x:=by
 cases y with
 | non=>cases r;rfl
 | bl b=>cases r;rfl
 | int i=>obtain⟨t,rfl⟩:=r;rfl
 | str z=>obtain⟨t,rfl⟩:=r;rfl
 | _=>exact absurd (show false=true from f) ze
theorem My{x:V}:∀{xs:List V} {us:List Value},Vals xs us->xs.all Im=true->us.any (eqU x)=xs.any fun y=>eqV y x
 | _,_,.nil,_=>rfl
 | y::xs,u::us,.cons r t,f=>by
  rw[List.all_cons,kc] at f;rw[List.any_cons,List.any_cons,ni r f.1,My t f.2]
theorem Jy{A:Around}{s:Shared}{x:V}{v:Value}(rx:RelV x v)(fx:Im x=true):∀{xs:List V} {us:List Value},Vals xs us->xs.all Im=true->∀u∈us,SeqAt.EqAt A s u v (eqU x u)
 | _,_,.nil,_=>fun u hu=>by cases hu
 | y::xs,u::us,.cons r t,f=>fun u' hu=>by
  rw[List.all_cons,kc] at f;rcases qm.mp hu with rfl | hu
  ·rw[ni r f.1];exact nj r rx f.1 fx
  ·exact Jy rx fx t f.2 u' hu
noncomputable def inV(x:V)(xs:List V):Bool:=xs.any fun y=>eqV y x
noncomputable def rIn(K:Fr)(neg:Bool):R2:=fun x y H Q=>∃p xs,y=.ref p/\(SqL K H p xs\/SqT K H p xs)/\Im x=true/\xs.all Im=true/\Q (.bl (if neg then !inV x xs else inV x xs)) H
theorem gZ:OpR X (compareOp .In) (rIn X.K false):=by
 intro pins s Z H x y v u Q I rx ry h;obtain⟨p,xs,rfl,hq,fx,fs,q⟩:=h;cases ry;rcases hq with hq | hq
 ·obtain⟨its,r,pl,hz⟩:=I.list hq;refine SeqAt.in_listAt (eqU x) pl.isList (fun w hw=>Jy rx fx r fs w (by simpa using hw)) ⟨.bl _,H,I,rfl,?_⟩;rw[show its.toArray.any (eqU x)=its.any (eqU x) by simp,My r fs];exact q
 ·obtain⟨its,r,pl,hz⟩:=I.tuple hq;refine SeqAt.in_tupleAt (eqU x) pl (fun w hw=>Jy rx fx r fs w (by simpa using hw)) ⟨.bl _,H,I,rfl,?_⟩;rw[show its.toArray.any (eqU x)=its.any (eqU x) by simp,My r fs];exact q
theorem MP:OpR X (compareOp .NotIn) (rIn X.K true):=by
 intro pins s Z H x y v u Q I rx ry h;obtain⟨p,xs,rfl,hq,fx,fs,q⟩:=h;cases ry;rcases hq with hq | hq
 ·obtain⟨its,r,pl,hz⟩:=I.list hq;refine SeqAt.notIn_listAt (eqU x) pl.isList (fun w hw=>Jy rx fx r fs w (by simpa using hw)) ⟨.bl _,H,I,rfl,?_⟩;rw[show its.toArray.any (eqU x)=its.any (eqU x) by simp,My r fs];exact q
 ·obtain⟨its,r,pl,hz⟩:=I.tuple hq;refine SeqAt.notIn_tupleAt (eqU x) pl (fun w hw=>Jy rx fx r fs w (by simpa using hw)) ⟨.bl _,H,I,rfl,?_⟩;rw[show its.toArray.any (eqU x)=its.any (eqU x) by simp,My r fs];exact q
theorem BK:HD X (.builtin "len") (fun xs H Q=>∃p ys,xs=[.ref p]/\(SqL X.K H p ys\/SqT X.K H p ys)/\Q (.int ys.length) H):=by
 intro pins s Z H xs us Q I r h;obtain⟨p,ys,rfl,hq,q⟩:=h;obtain⟨u,rfl,rx⟩:=vals1 r;cases rx;have hn:=LC;rcases hq with hq | hq
 ·obtain⟨its,r',pl,hz⟩:=I.list hq;have hlen:=r'.length;exact Calls.call_len_list pl.isList (by simp only[xi]<;>lia) ⟨.int ys.length,H,I.tok _,⟨s.toks+1,by rw[xi,hlen]⟩,q⟩
 ·obtain⟨its,r',pl,hz⟩:=I.tuple hq;have hlen:=r'.length;exact len_tuple pl (by simp only[xi]<;>lia) ⟨.int ys.length,H,I.tok _,⟨s.toks+1,by rw[xi,hlen]⟩,q⟩
theorem Dv:HD X (.builtin "len") (fun xs H Q=>∃z,xs=[.str z]/\z.length<=sizeLine/\Q (.int z.length) H):=by
 intro pins s Z H xs us Q I r h;obtain⟨z,rfl,hz,q⟩:=h;obtain⟨u,rfl,t,rfl⟩:=vals1 r;have hn:=LC;exact len_str (by lia) ⟨.int z.length,H,I.tok _,⟨_,rfl⟩,q⟩
theorem XD:HD X (.type "list") (fun xs H Q=>∃p ys,xs=[.ref p]/\(SqL X.K H p ys\/SqT X.K H p ys)/\∀l,H l=none->Q (.ref l) (upd H l (.lst ys))):=by
 intro pins s Z H xs us Q I r h;obtain⟨p,ys,rfl,hq,q⟩:=h;obtain⟨u,rfl,rx⟩:=vals1 r;cases rx;have fin:∀(its:List Value),Vals ys its->ys.length<=sizeLine->∀(h':Heap) (c':Nat),(∀b o',s.heap.get? b=some o'->h'.get? b=some o')->
  h'.get? s.heap.objs.size=some { cls:=.type "list",dict:=none,data:=.seq its.toArray c',slots:= #[] }->EP X pins Z Q (.ref s.heap.objs.size) { s with heap:=h' }:=fun its r' hz h' c' kp e=>
  ⟨.ref s.heap.objs.size,_,I.laid (t':=s.toks) kp (qh _) (show Ef X.prog X.w _ h' _ (.lst ys) from ⟨hz,its,c',r',e⟩),rfl,q _ (I.hok.fresh (qh _))⟩
 rcases hq with hq | hq
 ·obtain⟨its,r',pl,hz⟩:=I.list hq;have hlen:=r'.length;obtain⟨o,ho,hc,n,hd⟩:=pl.isList;exact call_list_seq p (.inl rfl) ho hc hd (fun h' c' kp e=>fin its r' hz h' c' kp e) (by simp only[xi]<;>lia)
 ·obtain⟨its,r',pl,hz⟩:=I.tuple hq;have hlen:=r'.length;obtain⟨o,ho,hc,n,hd⟩:=pl;exact call_list_seq p (.inr rfl) ho hc hd (fun h' c' kp e=>fin its r' hz h' c' kp e) (by simp only[xi]<;>lia)
theorem Ie:HD X (.type "tuple") (fun xs H Q=>∃p ys,xs=[.ref p]/\((SqL X.K H p ys/\∀l,H l=none->Q (.ref l) (upd H l (.tup ys)))\/(SqT X.K H p ys/\Q (.ref p) H))):=by
 intro pins s Z H xs us Q I r h;obtain⟨p,ys,rfl,h⟩:=h;obtain⟨u,rfl,rx⟩:=vals1 r;cases rx;rcases h with ⟨hq,q⟩ | ⟨hq,q⟩
 ·obtain⟨its,r',pl,hz⟩:=I.list hq;have hlen:=r'.length;refine call_tuple_list pl.isList (fun h' kp=>?_) (by simp only[xi]<;>lia);have I1:Inv X pins Z H { s with heap:=h' }:=I.kept (t':=s.toks) kp;have I2:Inv X pins Z (upd H h'.objs.size (.tup ys)) { s with heap:=h'.push { cls:=.type "tuple",data:=.seq its.toArray } }:=
   I1.laid (t':=s.toks) (fun b o e=>js _ e) (qh _) (show Ef X.prog X.w _ _ _ (.tup ys) from ⟨hz,its,r',IsTup.new _ _⟩)
  exact⟨.ref h'.objs.size,_,I2,rfl,q _ (I1.hok.fresh (qh _))⟩
 ·obtain⟨its,r',pl,hz⟩:=I.tuple hq;exact call_tuple_same pl ⟨.ref p,H,I,rfl,q⟩
noncomputable def tyV(K:Fr)(T:String)(x:V)(H:Hp):Prop:=match x with
 | .str _=>T="str"
 | .int _=>T="int"
 | .ref p=>(T="list"/\∃xs,SqL K H p xs)\/(T="tuple"/\∃o,K.lookup p=some o/\o.cls=.type "tuple"/\o.dict=none)\/
  (T="dict"/\((∃kvs,H p=some (.dK kvs))\/∃kvs,H p=some (.dT kvs)))\/(T="set"/\∃S n,H p=some (.set S n))
 | _=>False
theorem jX{pins:List (Addr×Obj)}{Z:St}{H:Hp}{s:Shared}{T:String}{x:V}{v:Value}(I:Inv X pins Z H s)(r:RelV x v)(ty:tyV X.K T x H):
 s.TypeIs v T/\∀a,v=.ref a->∃ob,s.heap.get? a=some ob/\ob.dict=none:=by
 cases x with
 | str z=>
  obtain⟨t,rfl⟩:=r;cases (show T="str" from ty);exact⟨typeIs_str s z t,fun _ e=>nomatch e⟩
 | int i=>
  obtain⟨t,rfl⟩:=r;cases (show T="int" from ty);exact⟨typeIs_int s i t,fun _ e=>nomatch e⟩
 | ref p=>
  cases r;rcases ty with ⟨rfl,xs,hq⟩ | ⟨rfl,o,hk,hc,hd⟩ | ⟨rfl,hk⟩ | ⟨rfl,S,n,hk⟩
  ·obtain⟨its,_,pl,_⟩:=I.list hq;refine⟨pl.isList.typeIs,fun a e=>?_⟩;cases e;obtain⟨o,n,e,c,hd,_⟩:=pl;exact⟨o,e,hd⟩
  ·refine⟨⟨o,I.kIn p o hk,hc⟩,fun a e=>?_⟩;cases e;exact⟨o,I.kIn _ o hk,hd⟩
  ·have z:∃o,s.heap.get? p=some o/\o.ExactDict:=by
    rcases hk with ⟨kvs,hk⟩ | ⟨kvs,hk⟩
    ·obtain⟨_,_,_,_,o,_,_,e,ex,_⟩:=I.hok p _ hk;exact⟨o,e,ex⟩
    ·obtain⟨_,_,_,_,o,_,_,e,ex,_⟩:=I.hok p _ hk;exact⟨o,e,ex⟩
   obtain⟨o,e,ex⟩:=z;refine⟨⟨o,e,ex.1⟩,fun a e2=>?_⟩;cases e2;exact⟨o,e,ex.2.1⟩
  ·obtain⟨o,_,_,_,e,ex,_⟩:=I.hok p _ hk;refine⟨⟨o,e,ex.1⟩,fun a e2=>?_⟩;cases e2;exact⟨o,e,ex.2.1⟩
 | _=>exact False.elim ty
noncomputable def AAH(K:Fr)(T:String)(r:V->List V->Hp->VK->Prop)(to:TE):TE:=fun Z H Q=>to Z H fun x H1=>tyV K T x H1/\r x [] H1 Q
noncomputable def tBM(K:Fr)(T:String)(r:V->List V->Hp->VK->Prop)(to:TE)(t:TA):TE:=fun Z H Q=>to Z H fun x H1=>tyV K T x H1/\t Z H1 fun xs H2=>r x xs H2 Q
variable{o e:Expr}{es:List Expr}{to:TE}{t:TA}{name:Str}{apos cpos:Pos}{T id:String}{r:V->List V->Hp->VK->Prop}
theorem aV(pa:PlainAttrs T)(slot:Slot T name id)(hty:typeOf (.builtin id)=pure (.type "method_descriptor"))(hm:MtR X id r)(ho:PE X o to)
 (hbase:attributeBase o name X.env (eval o X.env)=eval o X.env:=by rfl)(hline:(apos.endLine==cpos.line)=true:=by rfl):PE X (.Call (.Attribute o name apos) [] [] cpos) (AAH X.K T r to):=by
 intro pins s Z H Q I h;refine wpAny_Call_method0_late hbase hline (thn (ho pins s Z H _ I h) fun v s1 hZ=>?_);obtain⟨x,H1,I1,r1,ty,q1⟩:=hZ;obtain⟨h1,h2⟩:=jX I1 r1 ty;exact⟨T,id,pa,slot,hty,h1,h2,Calls.callWith_builtin rfl (PySem.evalArgs_none (hm pins s1 Z H1 x [] v [] Q I1 r1 .nil q1))⟩
theorem GK(pa:PlainAttrs T)(slot:Slot T name id)(hty:typeOf (.builtin id)=pure (.type "method_descriptor"))(hm:MtR X id r)(ho:PE X o to)(ha:PA X (e::es) t)
 (hbase:attributeBase o name X.env (eval o X.env)=eval o X.env:=by rfl)
 (hfew:((backTo cpos (starEach (e::es) X.env)).all (fun x=>!x.1)&&(backToKw cpos (keywordEach [] X.env)).all (fun x=>x.1.isSome)
  &&decide ((e::es).length+([]:List Keyword).length+(if ([]:List Keyword).isEmpty then 0 else 1)<30))=true:=by rfl)
 (hline:(apos.endLine==cpos.line)=true:=by rfl)(hs:starEach (e::es) X.env=(false,eval e X.env)::starEach es X.env:=by rfl)(hplain:(backTo cpos (starEach es X.env)).any (·.1)=false:=by rfl):
 PE X (.Call (.Attribute o name apos) (e::es) [] cpos) (tBM X.K T r to t):=by
 intro pins s Z H Q I h;refine wpAny_Call_method_late hbase hfew hline rfl (thn (ho pins s Z H _ I h) fun v s1 hZ=>?_);obtain⟨x,H1,I1,r1,ty,q1⟩:=hZ;obtain⟨h1,h2⟩:=jX I1 r1 ty;refine⟨T,id,pa,slot,hty,h1,h2,?_⟩;have hA:=ha cpos pins s1 Z H1 _ I1 q1;rw[hs] at hA ⊢;refine Calls.callWith_builtin (by show(false||(backTo cpos (starEach es X.env)).any (·.1))=false;rw[hplain]<;>rfl) (Calls.evalArgs_plain ?_);exact thn hA fun us s2 ⟨vs,H2,I2,r2,q2⟩=>hm pins s2 Z H2 x vs v us Q I2 r1 r2 q2
end
noncomputable def MtM(X:Cx)(id:String)(r:V->List V->Hp->VK->Prop):Prop:=
 ∀(pins:List (Addr×Obj)) (s:Shared) (Z:St) (H:Hp) (x:V) (xs:List V) (v:Value) (us:List Value) (Q:VK),Inv X pins Z H s->RelV x v->Vals xs us->r x xs H Q->
  wpAny (model X.prog X.w) X.A (call (.builtin id) (v::us)) (EP X pins Z Q) X.xe s
theorem Vals.one{x:V}{us:List Value}(h:Vals [x] us):∃u,us=[u]/\RelV x u:=by cases h with | cons r h=>cases h;exact⟨_,rfl,r⟩
theorem Vals.zero:∀{us:List Value},Vals [] us->us=[]
 | _,.nil=>rfl
theorem Vals.rep{xs:List V}{us:List Value}(h:Vals xs us):∀k:Nat,Vals (List.replicate k xs).flatten (List.replicate k us).flatten
 | 0=>.nil
 | k+1=>by
  rw[Zl,Zl,jg2,jg2];exact Vals.append h (Vals.rep h k)
theorem foldl_rep(its:List Value):∀(k:Nat) (acc:List Value),
 List.foldl (fun x1 x2=>x1++x2) acc.toArray (List.replicate k its.toArray)=(acc++(List.replicate k its).flatten).toArray
 | 0,acc=>by simp
 | k+1,acc=>by
  have e:acc.toArray++its.toArray=(acc++its).toArray:=by simp
  have e2:(acc++its)++(List.replicate k its).flatten=acc++(List.replicate (k+1) its).flatten:=by
   rw[Zl,jg2,ke]
  rw[<-e2,<-foldl_rep its k (acc++its),<-e,Zl,List.foldl_cons]
section
variable{X:Cx}{pins:List (Addr×Obj)}{Z:St}{H:Hp}{s:Shared}{l b:Addr}{xs ys zs:List V}
theorem Inv.lset{its its':List Value}{n:Nat}{f:Array Value->Array Value}{t':Nat}(I:Inv X pins Z H s)(hH:H l=some (.lst xs))
 (e:s.heap.get? l=some { cls:=.type "list",data:=.seq its.toArray n })(hf:f its.toArray=its'.toArray)(hv:Vals ys its')(hz:ys.length<=sizeLine):
 Inv X pins Z (upd H l (.lst ys)) { s with heap:=s.heap.update l (Obj.mapSeq f),toks:=t' }:=by
 have q:=PySem.IsL.update e f;rw[hf] at q;refine I.write (x:=l) (e:=l) (by rw[hH];exact trivial) (.inl rfl) (fun b' u hb hu=>(ja3 s.heap (Obj.mapSeq f) (Ne.symm hb)).trans hu) ⟨_,q⟩ ?_;exact⟨hz,its',_,hv,q⟩
theorem Inv.lnew{its:List Value}{t':Nat}(I:Inv X pins Z H s)(hv:Vals ys its)(hz:ys.length<=sizeLine):
 Inv X pins Z (upd H s.heap.objs.size (.lst ys)) { s with heap:=s.heap.push { cls:=.type "list",data:=.seq its.toArray },toks:=t' }:=
 I.laid (fun _ _ q=>js _ q) (qh _) ⟨hz,its,0,hv,zw _ rfl⟩
theorem Inv.fresh(I:Inv X pins Z H s):H s.heap.objs.size=none:=I.hok.fresh (qh _)
theorem Inv.lstM(I:Inv X pins Z H s)(hH:H l=some (.lst xs)):xs.length<=sizeLine/\∃(its:List Value) (n:Nat),Vals xs its/\xs.length=its.length/\s.heap.get? l=some { cls:=.type "list",data:=.seq its.toArray n }:=by
 obtain⟨z,its,n,r,e⟩:=I.hok l _ hH;exact⟨z,its,n,r,r.length,e⟩
theorem Yh{n:Nat}(h:n<=sizeLine):Builtin.List.listTooLong n=false:=by
 unfold Builtin.List.listTooLong;exact decide_eq_false (by lia)
end
section
variable{X:Cx}
noncomputable def Qo:V->List V->Hp->VK->Prop:=fun x vs H Q=>∃l xs y,x=.ref l/\vs=[y]/\H l=some (.lst xs)/\xs.length<sizeLine/\Q .non (upd H l (.lst (xs++[y])))
theorem GQ:MtM X "list.append" Qo:=by
 intro pins s Z H x vs v us Q I rx rv h;obtain⟨l,xs,y,rfl,rfl,hH,hz,q⟩:=h;cases rx;obtain⟨u,rfl,ru⟩:=rv.one;obtain⟨z,its,n,r,hl,e⟩:=I.lstM hH;refine call_meets F.slot_list_append ⟨_,e,rfl⟩ F.entry_list_append (F.args_list_append_2 _ _) (PySem.list_append l its.toArray n u (by rw[xi];lia)) ⟨e,?_⟩;refine⟨.non,_,I.lset (its':=its++[u]) hH e (by simp) (r.append (.cons ru .nil)) ?_,rfl,q⟩;rw[qf,List.length_singleton];lia
noncomputable def Qn:V->List V->Hp->VK->Prop:=fun x vs H Q=>∃l b xs zs,x=.ref l/\vs=[.ref b]/\H l=some (.lst xs)/\H b=some (.lst zs)/\xs.length+zs.length<=sizeLine/\Q .non (upd H l (.lst (xs++zs)))
theorem Ik:MtM X "list.extend" Qn:=by
 intro pins s Z H x vs v us Q I rx rv h;obtain⟨l,b,xs,zs,rfl,rfl,hH,hB,hz,q⟩:=h;cases rx;obtain⟨u,rfl,ru⟩:=rv.one;cases ru;obtain⟨z,its,n,r,hl,e⟩:=I.lstM hH;obtain⟨z2,its2,n2,r2,hl2,e2⟩:=I.lstM hB;have hsz:its.toArray.size+its2.toArray.size<=sizeLine:=by rw[xi,xi];lia
 have hlong:¬(!its.toArray.isEmpty&&Builtin.List.listTooLong (its.toArray.size+its2.toArray.size))=true:=by
  rw[Yh hsz,Bool.and_false];exact ze
 refine call_meets F.slot_list_extend ⟨_,e,rfl⟩ F.entry_list_extend (F.args_list_extend_2 _ _)
  (AutoSeq1.list_extend_list_list_0 l its.toArray n b its2.toArray n2 hlong (by rw[xi];lia) (by lia)) ⟨e,e2,?_⟩
 refine⟨.non,_,I.lset (its':=its++its2) hH e (by simp) (r.append r2) ?_,rfl,q⟩;rw[qf];lia
noncomputable def ABG:R2:=fun x y H Q=>∃l b xs zs,x=.ref l/\y=.ref b/\H l=some (.lst xs)/\H b=some (.lst zs)/\xs.length+zs.length<=sizeLine/\∀p,H p=none->Q (.ref p) (upd H p (.lst (xs++zs)))
theorem Wm:OpR X (binaryOp .Add) ABG:=by
 intro pins s Z H x y v u Q I rx ry h;obtain⟨l,b,xs,zs,rfl,rfl,hH,hB,hz,q⟩:=h;cases rx;cases ry;obtain⟨z,its,n,r,hl,e⟩:=I.lstM hH;obtain⟨z2,its2,n2,r2,hl2,e2⟩:=I.lstM hB;refine PySem.P.add_list e e2 ?_ (by rw[xi,xi];lia);have ea:its.toArray++its2.toArray=(its++its2).toArray:=by simp
 rw[ea];exact⟨.ref _,_,I.lnew (t':=s.toks) (r.append r2) (by rw[qf];lia),rfl,q _ I.fresh⟩
noncomputable def AAx:R2:=fun x y H Q=>∃l k xs,x=.ref l/\y=.int k/\H l=some (.lst xs)/\ -(2^63)<=k/\k<2^63/\xs.length*k.toNat<=sizeLine/\
 ∀p,H p=none->Q (.ref p) (upd H p (.lst (List.replicate k.toNat xs).flatten))
theorem len_rep{α:Type}(xs:List α)(k:Nat):(List.replicate k xs).flatten.length=k*xs.length:=by
 induction k with
 | zero=>simp
 | succ k ih=>rw[Zl,jg2,qf,ih,Nat.succ_mul,Nat.add_comm]
theorem aY:OpR X (binaryOp .Mult) AAx:=by
 intro pins s Z H x y v u Q I rx ry h;obtain⟨l,k,xs,rfl,rfl,hH,h1,h2,hz,q⟩:=h;cases rx;obtain⟨t,rfl⟩:=ry;obtain⟨z,its,n,r,hl,e⟩:=I.lstM hH;have hlen:its.toArray.size*k.toNat<=sizeLine:=by rw[xi,<-hl];exact hz
 have hcap:¬its.toArray.size*k.toNat>(2^63-1)/8:=by
  have:(sizeLine:Nat)<=(2^63-1)/8:=by decide
  lia
 have hfit:¬(!Builtin.List.listFitsIndex k)=true:=by
  rw[fitsIndex_both h1 h2];exact ze
 have hlong:¬Builtin.List.listTooLong (its.toArray.size*k.toNat)=true:=by
  rw[Yh hlen];exact ze
 have hnew:List.foldl (fun x1 x2=>x1++x2) #[] (List.replicate (if its.toArray.isEmpty=true then 0 else k.toNat) its.toArray)=(List.replicate k.toNat its).flatten.toArray:=by
  have f0:∀m:Nat,List.foldl (fun x1 x2=>x1++x2) #[] (List.replicate m its.toArray)=(List.replicate m its).flatten.toArray:=fun m=>by
   have:=foldl_rep its m [];rw[ji5] at this;exact this
  rw[f0];cases its with
  | nil=>simp
  | cons a r'=>rw[yv (by simp)]
 refine wpAny_binaryOp_repeat_ref (T:="list") (U:="int") (by decide) ⟨_,e,rfl⟩ (fun s'=>typeIs_int s' k t) noFill_list_mul F.fills_int_mul F.slot_int_rmul repeat_list F.slot_int_index.lookup
  (call_meets F.slot_int_rmul (typeIs_int s k t) F.entry_int_rmul (F.args_int_rmul_2 _ _) (int___rmul___int_list k t l its.toArray n)
   ⟨e,rfl,⟨_,e,rfl⟩,call_meets F.slot_list_mul ⟨_,e,rfl⟩ F.entry_list_mul (F.args_list_mul_2 _ _) (AutoListH.list___mul___list_int_3 l its.toArray n k t hfit hcap hlong) ⟨e,?_⟩⟩)
 rw[hnew];exact⟨.ref _,_,I.lnew (t':=s.toks) (r.rep k.toNat) (by rw[len_rep,Nat.mul_comm];exact hz),rfl,q _ I.fresh⟩
end
section
variable{prog:Program}{w:World}{A:Around}{E:Value->Shared->Prop}{s:Shared}
end
section
variable{X:Cx}
end
end L2
namespace Att
open PySem PySem.W PySem.Calls PyProof.Rows
theorem QQ{P:Params}{h:Heap}:∀(ns:List Int) (vs:List Value),WellAll P h vs (ns.map WData.int)->IntsAre vs ns:=by
 intro ns
 induction ns with
 | nil=>
  intro vs w;rw[List.map_nil] at w;cases w;exact .nil
 | cons n ns ih=>
  intro vs w;rw[xk] at w;cases w with
  | cons a b=>
   cases a;exact .cons _ _ (ih _ b)
theorem fu{l:OpenLaw}{n:Nat}(hn:l.most=some n){P:Params}{h:Heap}{args:List WData}{vals:List Value}
 (hpre:l.row.toRowW.claim.pre args=true)(hwl:WellAll P h vals args):
 ∃a vs ns,vals=[Value.ref a]/\args=[WData.list (ns.map WData.int)]/\h.get? a=some { cls:=.type "list",data:=.seq vs.toArray }/\IntsAre vs ns/\ns.length<=n:=by
 have hsh:WShape.hasAll [] args [.list .int]=true:=(pre_splitW hpre).1;have hc:l.pre.holds [] { args:=args }=true:=(pre_splitW hpre).2;obtain⟨d,r,rfl,h1,h2⟩:=hasAllW_cons hsh;obtain rfl:=hasAllW_nil h2;obtain⟨xs,rfl,h3⟩:=hasW_list h1;obtain⟨ns,rfl⟩:=items_int h3;have hlen:ns.length<=n:=by
  unfold OpenLaw.pre at hc;have h4:(WTm.not (.lt (.lit (.int (n:Int))) (.len (.arg 0)))).holds [] { args:=[.list (ns.map .int)] }=true:=by
   have h4:=(holds_andW hc).1;rw[hn] at h4;exact h4
  have h5:=condW_of h4 (w_not (w_lt w_lit (w_len_list (w_arg rfl))));rw[jp] at h5;refine Nat.le_of_not_lt fun q=>?_;have q':(n:Int)<((ns.length:Nat):Int):=by lia
  first
   | (rw [decide_eq_true q'] at h5;exact absurd h5 (by decide))
   | (simp at h5;lia)
 cases hwl with
 | cons w1 w2=>
  cases w2;cases w1 with
  | list ho hall=>exact⟨_,_,ns,rfl,rfl,ho,QQ ns _ hall,hlen⟩
theorem gR(l:OpenLaw)(args:List WData):l.row.toRowW.claim.post args (.bool true) args=true:=
 postW_of (r:=l.row.toRowW) (X:=(true==true))
  (show WShape.has [] (.bool true) .bool=true by first | rfl | decide | simp[WShape.has,WShape.arms,WShape.armsAll])
  (show (WTm.eq .res (.lit (.bool true))).value [] { args:=args,res:=some (.bool true),after:=args }=some (.bool (true==true)) from w_eq_bool (w_res rfl) w_lit) rfl
section
variable{prog:Program}{w:World}{A:Around}{E:Value->Shared->Prop}{s:Shared}{K:Frag}
end
end Att
namespace L2
open PySem PySem.Spec PyProof.Rows
theorem Uy:∀{vs:List Value} {ns:List Int},IntsAre vs ns->Vals (ns.map V.int) vs
 | _,_,.nil=>.nil
 | _,_,.cons n t h=>.cons ⟨t,rfl⟩ (Uy h)
noncomputable def Only(H:Hp):Prop:=∀b,H b=none\/∃o xs,H b=some (.frz o (.lst xs))
theorem mj{P:Program}{w:World}{K:Fr}{mg mb:Str->Option Value}{CX:CXT}{k:Nat}{fa a:Addr}{fd:FuncData}{x:Str}{sp:Sp}{s₁:Shared}{vs:List Value}{ns:List Int}
 (KX:K.In s₁.heap)(hns:s₁.heap.Ns mainGlobals mg)(hb:s₁.heap.Ns builtinsNs mb)(hbb:∀x:Str,x≠"__name__"->mb x=bootBuiltins x)(hlim:s₁.heap.NoLimit)(hg:s₁.gens= #[])
 (ha:s₁.heap.get? a=some { cls:=.type "list",data:=.seq vs.toArray })(hi:IntsAre vs ns)(hl:ns.length<=sizeLine)(hr:Do k callerA)
 (F:∀base:Heap,K.In base->base.Ns mainGlobals mg->Et P w K mg base CX k fa fd [x] sp)(hbind:∀(s:Shared) (u:Value),BindsTo s fd ⟨[u],[]⟩ [(x,u)])
 (hsp:∀H:Hp,Only H->SqL K H a (ns.map V.int)->sp [.ref a] H (fun v _=>v=.bl true) fun _ _ _=>False)
 (hCX:∀H e s',CX [] H s₁ (fun _ _ _=>False) e s'->False):
 codeAny (model P w) callerA (.call (.ref fa) ⟨[.ref a],[]⟩) (fun r s'=>r=.ok (.ret (.bool true))/\OldK s₁.heap s'.heap/\s'.os=s₁.os/\AllBare s'.gens) s₁:=by
 have rv:=Uy hi;have lenV:=hi.length;have core:∀H:Hp,Only H->SqL K H a (ns.map V.int)->HOk P w H s₁.heap->(∀b,H b≠none->b=a)->(H a≠none->K.lookup a=none)->
  codeAny (model P w) callerA (.call (.ref fa) ⟨[.ref a],[]⟩) (fun r s'=>r=.ok (.ret (.bool true))/\OldK s₁.heap s'.heap/\s'.os=s₁.os/\AllBare s'.gens) s₁:=by
  intro H hO hS hok hA hK;have ab:∀{b:Addr} {o:Obj},s₁.heap.get? b=some o->H b=none->(W4 s₁.heap H).get? b=some o:=fun e n=>nH e n;have noA:∀{b:Addr} {o:Obj} {es:Array DictEntry} {ep:Nat},s₁.heap.get? b=some o->o.data=.dict es ep->H b=none:=fun{b o es ep} e d=>by
   cases q:H b with
   | none=>rfl
   | some u=>
    have e':b=a:=hA b (by rw[q];simp);subst e';rw[ha] at e;cases e;have d':Data.seq vs.toArray _=Data.dict es ep:=d;cases d'
  have nsK:∀{b:Addr} {m:Str->Option Value},s₁.heap.Ns b m->(W4 s₁.heap H).Ns b m:=fun{b m} ⟨o,es,ep,e,d,r⟩=>⟨o,es,ep,ab e (noA e d),d,r⟩;have hKb:K.In (W4 s₁.heap H):=fun b o e=>ab (KX b o e) (by
   cases q:H b with
   | none=>rfl
   | some u=>
    have e':b=a:=hA b (by rw[q];simp);subst e';rw[hK (by rw[q];simp)] at e;cases e)
  have hM:Mod K mg (W4 s₁.heap H):=⟨hKb,nsK hns,⟨mb,nsK hb,hbb⟩,let ⟨mc,h1,h2⟩:=hlim;⟨mc,nsK h1,h2⟩⟩;have e0:cD P w K mg (W4 s₁.heap H) callerA [] s₁ H:=⟨rfl,hM,fun b o e=>sG e,jj3 (iK _ _),trivial,fun b hb=>absurd (show b∈([]:List Addr) from hb) (by simp),hok,.of_eq hg⟩;refine codeAny_mono ((F _ hKb (nsK hns)).run callerA [] s₁ H ⟨[.ref a],[]⟩ [.ref a] [.ref a] _ _ hr e0 (hbind s₁ (.ref a)) (.cons rfl .nil) (hsp H hO hS)) fun r s' h=>?_;cases r with
  | error e=>exact(hCX H e s' h).elim
  | ok fl=>
   cases fl with
   | next=>exact False.elim h
   | brk=>exact False.elim h
   | cont=>exact False.elim h
   | ret u=>
    obtain⟨v,H',os,bare,un,hok',r',q⟩:=h;have q':v=.bl true:=q;subst q';obtain rfl:u=Value.bool true:=r';refine⟨rfl,OldK.of_keep fun b o e=>?_,os,bare⟩;cases q:H b with
    | none=>exact un.keep b o e q (by intro z;exact absurd (show b∈([]:List Addr) from z) (by simp)) (by simp)
    | some u=>
     rcases hO b with z | ⟨ob,xs,z⟩
     ·rw[q] at z;cases z
     ·have z2:=un.frzs b ob _ z;obtain⟨e1,_⟩:=hok b _ z;obtain⟨e2,_⟩:=hok' b _ z2;rw[e] at e1;cases e1;exact e2
 cases hk:K.lookup a with
 | some o=>
  have e:=KX a o hk;rw[ha] at e;cases e;refine core (fun _=>none) (fun _=>.inl rfl) (.inr ⟨_,vs.toArray,_,hk,rfl,rfl,rfl,by rw[xi,lenV];exact hl,by simpa using rv⟩) (fun b u z=>by have z':(none:Option HO)=some u:=z;cases z') (fun b z=>absurd rfl z) fun z=>absurd rfl z
 | none=>
  refine core (fun b=>if b=a then some (.frz { cls:=.type "list",data:=.seq vs.toArray } (.lst (ns.map V.int))) else none) (fun b=>?_) (.inl (.inr ⟨{ cls:=.type "list",data:=.seq vs.toArray },xz rfl⟩)) (fun b u z=>?_) (fun b z=>?_) fun _=>hk
  ·by_cases hb:b=a
   ·exact .inr ⟨_,_,xz hb⟩
   ·exact .inl (yv hb)
  ·by_cases hb:b=a
   ·have z':=(xz hb).symm.trans z;cases z';subst hb;exact⟨ha,by rw[jp];exact hl,vs,_,rv,ha⟩
   ·have z':=(yv hb).symm.trans z;cases z'
  ·by_cases hb:b=a
   ·exact hb
   ·exact absurd (yv hb) z
noncomputable abbrev KOf{K:Fr}{h:Heap}(_:K.In h):Fr:=K
noncomputable def inClass(s:Stmt)(j:Nat):Stmt:=match s with
 | .ClassDef _ _ _ body _ _ _ _ _ _ _=>body.getD j (.Pass ⟨0,0,0,0⟩)
 | _=>.Pass ⟨0,0,0,0⟩
noncomputable def Er(s:Stmt):Arguments:=match s with
 | .FunctionDef _ a _ _ _ _ _ _ _ _=>a
 | _=>{ posonlyargs:=[],args:=[],vararg:=none,kwonlyargs:=[],kw_defaults:=[],kwarg:=none,defaults:=[] }
noncomputable def DW(s:Stmt):List Stmt:=match s with
 | .FunctionDef _ _ b _ _ _ _ _ _ _=>b
 | _=>[]
noncomputable def BP(s:Stmt):Scope:=match s with
 | .FunctionDef _ _ _ _ _ _ sc _ _ _=>sc
 | _=>{ kind:=.function,names:=[],isGenerator:=false,isCoroutine:=false }
noncomputable abbrev CX0:CXT:=fun _ _ _ _ _ _=>False
noncomputable abbrev E0:XK:=fun _ _ _=>False
theorem MJ{X:Cx}:KN CX0 X E0:=fun _ _ _ _ _ _ _ h=>h.elim
structure Fun(K:Fr)(x qual:Str)(st:Stmt)(f:Addr)(fd:FuncData):Prop where
 ex:∃(oc:Value) (od:Option Addr) (kV doc pm:Value) (an:Option Addr) (cdv ct:Value) (osl:Array (Option Value)),
  fd=PySem.W.fnOf x qual (Er st) (DW st) (BP st) .none kV doc pm an cdv ct/\K.lookup f=some ⟨oc,od,.func fd,osl⟩/\PySem.W.codeIn K cdv qual=true
 kp:PySem.W.keepIn K (.ref f)=true
section
variable{P:Program}{w:World}{K:Fr}{mg:Str->Option Value}{base:Heap}
theorem Fun.ok{x qual:Str}{st:Stmt}{f:Addr}{fd:FuncData}{N ps:List Str}{k:Nat}{sp:Sp}(F:Fun K x qual st f fd)(S:Cp N ps (BP st))(len:∀{vs H Q E},sp vs H Q E->vs.length=ps.length)
 (hbody:∀{cdv:Value} {A:Around} {outer:List Env} {s:Shared} (nd:N.Nodup) (H:Hp) (vs:List V) (Q:VK) (E:XK),Do k (A.deeper (envOfC qual (BP st) s.heap.objs.size f cdv))->sp vs H Q E->
  ∃t,PSs (Um CX0 P w K mg base N qual (BP st) f cdv A outer s H E).nox (DW st) t/\t { nx:=fun _ H'=>Q .non H',rt:=Q } (start N vs) H):Et P w K mg base CX0 (k+1) f fd ps sp:=by
 obtain⟨oc,od,kV,doc,pm,an,cdv,ct,osl,rfl,lk,hcd⟩:=F.ex;refine vX lk hcd S (fun _ _ _ _=>len) fun A outer s H vs Q E hr hsp=>?_;obtain⟨t,h,q⟩:=hbody S.nd H vs Q E hr hsp;exact⟨t,h.nox,q⟩
theorem Fun.binds{x qual:Str}{st:Stmt}{f:Addr}{fd:FuncData}{ps:List Str}(F:Fun K x qual st f fd)
 (h:∀(kV doc pm:Value) (an:Option Addr) (cdv ct:Value) (us:List Value),us.length=ps.length->bindArgs (PySem.W.fnOf x qual (Er st) (DW st) (BP st) .none kV doc pm an cdv ct) ⟨us,[]⟩=pure (ps.zip us)):Binds K fd ps []:=by
 obtain⟨oc,od,kV,doc,pm,an,cdv,ct,osl,rfl,lk,hcd⟩:=F.ex;exact .all (h kV doc pm an cdv ct)
theorem nQ{x qual:Str}{st:Stmt}{f:Addr}{oc:Value}{od an:Option Addr}{osl:Array (Option Value)}{kV doc pm cdv ct:Value}(l:K.lookup f=some ⟨oc,od,.func (PySem.W.fnOf x qual (Er st) (DW st) (BP st) .none kV doc pm an cdv ct),osl⟩)
 (c:PySem.W.codeIn K cdv qual=true)(k:PySem.W.keepIn K (.ref f)=true):Fun K x qual st f (PySem.W.fnOf x qual (Er st) (DW st) (BP st) .none kV doc pm an cdv ct):=⟨⟨oc,od,kV,doc,pm,an,cdv,ct,osl,rfl,l,c⟩,k⟩
end
theorem dh{A:Around}{k:Nat}(hr:Do k A):A.units+1<cLine:=ub (Nat.add_le_add_left (by decide:1<=64) _) hr.units
theorem Eu{n:Nat}(h:n<=1000):n<sizeLine:=ub h (by decide)
section
variable{X:Cx}
theorem pv(i:Nat){x:Str}{pos:Pos}(hN:X.N[i]?=some x:=by rfl)(hv:Vis X.env.scope x:=by first | exact Or.inl rfl | exact Or.inr (Or.inl rfl) | exact Or.inr (Or.inr rfl))(hd:(x==("__debug__":Str))=false:=by decide)
 (hcd:(x==("__classdict__":Str))=false:=by decide):PE X (.Name x pos) (Lh i):=lq hN hv hd hcd
end
theorem Ep{A B:Prop}(h:B):if false=true then A else B:=by
 rw[yv ze];exact h
theorem FW{A B:Prop}(h:A):if true=true then A else B:=by
 rw[xz rfl];exact h
theorem FN{c A B:Prop}[Decidable c](hc:c)(h:B):if (!decide c)=true then A else B:=by
 rw[decide_eq_true hc];exact Ep h
noncomputable def Ax(H H':Hp):Prop:=∀b o,H b=some o->H' b=some o
theorem Ax.refl(H:Hp):Ax H H:=fun _ _ h=>h
theorem Ax.trans{H H1 H2:Hp}(a:Ax H H1)(b:Ax H1 H2):Ax H H2:=fun c o h=>b c o (a c o h)
theorem Ax.free{H H':Hp}(e:Ax H H'){l:Addr}(h:H' l=Option.none):H l=Option.none:=by
 cases q:H l with
 | none=>rfl
 | some o=>
  rw[e l o q] at h;cases h
theorem Ax.seq{K:Fr}{H H':Hp}{a:Addr}{xs:List V}(e:Ax H H')(h:SqL K H a xs):SqL K H' a xs:=by
 rcases h with (h | ⟨o,h⟩) | h
 ·exact .inl (.inl (e _ _ h))
 ·exact .inl (.inr ⟨o,e _ _ h⟩)
 ·exact .inr h
end L2
set_option maxHeartbeats 4000000
namespace L2
open PySem PySem.Spec PyProof.Rows
noncomputable def Bt(k:Nat)(x:Int):Prop:=x.natAbs<2^k
theorem Bt.bits{k:Nat}{x:Int}(h:Bt k x):Builtin.Int.intBits x<=k:=PySem.intBits_le_iff.mpr h
theorem Bt.mono{k m:Nat}{x:Int}(h:Bt k x)(l:k<=m):Bt m x:=xh h (vk (by decide) l)
theorem Bt.le{k:Nat}{x y:Int}(h:Bt k y)(l:x.natAbs<=y.natAbs):Bt k x:=ub l h
theorem Bt.mul{k m:Nat}{x y:Int}(h:Bt k x)(g:Bt m y):Bt (k+m) (x*y):=by
 unfold Bt at*
 rw[Int.natAbs_mul,Nat.pow_add];exact Nat.mul_lt_mul'' h g
theorem Bt.add{k:Nat}{x y:Int}(h:Bt k x)(g:Bt k y):Bt (k+1) (x+y):=by
 unfold Bt at*
 have:=Int.natAbs_add_le x y;rw[Nat.pow_succ];lia
noncomputable def pH(i j:Int):Prop:=∃n m:Nat,Bt n i/\Bt m j/\n+m<=134217728
theorem pH.ok{i j:Int}(h:pH i j):IntMulOk i j:=by
 obtain⟨n,m,h1,h2,h3⟩:=h;have a:=h1.bits;have b:=h2.bits;have hs:((Builtin.Int.intBits i+Builtin.Int.intBits j:Nat):Int)<=2^27:=by
  have e:(2:Int)^27=134217728:=by decide
  rw[e];lia
 have hb:Builtin.Int.intTooBig ((Builtin.Int.intBits i+Builtin.Int.intBits j:Nat):Int)=false:=decide_eq_false (Int.not_lt.mpr hs);unfold IntMulOk
 first
  | (rw [show (((Builtin.Int.intBits i:Nat):Int)+((Builtin.Int.intBits j:Nat):Int))=((Builtin.Int.intBits i+Builtin.Int.intBits j:Nat):Int) by lia,hb];simp)
  | (rw [hb];simp)
  | (intro z;simp only[kc] at z;simp_all)
variable{Z:St}{H:Hp}{Q:VK}
section
variable{X:Cx}{a b c:Expr}{ta tb tc:TE}{pos:Pos}
theorem CW:OpR X (binaryOp .Mult) (rI pH fun i j=>.int (i*j)):=opI fun _ _ _ _ _ _ _ hc q=>mul_int q hc.ok
theorem O4{j:Int}(h:Bt 9000 j):j.natAbs.log2<9000:=by
 by_cases h0:j.natAbs=0
 ·rw[h0];ac_rfl
 ·exact(Nat.log2_lt h0).mpr h
noncomputable def pI(_ j:Int):Prop:=0<j/\Bt 9000 j
noncomputable def ABz(_ j:Int):Prop:=j≠0/\Bt 9000 j
theorem Bs:OpR X (binaryOp .FloorDiv) (rI pI fun i j=>.int (i/j)):=opI fun i j _ _ _ _ _ hc q=>by
 have h1:(0:Int)<j:=hc.1;exact floordiv_int (by lia) (by rw[Int.fdiv_eq_ediv_of_nonneg i (by lia)];exact q) (.inl (PyProof.noPylong_of_log2 (O4 hc.2)))
theorem mO:OpR X (binaryOp .FloorDiv) (rI ABz fun i j=>.int (i.fdiv j)):=opI fun i j _ _ _ _ _ hc q=>
 floordiv_int hc.1 q (.inl (PyProof.noPylong_of_log2 (O4 hc.2)))
noncomputable def ACu(i j:Int):Prop:=0<=j/\∃n:Nat,Bt n i/\(n:Int)+j<=134217728
theorem MN:OpR X (binaryOp .LShift) (rI ACu fun i j=>.int (i*2^j.toNat)):=opI fun i j _ _ _ _ _ hc q=>by
 obtain⟨h0,n,hn,h1⟩:=hc;have:=hn.bits;refine lshift_int h0 ?_ q;have e:(2:Int)^27=134217728:=by decide
 rw[e];lia
noncomputable def xr(K:Fr):List V->Hp->VK->Prop:=fun xs H Q=>∃x c t b,xs=[x,.ty c]/\Mz K H x t/\PySem.W.kitOne K t (.type c)=some b/\Q (.bl b) H
theorem SN:HD X (.builtin "isinstance") (xr X.K):=by
 intro pins s Z H xs us Q I r h;obtain⟨x,c,t,b,rfl,ty,e,q⟩:=h;obtain⟨u,w',rfl,r1,r2⟩:=vals2 r;cases (show w'=Value.type c from r2);exact iI I r1 ty e fun tk=>⟨.bl b,H,I.tok tk,rfl,q⟩
noncomputable def Yu:List V->List V->Bool
 | [],[]=>true
 | x::xs,y::ys=>eqV x y&&Yu xs ys
 | _,_=>false
theorem R0:∀{xs ys:List V} {us ws:List Value},Vals xs us->Vals ys ws->xs.all Im=true->ys.all Im=true->
 ∃e:Nat->Bool,(∀(A:Around) (s:Shared) (j:Nat) (h1:j<us.toArray.size) (h2:j<ws.toArray.size),SeqAt.EqAt A s us.toArray[j] ws.toArray[j] (e j))/\
  ((List.range (min us.toArray.size ws.toArray.size)).all e&&us.toArray.size==ws.toArray.size)=Yu xs ys
 | [],[],_,_,.nil,.nil,_,_=>⟨fun _=>true,fun _ _ j h1 _=>absurd h1 (by simp),rfl⟩
 | [],y::ys,_,_,.nil,.cons _ _,_,_=>⟨fun _=>true,fun _ _ j h1 _=>absurd h1 (by simp),by simp[Yu]⟩
 | x::xs,[],_,_,.cons _ _,.nil,_,_=>⟨fun _=>true,fun _ _ j _ h2=>absurd h2 (by simp),by simp[Yu]⟩
 | x::xs,y::ys,u::us,w::ws,.cons r t,.cons r' t',f,f'=>by
  rw[List.all_cons,kc] at f f';obtain⟨e,h1,h2⟩:=R0 t t' f.2 f'.2;refine⟨fun j=>match j with | 0=>eqV x y | j+1=>e j,?_,?_⟩
  ·intro A s j k1 k2;cases j with
   | zero=>simpa using nj r r' f.1 f'.1
   | succ j=>
    have k:=h1 A s j (by simpa using k1) (by simpa using k2);simp only[List.getElem_toArray,List.getElem_cons_succ] at k ⊢;exact k
  ·show _=(eqV x y&&Yu xs ys);rw[<-h2];have e1:min (u::us).toArray.size (w::ws).toArray.size=min us.toArray.size ws.toArray.size+1:=by simp
   rw[e1,List.range_succ_eq_map,List.all_cons,jj2,Bool.and_assoc]
   congr 2
   simp
noncomputable def ACY(K:Fr):R2:=fun x y H Q=>∃a b xs ys,x=.ref a/\y=.ref b/\SqT K H a xs/\SqT K H b ys/\xs.all Im=true/\ys.all Im=true/\Q (.bl (Yu xs ys)) H
theorem yL(hu:X.A.units<cLine):OpR X (compareOp .Eq) (ACY X.K):=by
 intro pins s Z H x y v u Q I rx ry h;obtain⟨a,b,xs,ys,rfl,rfl,ha,hb,fx,fy,q⟩:=h;cases rx;cases ry;obtain⟨its,r,pl,_⟩:=I.tuple ha;obtain⟨its',r',pl',_⟩:=I.tuple hb;obtain⟨e,h1,h2⟩:=R0 r r' fx fy;exact SeqAt.eq_tupleAt (e:=e) pl pl' hu (fun j k1 k2=>h1 _ _ j k1 k2) (by rw[h2];exact⟨.bl _,H,I,rfl,q⟩)
structure Cal(P:Program)(w:World)(K:Fr)(mg:Str->Option Value)(base:Heap)(k:Nat)(x:Str)(ps:List Str)(sp:Sp):Prop where
 ex:∃(f:Addr) (fd:FuncData),Et P w K mg base CX0 k f fd ps sp/\Binds K fd ps []/\PySem.W.keepIn K (.ref f)=true/\mg x=some (.ref f)
theorem Ae{k:Nat}{x:Str}{ps:List Str}{sp:Sp}{e:Expr}{es:List Expr}{t:TA}{p:Pos}(C:Cal X.prog X.w X.K X.mg X.base k x ps sp)(ha:PA X (e::es) t)(hr:Do k X.A:=by walk_at"hr")(hg:Gl X x:=by exact rfl)
 (hdb:(x==("__debug__":Str))=false:=by decide)(he:starEach (e::es) X.env=(false,eval e X.env)::starEach es X.env:=by rfl)(hpl:(backTo pos (starEach es X.env)).any (·.1)=false:=by rfl):
 PE X (.Call (.Name x p) (e::es) [] pos) (cO sp [] E0 t):=by
 obtain⟨f,fd,F,b,kp,m⟩:=C.ex;exact rQ F hr hg m kp b .nil MJ ha hdb he hpl
noncomputable def AAG(t:TS):TS:=fun D Z H=>∃J:St->Hp->Prop,t { D with nx:=J } Z H/\∀Z' H',J Z' H'->D.nx Z' H'
theorem Ei{st:Stmt}{t:TS}(h:PS X st t):PS X st (AAG t):=by
 intro pins s Z H D I hw;obtain⟨J,h1,h2⟩:=hw;refine thn (h pins s Z H { D with nx:=J } I h1) fun f s1 q=>?_;cases f with
 | next=>
  obtain⟨Z',H',I',q⟩:=q;exact⟨Z',H',I',h2 _ _ q⟩
 | ret v=>exact q
 | brk=>exact q
 | cont=>exact q
theorem EY{t:TS}{D:Ends}(J:St->Hp->Prop)(h1:t { D with nx:=J } Z H)(h2:∀Z' H',J Z' H'->D.nx Z' H'):AAG t D Z H:=⟨J,h1,h2⟩
theorem ACT{v:V}(h:Q v H):tC v Z H Q:=h
theorem AAp{r:R2}(h:ta Z H fun x H1=>tb Z H1 fun y H2=>r x y H2 Q):tOp r ta tb Z H Q:=h
theorem AAn{r:V->Hp->VK->Prop}(h:ta Z H fun x H1=>r x H1 Q):tUn r ta Z H Q:=h
theorem AAt{g:Int->Int->V}{i j:Int}(h:Q (g i j) H):rI0 g (.int i) (.int j) H Q:=⟨i,j,rfl,rfl,h⟩
theorem DQ{C:Int->Int->Prop}{g:Int->Int->V}{i j:Int}(c:C i j)(h:Q (g i j) H):rI C g (.int i) (.int j) H Q:=⟨i,j,rfl,rfl,c,h⟩
theorem ACS{g:Int->V}{i:Int}(h:Q (g i) H):rU g (.int i) H Q:=⟨i,rfl,h⟩
theorem AAu{x y:V}(s:qe x y=true)(h:Q (.bl (decide (x=y))) H):rEq x y H Q:=⟨s,h⟩
theorem AAq{x y:V}(s:qe x y=true)(h:Q (.bl (!decide (x=y))) H):rNe x y H Q:=⟨s,h⟩
theorem qy{t:TE}{Q:Bool->Hp->Prop}(h:t Z H fun x H'=>∃k,x=.bl k/\Q k H'):ur t Z H Q:=h
theorem ACU{t:TE}{Q:Bool->Hp->Prop}(h:t Z H fun x H'=>∃k,x=.bl k/\Q k H'):L2.tB t Z H Q:=h
theorem cZ{k:Bool}{Q:Bool->Prop}(h:Q k):∃k',V.bl k=.bl k'/\Q k':=⟨k,rfl,h⟩
theorem aL(n:String):RelV (.ty n) (.type n):=rfl
theorem Cj(i:Int)(t:Tok):RelV (.int i) (.int i t):=⟨t,rfl⟩
theorem xV{t:TT}{Q:Bool->Hp->Prop}(h:t Z H fun c H1=>Q (!c) H1):zq t Z H Q:=h
theorem xn{t u:TT}{Q:Bool->Hp->Prop}(h:t Z H fun c H1=>if c=true then u Z H1 Q else Q false H1):AAL t u Z H Q:=h
theorem AAo{t u:TT}{Q:Bool->Hp->Prop}(h:t Z H fun c H1=>if c=true then Q true H1 else u Z H1 Q):tOr t u Z H Q:=h
theorem rH(h:ta Z H fun x H1=>∃c,x=.bl c/\if c=true then tb Z H1 Q else Q (.bl false) H1):uz ta tb Z H Q:=h
theorem xU(h:ta Z H fun x H1=>∃c,x=.bl c/\if c=true then Q (.bl true) H1 else tb Z H1 Q):zj ta tb Z H Q:=h
theorem lN{r r':R2}(h:ta Z H fun x H1=>tb Z H1 fun y H2=>r x y H2 fun z H3=>∃k,z=.bl k/\(if k=true then tc Z H3 fun w' H4=>r' y w' H4 Q else Q (.bl false) H3)):jj r r' ta tb tc Z H Q:=h
theorem rG{sp:Sp}{dvs:List V}{E:XK}{t:TA}(h:t Z H fun vs H1=>sp (vs++dvs) H1 Q E):cO sp dvs E t Z H Q:=h
theorem AAv{r:List V->Hp->VK->Prop}{t:TA}(h:t Z H fun vs H1=>r vs H1 Q):tCB r t Z H Q:=h
theorem Ge{Q:List V->Hp->Prop}(h:Q [] H):Zz Z H Q:=h
theorem rE{tr:TA}{Q:List V->Hp->Prop}(h:ta Z H fun x H1=>tr Z H1 fun xs H2=>Q (x::xs) H2):uy ta tr Z H Q:=h
theorem xO{t:TA}(h:t Z H fun xs H1=>xs.length<=sizeLine/\∀p,H1 p=none->Q (.ref p) (upd H1 p (.tup xs))):zc t Z H Q:=h
theorem xW{t:TA}(h:t Z H fun xs H1=>xs.length<=sizeLine/\∀p,H1 p=none->Q (.ref p) (upd H1 p (.lst xs))):pW t Z H Q:=h
theorem xQ{t u:TS}{D:Ends}(h:t { D with nx:=u D } Z H):wA t u D Z H:=h
theorem rA{D:Ends}(h:D.nx Z H):uv D Z H:=h
theorem xR{te:TE}{D:Ends}(h:te Z H D.rt):zf te D Z H:=h
theorem xY{c:TT}{t u:TS}{D:Ends}(h:c Z H fun b H1=>if b=true then t D Z H1 else u D Z H1):zx c t u D Z H:=h
theorem xm{te:TE}{g:TG}{D:Ends}(h:te Z H fun x H1=>g x Z H1 D.nx):fJ te g D Z H:=h
theorem rD{te:TE}{D:Ends}(h:te Z H fun _ H1=>D.nx Z H1):ux te D Z H:=h
theorem lM{i:Nat}{v:V}{Q:St->Hp->Prop}(h:Q (Z.set i (some v)) H):Il i v Z H Q:=h
theorem An{K:Fr}{p:Addr}{xs:List V}{i:Int}{v:V}(hs:SqT K H p xs)(e:atI xs i=some v)(h:Q v H):rM K (.ref p) (.int i) H Q:=⟨p,xs,i,v,rfl,rfl,hs,e,h⟩
theorem Bc{K:Fr}{p:Addr}{xs:List V}{i:Int}{v:V}(hs:SqL K H p xs)(e:atI xs i=some v)(h:Q v H):rN K (.ref p) (.int i) H Q:=⟨p,xs,i,v,rfl,rfl,hs,e,h⟩
theorem RW{K:Fr}{x:V}{c:String}{t:Value}{b:Bool}(ty:Mz K H x t)(e:PySem.W.kitOne K t (.type c)=some b)(h:Q (.bl b) H):xr K [x,.ty c] H Q:=⟨x,c,t,b,rfl,ty,e,h⟩
theorem Hw{c A B:Prop}[Decidable c](hc:c)(h:A):if decide c=true then A else B:=by
 rw[decide_eq_true hc];exact FW h
theorem CN{c A B:Prop}[Decidable c](hc:¬c)(h:B):if decide c=true then A else B:=by
 rw[decide_eq_false hc];exact Ep h
theorem dZ{c A B:Prop}[Decidable c](hc:¬c)(h:A):if (!decide c)=true then A else B:=by
 rw[decide_eq_false hc];exact FW h
theorem CG{c A B:Prop}[Decidable c](h1:c->A)(h2:¬c->B):if decide c=true then A else B:=by
 by_cases h:c
 ·exact Hw h (h1 h)
 ·exact CN h (h2 h)
theorem Ax.tup{K:Fr}{H':Hp}{a:Addr}{xs:List V}(e:Ax H H')(h:SqT K H a xs):SqT K H' a xs:=by
 rcases h with (h | ⟨o,h⟩) | h
 ·exact .inl (.inl (e _ _ h))
 ·exact .inl (.inr ⟨o,e _ _ h⟩)
 ·exact .inr h
theorem Am{p:Addr}(h:H p=none)(o:HO):Ax H (upd H p o):=fun b u q=>by rw[Aw (Bj q h)];exact q
theorem Fb{i j:Int}(h0:0<j)(h1:j<18446744073709551616):pI i j:=⟨h0,Bt.mono (k:=64) (by unfold Bt;lia) (by decide)⟩
theorem Ca(x y:Nat):Builtin.bitAnd (x:Int) (y:Int)=((x &&& y:Nat):Int):=PyProof.Rows.bitAnd_pp (Int.natCast_nonneg x) (Int.natCast_nonneg y)
theorem Td(x:Nat):decide ((0:Int)<=Builtin.bitNot (x:Int))=false:=decide_eq_false (by unfold Builtin.bitNot;lia)
theorem GX(x y:Nat):Builtin.bitOr (x:Int) (y:Int)=((x ||| y:Nat):Int):=by
 have e:∀z:Int,Builtin.bitNot (Builtin.bitNot z)=z:=fun z=>by unfold Builtin.bitNot;lia
 unfold Builtin.bitOr Builtin.bitAnd;rw[Td,Td];dsimp only;rw[e,e,e,zk,zk]
theorem Lb(x y:Nat):Builtin.bitXor (x:Int) (y:Int)=((x ^^^ y:Nat):Int):=by
 show Builtin.bitOr (x:Int) (y:Int)-Builtin.bitAnd (x:Int) (y:Int)=_;rw[GX,Ca];have h:x ||| y=(x ^^^ y)+(x &&& y):=by
  have a:(x ^^^ y) &&& (x &&& y)=0:=by
   refine vb fun i=>?_;rw[Qr,Nat.testBit_xor,Qr,jb0];cases x.testBit i<;>cases y.testBit i<;>rfl
  have b:x ||| y=(x ^^^ y) ||| (x &&& y):=by
   refine vb fun i=>?_;rw[jb6,jb6,Nat.testBit_xor,Qr];cases x.testBit i<;>cases y.testBit i<;>rfl
  have c:=PyProof.Rows.bitOr_and ((x ^^^ y:Nat):Int) ((x &&& y:Nat):Int);rw[GX,Ca,a,<-b] at c;lia
 lia
end
end L2
namespace Att
open PySem PySem.W PySem.Calls PyProof.Rows
theorem Ot:∀{ns:List Int} {n:Int},n∈ns->Builtin.Int.intBits n<=WData.weightAll (ns.map WData.int)
 | m::ns,n,h=>by
  rw[xk];show _<=WData.weight (.int m)+1+WData.weightAll (ns.map WData.int);rcases qm.mp h with rfl | h
  ·have e:WData.weight (.int n)=Builtin.Int.intBits n:=by first | rfl | (unfold Builtin.Int.intBits;rfl) | simp[WData.weight,Builtin.Int.intBits]
   lia
  ·have:=Ot h;lia
theorem Zd{ns:List Int}(h:WData.layableAll [WData.list (ns.map WData.int)]=true):∀n∈ns,L2.Bt 1048576 n:=fun n hn=>by
 have h1:WData.layable (WData.list (ns.map WData.int))=true:=(Bool.and_eq_true_iff.mp h).1;have h2:WData.weight (WData.list (ns.map WData.int))<=2^20:=of_decide_eq_true (Bool.and_eq_true_iff.mp h1).2;have h3:=Ot hn;have e:WData.weight (WData.list (ns.map WData.int))=WData.weightAll (ns.map WData.int):=by first | rfl | simp[WData.weight]
 refine PySem.intBits_le_iff.mp ?_;lia
theorem attach_callB{l:OpenLaw}{n:Nat}{q:Program}{loose:List Str}{XP:(Str->Option Value)->Heap->Prop}{YP:World->Heap->Prop}{d:DefRec}
 (hn:l.most=some n)(hdf:d.params.defaults=[])
 (call:∀(w:World) (s₀ s₁:Shared) (mg mb:Str->Option Value) (fa:Addr) (o:Obj) (pm cd doc:Value) (a:Addr) (vs:List Value) (ns:List Int),
  Ground q loose [] XP w s₀ mg mb s₁.heap->YP w s₁.heap->
  s₁.heap.get? fa=some o->o.data=.func (docDef d.name d.params d.body d.scope pm cd doc)->s₁.heap.CodeRec cd d.name->mg d.name=some (.ref fa)->
  s₁.heap.get? a=some { cls:=.type "list",data:=.seq vs.toArray }->IntsAre vs ns->ns.length<=n->(∀n∈ns,L2.Bt 1048576 n)->s₁.gens= #[]->
  codeAny (model l.prog w) callerA (.call (.ref fa) ⟨[.ref a],[]⟩) (fun r s'=>r=.ok (.ret (.bool true))/\OldK s₁.heap s'.heap/\s'.os=s₁.os/\AllBare s'.gens) s₁):
 WalkO q loose XP YP l.row.toRowW d [] (fun f vs=>PySem.call f vs):=by
 intro w s₀ s₁ mg mb G Y fa o pm cd doc dV kV ho hd hcd hD hmg hg args vals as hpre hlay hrd hwl hlo;obtain rfl:dV=.none:=Dflts.none hD hdf;obtain rfl:kV=.none:=Dflts.noKw hD;obtain⟨a,vs,ns,rfl,rfl,hobj,hints,hlen⟩:=fu hn hpre hwl;refine enter_call (codeAny_mono (call w s₀ s₁ mg mb fa o pm cd doc a vs ns G Y ho (fd_plain hd) hcd hmg hobj hints hlen (Zd hlay) hg) fun r s' hq=>?_);obtain⟨rfl,h2,h3,h4⟩:=hq;exact⟨.inl ⟨.bool true,.bool true,[],rfl,fun _=>rfl,.bool true,gR l _,fun _=>⟨List.Pairwise.nil,fun _ hm=>(nomatch hm)⟩⟩,h2,h3,h4⟩
end Att
namespace L2
open PySem PySem.Spec PyProof.Rows
noncomputable def cU(K:Fr):Sp:=fun vs H Q _=>∃(a:Addr) (ns:List Int),vs=[.ref a]/\SqL K H a (ns.map V.int)/\ns.length<=63/\(∀n∈ns,Bt 1048576 n)/\∀H',Q (.bl true) H'
theorem jV{l:PySem.W.OpenLaw}{k:Nat}{q:Program}{loose:List Str}{XP:(Str->Option Value)->Heap->Prop}{YP:World->Heap->Prop}{d:DefRec}{K:Params->Fr}
 (hn:l.most=some 63)(hdf:d.params.defaults=[])(hr:Do k callerA)
 (hY:∀(w:World) (h:Heap),YP w h->(K w.params).In h)
 (F:∀(w:World) (mg:Str->Option Value) (fa:Addr) (h:Heap),(K w.params).In h->h.Ns mainGlobals mg->mg d.name=some (.ref fa)->
  ∃fd:FuncData,(∀(s:Shared) (u:Value),BindsTo s fd ⟨[u],[]⟩ [("_law_script",u)])/\
   ∀base:Heap,(K w.params).In base->base.Ns mainGlobals mg->Et l.prog w (K w.params) mg base CX0 k fa fd ["_law_script"] (cU (K w.params))):
 PySem.W.WalkO q loose XP YP l.row.toRowW d [] (fun f vs=>PySem.call f vs):=by
 refine Att.attach_callB hn hdf fun w s₀ s₁ mg mb fa o pm cd doc a vs ns G Y ho hd hcd hmg hobj hints hlen hbits hg=>?_;have KX:=hY w _ Y;obtain⟨fd,hb,hF⟩:=F w mg fa _ KX G.T.g hmg;exact mj KX G.T.g G.T.b G.T.builtins G.T.nolimit hg hobj hints (zv hlen (by decide)) hr hF hb (fun H hO hS=>⟨a,ns,rfl,hS,hlen,hbits,fun _=>rfl⟩) fun H e s'=>fun z=>z
noncomputable def Dq(X:Cx)(M:List Str)(x:Str)(scope:Scope)(cl:List (Str×Addr))(C:Addr)(s₀:Shared)(H₀:Hp)(fp:List Addr):Cx:=
 { X with N:=x::M,s₀:=s₀,H₀:=H₀,env:=compEnvC scope cl C X.env,outer:=X.stack,ex:=fp,fn:=fun _=>false,pn:=[],xe:=fun _ _=>False }
structure Oo(X:Cx)(M:List Str)(x:Str)(scope:Scope)(cl:List (Str×Addr)):Prop where
 clos:closureFor scope X.env=pure cl
 cell:∀y∈scope.names,y.2≠.cell
 kind:scope.kind=.function
 names:∀y∈scope.names,y.2=.local->scope.names.lookup y.1=some .local
 xl:scope.names.lookup x=some .local
 nd:(x::M).Nodup
 len:M.length=X.N.length
 sub:∀y c,cl.lookup y=some c->X.env.cells.lookup y=some c
 has:∀y,((relabel scope X.env).names.lookup y=some .cell\/(relabel scope X.env).names.lookup y=some .free)->∃c,cl.lookup y=some c
 vis:∀(i:Nat) (y:Str),M[i]?=some y->Vis (relabel scope X.env) y->X.N[i]?=some y/\((relabel scope X.env).names.lookup y=some .cell\/(relabel scope X.env).names.lookup y=some .free)/\(X.env.scope.names.lookup y=some .cell\/X.env.scope.names.lookup y=some .free)
noncomputable def bz(X:Cx)(ifs:List Expr)(t:TT):Prop:=
 ∀(pins:List (Addr×Obj)) (s:Shared) (Z:St) (H:Hp) (Q:Bool->Hp->Prop),Inv X pins Z H s->t Z H Q->
  wpAny (model X.prog X.w) X.A (forIn ifs true fun c r=>if r=true then do let ok <-isTrue c X.env (eval c X.env);pure (ForInStep.yield ok) else pure (ForInStep.yield r)) (TP X pins Z Q) X.xe s
noncomputable def cJ:TT:=fun _ H Q=>Q true H
variable{K:Fr}{Z:St}{H:Hp}{x:Str}{scope:Scope}{elt iter:Expr}{pos:Pos}{tt:TT}{te:TE}{wi:TI}{i:Nat}{xs:List V}{Q:VK}{ta:TA}
section
variable{X:Cx}
theorem Dr:bz X [] cJ:=fun pins s Z H Q I h=>by
 rw[List.forIn_nil];exact xp ⟨H,I,h⟩
theorem Jq{c:Expr}{t:TT}(hc:PT X c t):bz X [c] t:=fun pins s Z H Q I h=>by
 rw[List.forIn_cons];refine jv ?_;rw[xz rfl];refine jv (thn (hc pins s Z H Q I h) fun b s1 q=>xp ?_);dsimp only;rw[List.forIn_nil];exact xp q
noncomputable def Xn(wi:TI)(tt:TT)(te:TE):TE:=fun Z H Q=>wi Z H fun J H1=>∀D,H1 D=none->∃W:Nat->Nat->List V->Hp->Prop,(∃m,W 0 m [] (upd H1 D (.lst [])))/\
 ∀i m ys H2,W i m ys H2->H2 D=some (.lst ys)/\((J.stop i H2/\Q (.ref D) H2)\/(J.go i H2/\ys.length<sizeLine/\∃m',m'<m/\∀x H3,J.yld i H2 x H3->
  tt (some x::Z) H3 fun b H4=>if b=true then te (some x::Z) H4 fun y H5=>H5 D=some (.lst ys)/\W (i+1) m' (ys++[y]) (upd H5 D (.lst (ys++[y]))) else W (i+1) m' ys H4))
theorem uH{M:List Str}{pins:List (Addr×Obj)}{s:Shared}{cl:List (Str×Addr)}{C:Addr}{fp:List Addr}(I:Inv X pins Z H s)(ok:Oo X M x scope cl)(hC:s.heap.objs.size<=C)
 (hf:∀b∈fp,Ih X pins H b)(hb:∀b∈fp,b<s.heap.objs.size):(Dq X M x scope cl C s H fp).Ok where
 mod:=I.ok.mod
 kind:=ok.kind
 glob:=I.ok.glob
 blt:=I.ok.blt
 above:=hC
 inj:=fun y z c h1 h2=>I.ok.inj y z c (ok.sub y c h1) (ok.sub z c h2)
 has:=ok.has
 cab:=fun y c h=>by cases h
 hd:=I.ok.hd
 frames:=I.ok.frames
 stk:=.inl rfl
 exf:=fun b h=>⟨uj (xh (hb b h) hC),fun y c e=>(hf b h).2.2.2.2.1 y c (ok.sub y c e)⟩
 bs:=I.bs
 bsz:=zv I.ok.bsz I.sz
 noex:=fun b o e h=>by
  rcases(hf b h).2.2.2.1 with z | z
  ·exact I.ok.noex b o e z
  ·exact absurd (xh (zo (I.ok.bs b o e).1) z) (jc9 _)
 exfs:=fun b h z=>by
  rcases qm.mp (I.stkSub b z) with e | e
  ·exact(hf b h).2.1 e
  ·exact(hf b h).2.2.1 e
 funs:=I.stack
 frf:=I.stkFree
noncomputable def eZ(tt:TT)(te:TE)(Z:St)(Q:VK):It->Hp->Prop:=fun J H1=>∀D,H1 D=none->∃W:Nat->Nat->List V->Hp->Prop,(∃m,W 0 m [] (upd H1 D (.lst [])))/\
 ∀i m ys H2,W i m ys H2->H2 D=some (.lst ys)/\((J.stop i H2/\Q (.ref D) H2)\/(J.go i H2/\ys.length<sizeLine/\∃m',m'<m/\∀x H3,J.yld i H2 x H3->
  tt (some x::Z) H3 fun b H4=>if b=true then te (some x::Z) H4 fun y H5=>H5 D=some (.lst ys)/\W (i+1) m' (ys++[y]) (upd H5 D (.lst (ys++[y]))) else W (i+1) m' ys H4))
theorem Ve{M:List Str}{px:Pos}{ifs:List Expr}{cl:List (Str×Addr)}(hc:X.calm=true)(ok:Oo X M x scope cl)
 (ht:∀C s₀ H₀ fp,bz (Dq X M x scope cl C s₀ H₀ fp) ifs tt)(he:∀C s₀ H₀ fp,PE (Dq X M x scope cl C s₀ H₀ fp) elt te)
 {pins:List (Addr×Obj)}{Z:St}{H2:Hp}{s2:Shared}{it:Addr}{fp:List Addr}{tn:Nat->Heap->Prop}{J:It}{Q:VK}(I2:Inv X pins Z H2 s2)(T:Turn X.prog X.w X.K (.Name x px) J fp it tn)(st2:tn 0 s2.heap)(f2:∀b∈fp,Ih X pins H2 b)
 (hW:eZ tt te Z Q J H2)(post:Value->Addr->Result->Shared->Prop)
 (fin:∀D C H3 s4,Inv X pins Z H3 s4->(∃m,s4.heap.Ns C m)->Ih X pins H3 C->Q (.ref D) H3->post (.ref D) C (.ok .next) s4):
 wpAny (model X.prog X.w) X.A (newList []) (fun acc s₃=>wpAny (model X.prog X.w) X.A (newFunctionEnv scope X.env.globals cl [] X.env.qual none .none (some X.env)) (fun cenv s₄=>
  codeAny (model X.prog X.w) X.A (.compStart (.ListComp elt [⟨.Name x px,iter,ifs,0⟩] scope pos) 0 (.ref it) acc { cenv with scope:=relabel scope X.env }) (post acc cenv.locals) s₄) X.xe s₃) X.xe s2:=by
 refine wpAny_newObj_type (wpAny_newFunctionEnv ok.cell (by intro y hy;simp at hy) (fun h₁ hns₁ hsb₁=>?_) ok.kind);dsimp only at hns₁ hsb₁ ⊢;generalize hH2:s2.heap.push { cls:=.type "list",dict:=none,data:=.seq ([]:List Value).toArray }=G2 at hns₁ hsb₁ ⊢;have hC:G2.objs.size=s2.heap.objs.size+1:=by rw[<-hH2,jf8]
 have hDC:s2.heap.objs.size≠G2.objs.size:=by rw[hC];exact uj (jj0 _)
 have hCle:s2.heap.objs.size<=G2.objs.size:=by rw[hC];exact Nat.le_succ _
 have below:∀b,b<s2.heap.objs.size->b≠G2.objs.size/\b≠s2.heap.objs.size:=fun b hb=>⟨by rw[hC];exact uj (Nat.lt_succ_of_lt hb),uj hb⟩;have old:∀b o,s2.heap.get? b=some o->h₁.get? b=some o:=fun b o e=>hsb₁.extBut b o (below b (zo e)).1 (js _ (hH2 ▸ js _ e));have hacc:h₁.get? s2.heap.objs.size=some { cls:=.type "list",data:=.seq ([]:List Value).toArray }:=hsb₁.extBut _ _ hDC (js _ (hH2 ▸ zw _ rfl));have fpb:∀b∈fp,b<s2.heap.objs.size:=fun b hb=>by
  obtain⟨o,e,_⟩:=T.obj _ _ st2 b hb;exact zo e
 have hD0:H2 s2.heap.objs.size=none:=I2.hok.fresh (qh _);have hC0:H2 G2.objs.size=none:=I2.hok.fresh hCle;generalize hDD:s2.heap.objs.size=D at*
 generalize hCC:G2.objs.size=C at*
 obtain⟨W,⟨m0,w0⟩,turn⟩:=hW D hD0;have okX:(Dq X M x scope cl C s2 H2 fp).Ok:=uH I2 ok (by rw[hDD];exact hCle) f2 (by rw[hDD];exact fpb);have lenN:(none::Z:St).length=(Dq X M x scope cl C s2 H2 fp).N.length:=by
  show(none::Z).length=(x::M).length;rw[qq,qq,I2.len,ok.len]
 have locs:∀(h':Heap) (m:Str->Option Value) (w':Option V),(∀y c,X.env.cells.lookup y=some c->∀v,s2.heap.IsCell c v->h'.IsCell c v)->w'=none->
  ∀(i:Nat) (y:Str) (v:V),(x::M)[i]?=some y->(w'::Z:St)[i]?=some (some v)->Vis (relabel scope X.env) y->∃u,RelV v u/\Look (compEnvC scope cl C X.env) h' m y u:=by
  intro h' m w' hcell hw i y v e1 e2 e3;subst hw;cases i with
  | zero=>simp at e2
  | succ i=>
   have e0:M[i]?=some y:=by simpa using e1
   have e2':Z[i]?=some (some v):=by simpa using e2
   obtain⟨e1',k1,k2⟩:=ok.vis i y e0 e3;obtain⟨m2,_,hl⟩:=I2.loc;obtain⟨u,r,l⟩:=hl i y v e1' e2' (k2.elim (fun z=>.inr (.inl z)) fun z=>.inr (.inr z));obtain⟨c',hc'⟩:=ok.has y k1;rcases l with ⟨z,_⟩ | ⟨_,c,hcc,z⟩
   ·have z':X.env.scope.names.lookup y=some .local:=z;rcases k2 with q | q<;>(rw [q] at z';cases z')
   ·have q:=ok.sub y c' hc';rw[hcc] at q;cases q;exact⟨u,r,.inr ⟨k1,c',hc',hcell y c' hcc _ z⟩⟩
 have I0:Inv (Dq X M x scope cl C s2 H2 fp) [] (none::Z) (upd H2 D (.lst [])) { s2 with heap:=h₁,toks:=s2.toks+([]:List (Str×Value)).length }:=by
  refine⟨okX,rfl,I2.bare,?_,⟨_,hns₁,locs h₁ _ none (fun y c e v z=>?_) rfl⟩,fun y c e=>?_,?_,fun y c e=>?_,fun p hp=>?_,?_,lenN⟩
  ·exact Un.laid old (jj3 hDD) hD0
  ·obtain⟨o,ho,hd⟩:=z;exact⟨o,old c o ho,hd⟩
  ·obtain⟨v,o,ho,hd⟩:=I2.cell y c (ok.sub y c e);exact⟨v,o,old c o ho,hd⟩
  ·show upd H2 D (.lst []) C=none;rw[Aw (Ne.symm hDC)];exact hC0
  ·have hn:=I2.freeC y c (ok.sub y c e);obtain⟨v,o,ho,hd⟩:=I2.cell y c (ok.sub y c e);rw[Aw (fun z=>by have:=zo ho;rw[hDD,z] at this;exact jc9 _ this)];exact hn
  ·exact absurd hp (by show p∉([]++[]:List (Addr×Obj));simp)
  ·refine I2.hok.laid old (jj3 hDD) ⟨ka _,[],_,.nil,hacc⟩
 have fpk:∀{H':Hp},(∀b∈fp,H' b=none)->∀b∈fp,Ih (Dq X M x scope cl C s2 H2 fp) [] H' b:=fun hn b hb=>by
  refine⟨hn b hb,(below b (fpb b hb)).1,okX.exfs b hb,.inl hb,fun y c e=>(f2 b hb).2.2.2.2.1 y c (ok.sub y c e),fun p hp=>?_⟩;exact absurd hp (by show p∉([]++[]:List (Addr×Obj));simp)
 have loop:∀s₃:Shared,s₃={ s2 with heap:=h₁,toks:=s2.toks+([]:List (Str×Value)).length }->
  codeAny (model X.prog X.w) X.A (.compLoop (.ListComp elt [⟨.Name x px,iter,ifs,0⟩] scope pos) 0 (.ref it) (.ref D) (compEnvC scope cl C X.env))
   (post (.ref D) C) s₃:=by
  rintro s₃ rfl;refine codeAny_compLoop_tests (fun n s'=>∃i ys w' H',Inv (Dq X M x scope cl C s2 H2 fp) [] (w'::Z) H' s'/\tn i s'.heap/\(∀b∈fp,H' b=none)/\W i n ys H') ?_ m0
   ⟨0,[],none,_,I0,T.keep _ _ _ st2 (fun b _ o e=>old b o e),fun b hb=>by rw[Aw (below b (fpb b hb)).2];exact(f2 b hb).1,w0⟩
  rintro n s3 ⟨i,ys,w3,H3,I3,st3,fr3,wt⟩;obtain⟨hD3,hh⟩:=turn i n ys H3 wt;rcases hh with ⟨stop,q⟩ | ⟨go,hlen,m',hm,step⟩
  ·refine thn (T.done (Dq X M x scope cl C s2 H2 fp) rfl rfl rfl hc i [] s3 (w3::Z) H3 _ I3 (fpk fr3) st3 stop) fun r s4 ⟨hr,I4⟩=>?_;subst hr;obtain⟨m4,hn4,_⟩:=id I4.loc;have hC4:H3 C=none:=I4.free;exact fin D C H3 s4 (I2.call' (ch:=fp) I4.os I4.base I4.hok I4.bare fun b hb=>⟨(f2 b hb).2.2.2.1,(f2 b hb).2.1,(f2 b hb).2.2.2.2.1,(f2 b hb).2.2.2.2.2⟩) ⟨m4,hn4⟩ (I2.fpOk (by rw[hDD];exact hCle) hC4) q
  ·refine kq (T.item (Dq X M x scope cl C s2 H2 fp) rfl rfl rfl hc i [] s3 (w3::Z) H3 (fun _ _=>False) I3 (fpk fr3) st3 go) (fun r s4 h4=>?_) (fun _ _ z=>z.elim);obtain⟨u,hr,h4⟩:=h4;subst hr;refine(show wpAny (model X.prog X.w) X.A (letOwnedTupleGo (.Name x px) (.ref it) u >>= fun _=>assign (.Name x px) (compEnvC scope cl C X.env) u) _ _ _ from jv (kq h4 (fun _ s4 h4=>?_) (fun _ _ z=>z.elim)));obtain⟨x',H5,I5,r5,y5,st5,fr5⟩:=h4;have I5':=I5.pinned (fpk fr5) (T.obj _ _ st5);refine wpAny_assign_Name (Ji (X:=Dq X M x scope cl C s2 H2 fp) (i:=0) I5' ok.nd rfl (.inl (lookup_relabel_local ok.xl)) r5 (fun s6 I6=>?_) (.inr (lookup_relabel_local ok.xl)));have I6':Inv (Dq X M x scope cl C s2 H2 fp) ([]++K8 fp s4.heap) (some x'::Z) H5 s6:=I6;have back:∀{s7:Shared} {H7:Hp} {w7:Option V},Inv (Dq X M x scope cl C s2 H2 fp) ([]++K8 fp s4.heap) (w7::Z) H7 s7->tn (i+1) s7.heap/\(∀b∈fp,H7 b=none)/\Inv (Dq X M x scope cl C s2 H2 fp) [] (w7::Z) H7 s7:=fun{s7 H7 w7} I7=>by
    refine⟨T.keep _ _ _ st5 fun b hb o e=>(I7.pin (b,o) (xy _ (xy _ (Gq hb e)))).1,fun b hb=>?_,I7.unpinned⟩;obtain⟨o,e,d⟩:=T.obj _ _ st5 b hb;exact(I7.pin (b,o) (xy _ (xy _ (Gq hb e)))).2.1
   refine kq (ht C s2 H2 fp _ s6 _ H5 _ I6' (step x' H5 y5)) (fun ok' s7 h7=>?_) (fun _ _ z=>z.elim);obtain⟨H7,I7,q7⟩:=h7;cases ok' with
   | false=>
    have q7':W (i+1) m' ys H7:=by simpa using q7
    rw[yv ze];obtain⟨b1,b2,b3⟩:=back I7;exact⟨m',hm,i+1,ys,_,H7,b3,b1,b2,q7'⟩
   | true=>
    rw[xz rfl] at q7 ⊢;refine kq (he C s2 H2 fp _ s7 _ H7 _ I7 q7) (fun y s8 h8=>?_) (fun _ _ z=>z.elim);obtain⟨v8,H8,I8,r8,hD8,w8⟩:=h8;refine kq (GQ (X:=Dq X M x scope cl C s2 H2 fp) _ s8 _ H8 (.ref D) [v8] (.ref D) [y] (fun _ H9=>H9=upd H8 D (.lst (ys++[v8]))) I8 rfl (.cons r8 .nil) ⟨D,ys,v8,rfl,rfl,hD8,hlen,rfl⟩) (fun _ s9 h9=>?_) (fun _ _ z=>z.elim);obtain⟨v9,H9,I9,_,e9⟩:=h9;subst e9;obtain⟨b1,b2,b3⟩:=back I9;exact⟨m',hm,i+1,_,_,_,b3,b1,b2,w8⟩
 exact codeAny_compStart_list (loop _ rfl) (T.self _ 0 _ _ _ (T.keep _ _ _ st2 (fun b _ o e=>old b o e)) (loop _ rfl))
theorem Ff{M:List Str}{px:Pos}{ifs:List Expr}{cl:List (Str×Addr)}(hc:X.calm=true)(ok:Oo X M x scope cl)(hi:PI X (.Name x px) iter wi)
 (ht:∀C s₀ H₀ fp,bz (Dq X M x scope cl C s₀ H₀ fp) ifs tt)(he:∀C s₀ H₀ fp,PE (Dq X M x scope cl C s₀ H₀ fp) elt te)
 (hs:∀x,foldedSetIterable iter X.env x=pure x:=by intro _;rfl):
 PE X (.ListComp elt [⟨.Name x px,iter,ifs,0⟩] scope pos) (Xn wi tt te):=by
 intro pins s Z H Q I h;rw[eval_ListComp];refine wpAny_comprehension_free (use:=none) rfl hs ok.clos ok.kind ok.names (thn (hi pins s Z H _ I h) fun xv s1 h1=>thn h1 fun itv s2 h2=>?_);obtain⟨it,fp,tn,J,H2,e,I2,T,st2,f2,hW⟩:=h2;subst e;refine Ve hc ok ht he I2 T st2 f2 hW (compPost (model X.prog X.w) X.A X.xe none (EP X pins Z Q)) fun D C H3 s4 I4 hm fC q=>?_;obtain⟨m,hn⟩:=hm;exact⟨m,hn,fun h' hsb=>⟨.ref D,H3,I4.turned (t':=s4.toks) (fun b o hb e=>hsb.extBut b o hb e) fC.1 fC.2.1 fC.2.2.2.1 fC.2.2.2.2.1 fC.2.2.2.2.2,rfl,q⟩⟩
theorem JG{M:List Str}{y:Str}{px py spos:Pos}{ifs:List Expr}{cl:List (Str×Addr)}(hN:X.N.Nodup)(hiy:X.N[i]?=some y)(hy:Loc X.env.scope y)
 (hc:X.calm=true)(ok:Oo X M x scope cl)(hi:PI X (.Name x px) iter wi)
 (ht:∀C s₀ H₀ fp,bz (Dq X M x scope cl C s₀ H₀ fp) ifs tt)(he:∀C s₀ H₀ fp,PE (Dq X M x scope cl C s₀ H₀ fp) elt te)
 (hsw:swapsWith (.ListComp elt [⟨.Name x px,iter,ifs,0⟩] scope pos) (some (.Name y py)) spos.line X.env=pure true:=by with_unfolding_all rfl)
 (hf:X.fn y=true\/X.env.scope.names.lookup y=some .local:=by first | exact .inl rfl | exact .inr rfl | assumption)
 (hs:∀x,foldedSetIterable iter X.env x=pure x:=by intro _;rfl):
 PS X (.Assign [.Name y py] (.ListComp elt [⟨.Name x px,iter,ifs,0⟩] scope pos) spos) (fJ (Xn wi tt te) (Il i)):=by
 intro pins s Z H D I h;rw[exec_Assign_Name_used _ _ _ _ hsw];refine jv (wpAny_standAt (jv ?_));show wpAny _ X.A (do let _ <-comprehension (.ListComp elt [⟨.Name x px,iter,ifs,0⟩] scope pos) scope X.env _ (newList []) false (eval iter X.env) (some (assign (.Name y py) X.env))) _ _ s;refine jv (kq (wpAny_comprehension_free (use:=some (assign (.Name y py) X.env)) (Q:=fun _ s'=>SP X pins D .next s') rfl hs ok.clos ok.kind ok.names
  (thn (hi pins s Z H _ I h) fun xv s1 h1=>thn h1 fun itv s2 h2=>?_)) (fun _ s' hq=>xp (xp hq)) fun _ _ e=>e)
 obtain⟨it,fp,tn,J,H2,e,I2,T,st2,f2,hW⟩:=h2;subst e;refine Ve (Q:=fun x H1=>Il i x Z H1 D.nx) hc ok ht he I2 T st2 f2 hW (compPost (model X.prog X.w) X.A X.xe (some (assign (.Name y py) X.env)) (fun _ s'=>SP X pins D .next s')) fun Dd C H3 s4 I4 hm fC q=>?_
 obtain⟨m,hn⟩:=hm;show wpAny _ X.A (assign (.Name y py) X.env (.ref Dd)) _ _ _;refine wpAny_assign_Name (M9 I4 hN hiy hy (v:=.ref Dd) rfl (fun s5 I5 hsb=>?_) hf);obtain⟨a,sb,ha⟩:=hsb;have hCa:C≠a:=by
  rcases ha with rfl | ha
  ·exact fC.2.1
  ·exact(fC.2.2.2.2.1 _ _ ha).symm
 exact⟨m,hn.sameBut sb hCa,fun h' hsb'=>⟨_,H3,I5.turned (t':=s5.toks) (fun b o hb e=>hsb'.extBut b o hb e) fC.1 fC.2.1 fC.2.2.2.1 fC.2.2.2.2.1 fC.2.2.2.2.2,q⟩⟩
theorem Xg:∀{bs:List Bool} {us:List Value},Vals (bs.map V.bl) us->us=bs.map Value.bool
 | [],_,.nil=>rfl
 | b::bs,u::us,.cons r t=>by
  cases (show u=Value.bool b from r);rw[Xg t];rfl
theorem aO(bs:List Bool):((List.range bs.length).all fun i=>(bs[i]?).getD true)=bs.all id:=by
 induction bs with
 | nil=>rfl
 | cons b bs ih=>
  rw[qq,List.range_succ_eq_map,List.all_cons,jj2,List.all_cons,<-ih];rfl
theorem tK{s:Shared}{h':Heap}{o:Obj}(hk:∀b x,b∉[s.heap.objs.size]->(s.heap.push o).get? b=some x->h'.get? b=some x):∀b x,s.heap.get? b=some x->h'.get? b=some x:=
 fun b x e=>hk b x (fun hm=>by rw[vj.mp hm] at e;exact jc9 _ (zo e)) (js _ e)
theorem SX(hc:X.calm=true):HD X (.builtin "all") (fun xs H Q=>∃(p:Addr) (bs:List Bool),xs=[.ref p]/\SqL X.K H p (bs.map V.bl)/\Q (.bl (bs.all id)) H):=by
 intro pins s Z H xs us Q I r h;obtain⟨p,bs,rfl,hq,q⟩:=h;obtain⟨u,rfl,ru⟩:=vals1 r;cases (show u=Value.ref p from ru);obtain⟨its,rv,pl,_⟩:=I.list hq;obtain rfl:=Xg rv;have hl:=pl.isList;have hlt:p<s.heap.objs.size:=by obtain⟨_,e,_⟩:=id hl;exact zo e
 refine call_all_walk (wpAny_pyIter_list hl ?_);refine⟨s.heap.objs.size,[s.heap.objs.size,p],[s.heap.objs.size],(bs.map Value.bool).toArray.size,_,_,fun i=>(bs[i]?).getD true,rfl,Walks.list (A:=X.A.in1) (I.ok.hd hc) _ p (uj hlt) (bs.map Value.bool).toArray,
  ⟨⟨_,zw _ rfl,rfl,rfl⟩,hl.push _⟩,fun i v s' Q' E' hP hQ=>?_,fun h' tk hk=>?_⟩
 ·have hP':(bs.map Value.bool)[i]?=some v:=by simpa using hP
  rw[xc] at hP';cases e:bs[i]? with
  | none=>rw[e] at hP';cases hP'
  | some b=>
   rw[e] at hP';cases hP';simp only[e,Option.getD_some] at hQ;exact jc8 hQ
 ·have e:((List.range (bs.map Value.bool).toArray.size).all fun i=>(bs[i]?).getD true)=bs.all id:=by
   rw[xi,jp];exact aO bs
  rw[e];exact⟨.bl _,H,I.kept (tK hk),rfl,q⟩
theorem lookup_mem{κ β:Type}[BEq κ][LawfulBEq κ]{k:κ}{v:β}:∀{l:List (κ×β)},l.lookup k=some v->(k,v)∈l
 | (a,b)::r,h=>by
  rw[List.lookup_cons] at h;cases e:k==a with
  | true=>
   rw[e] at h;cases h;rw[eq_of_beq e];exact qk
  | false=>
   rw[e] at h;exact qr _ (lookup_mem h)
theorem Uh{env:Env}(h:∀y∈scope.names,y.2≠.free):(relabel scope env).names=scope.names:=
 map_eq_self fun x hx=>by
  obtain⟨n,k⟩:=x;have:(k==NameKind.free)=false:=by simpa using h _ hx
  simp[this]
theorem GJ(N:List Str)(hN:X.N=N)(hf:∀y∈scope.names,y.2≠.free/\y.2≠.cell)(hk:scope.kind=.function)(hn:∀y∈scope.names,y.2=.local->scope.names.lookup y.1=some .local)
 (hx:scope.names.lookup x=some .local)(nd:(x::N).Nodup)(vis:∀y∈N,scope.names.lookup y≠some .local):Oo X N x scope []:=by
 have e:=Uh (env:=X.env) fun y hy=>(hf y hy).1;refine⟨closureFor_none fun y hy=>(hf y hy).1,fun y hy=>(hf y hy).2,hk,hn,hx,nd,by rw[hN],fun y c h=>(by cases h),fun y h=>?_,fun i y hy h=>?_⟩
 ·rw[e] at h;rcases h with h | h
  ·exact absurd rfl (hf _ (lookup_mem h)).2
  ·exact absurd rfl (hf _ (lookup_mem h)).1
 ·rcases h with h | h | h
  ·rw[e] at h;exact absurd h (vis y (zh hy))
  ·rw[e] at h;exact absurd rfl (hf _ (lookup_mem h)).2
  ·rw[e] at h;exact absurd rfl (hf _ (lookup_mem h)).1
structure Walk(J:It)(ok:Hp->Prop)(xs:List V):Prop where
 go:∀i H,ok H->i<xs.length->J.go i H
 yld:∀i H x H',ok H->J.yld i H x H'->i<xs.length->H'=H/\xs[i]?=some x
 stop:∀i H,ok H->xs.length<=i->J.stop i H
theorem K1{a:Addr}:Walk (Itl K a) (fun H=>SqL K H a xs) xs:=
 ⟨fun i H h hi=>⟨xs,xs[i],h,by simp[hi]⟩,fun i H x H' h y hi=>⟨y.1,y.2 xs h⟩,fun i H h hi=>⟨xs,h,hi⟩⟩
theorem jU{a:Addr}:Walk (Itt K a) (fun H=>SqT K H a xs) xs:=
 ⟨fun i H h hi=>⟨xs,xs[i],h,by simp[hi]⟩,fun i H x H' h y hi=>⟨y.1,y.2 xs h⟩,fun i H h hi=>⟨xs,h,hi⟩⟩
theorem Zq{lo:Int}{n:Nat}:Walk (Itr lo n) (fun _=>True) ((List.range n).map fun i=>V.int (lo+(i:Nat))):=
 ⟨fun i H _ hi=>(by show i<n;simpa using hi),fun i H x H' _ y hi=>⟨y.1,by
  have hi':i<n:=by simpa using hi
  rw[y.2];simp[hi']⟩,fun i H _ hi=>(by show n<=i;simpa using hi)⟩
theorem eN{J:It}{ok:Hp->Prop}(Wk:Walk J ok xs)(hz:xs.length<sizeLine)(hok:∀D ys,H D=none->ok (upd H D (.lst ys)))(p:V->Bool)(f:V->V)
 (ht:∀x∈xs,∀D ys (Q':Bool->Hp->Prop),H D=none->Q' (p x) (upd H D (.lst ys))->tt (some x::Z) (upd H D (.lst ys)) Q')
 (he:∀x∈xs,p x=true->∀D ys (Q':VK),H D=none->Q' (f x) (upd H D (.lst ys))->te (some x::Z) (upd H D (.lst ys)) Q')
 (h:∀D,H D=none->Q (.ref D) (upd H D (.lst ((xs.filter p).map f)))):
 ∀D,H D=none->∃W:Nat->Nat->List V->Hp->Prop,(∃m,W 0 m [] (upd H D (.lst [])))/\
  ∀i m ys H2,W i m ys H2->H2 D=some (.lst ys)/\((J.stop i H2/\Q (.ref D) H2)\/(J.go i H2/\ys.length<sizeLine/\∃m',m'<m/\∀x H3,J.yld i H2 x H3->
   tt (some x::Z) H3 fun b H4=>if b=true then te (some x::Z) H4 fun y H5=>H5 D=some (.lst ys)/\W (i+1) m' (ys++[y]) (upd H5 D (.lst (ys++[y]))) else W (i+1) m' ys H4)):=by
 intro D hD;refine⟨fun i m ys H2=>i<=xs.length/\m=xs.length-i/\ys=((xs.take i).filter p).map f/\H2=upd H D (.lst ys),⟨_,ka _,rfl,by simp,rfl⟩,?_⟩;rintro i m ys H2 ⟨hi,rfl,hys,rfl⟩;refine⟨Ah,?_⟩;by_cases hlt:i<xs.length
 ·have hl:ys.length<=i:=by
   rw[hys,jp];exact zv (jf3 _ _) (by rw[jd7];lia)
  refine .inr ⟨Wk.go i _ (hok D ys hD) hlt,by lia,xs.length-(i+1),by lia,fun x H3 hy=>?_⟩;obtain⟨e3,ex⟩:=Wk.yld i _ x H3 (hok D ys hD) hy hlt;subst e3;have hm:x∈xs:=zh ex;have et:xs.take (i+1)=xs.take i++[x]:=by rw[ja0,ex];rfl
  refine ht x hm D ys _ hD ?_;cases hp:p x with
  | false=>
   rw[yv ze];refine⟨hlt,rfl,?_,rfl⟩;rw[et,jh9,hys];simp[hp]
  | true=>
   rw[xz rfl];refine he x hm hp D ys _ hD ⟨Ah,hlt,rfl,?_,by rw[pM]⟩;rw[et,jh9,hys];simp[hp]
 ·have e:i=xs.length:=by lia
  subst e;refine .inl ⟨Wk.stop _ _ (hok D ys hD) (qh _),?_⟩;rw[hys,ja9];exact h D hD
theorem WY{R:It->Hp->Prop}(h:ta Z H fun vs H1=>∃j:Int,vs=[.int j]/\ -(2^62)<=j/\j<2^62/\R (Itr 0 j.toNat) H1):vU ta Z H R:=h
theorem cY{R:It->Hp->Prop}(h:ta Z H fun vs H1=>∃i j:Int,vs=[.int i,.int j]/\(-(2^62)<=i/\i<2^62/\ -(2^62)<=j/\j<2^62)/\R (Itr i (j-i).toNat) H1):vR ta Z H R:=h
theorem Em(h:wi Z H (eZ tt te Z Q)):Xn wi tt te Z H Q:=h
theorem IW{J:It}{ok:Hp->Prop}(Wk:Walk J ok xs)(hz:xs.length<sizeLine)(hok:∀D ys,H D=none->ok (upd H D (.lst ys)))(p:V->Bool)(f:V->V)
 (ht:∀x∈xs,∀D ys (Q':Bool->Hp->Prop),H D=none->Q' (p x) (upd H D (.lst ys))->tt (some x::Z) (upd H D (.lst ys)) Q')
 (he:∀x∈xs,p x=true->∀D ys (Q':VK),H D=none->Q' (f x) (upd H D (.lst ys))->te (some x::Z) (upd H D (.lst ys)) Q')
 (h:∀D,H D=none->Q (.ref D) (upd H D (.lst ((xs.filter p).map f)))):eZ tt te Z Q J H:=eN Wk hz hok p f ht he h
theorem bR{a:Addr}(ei:Z[i]?=some (some (.ref a)))(hS:SqT K H a xs)(hz:xs.length<sizeLine)(p:V->Bool)(f:V->V)
 (ht:∀x∈xs,∀D ys (Q':Bool->Hp->Prop),H D=none->Q' (p x) (upd H D (.lst ys))->tt (some x::Z) (upd H D (.lst ys)) Q')
 (he:∀x∈xs,p x=true->∀D ys (Q':VK),H D=none->Q' (f x) (upd H D (.lst ys))->te (some x::Z) (upd H D (.lst ys)) Q')
 (h:∀D,H D=none->Q (.ref D) (upd H D (.lst ((xs.filter p).map f)))):Xn (tQ K (Lh i)) tt te Z H Q:=
 by unfold Xn tQ;exact K5 ei ⟨a,rfl,⟨_,hS⟩,eN jU hz (fun D ys hD=>(Am hD _).tup hS) p f ht he h⟩
theorem Iz{Q:Bool->Hp->Prop}(h:Q true H):cJ Z H Q:=h
theorem Cw{cl:List (Str×Addr)}(M N:List Str)(hl:M.length=N.length)(hN:X.N=N)(clos:closureFor scope X.env=pure cl)(hc:(scope.names.all fun y=>y.2 != .cell)=true)(hk:scope.kind=.function)
 (hn:(scope.names.all fun y=>y.2 != .local||scope.names.lookup y.1==some .local)=true)(hx:scope.names.lookup x=some .local)(nd:(x::M).Nodup)
 (hs:∀p∈cl,X.env.cells.lookup p.1=some p.2)
 (hh:((relabel scope X.env).names.all fun p=>(p.2 != .cell&&p.2 != .free)||(cl.lookup p.1).isSome)=true)
 (hv:((M.zip N).all fun q=>match (relabel scope X.env).names.lookup q.1 with
  | some .local=>false
  | some .cell=>q.1==q.2&&(X.env.scope.names.lookup q.1==some .cell||X.env.scope.names.lookup q.1==some .free)
  | some .free=>q.1==q.2&&(X.env.scope.names.lookup q.1==some .cell||X.env.scope.names.lookup q.1==some .free)
  | _=>true)=true):Oo X M x scope cl:=by
 refine⟨clos,fun y hy=>?_,hk,fun y hy hl=>?_,hx,nd,by rw[hN];exact hl,fun y c h=>hs _ (lookup_mem h),fun y h=>?_,fun i y hy h=>?_⟩
 ·have:=va.mp hc y hy;simpa using this
 ·have:=va.mp hn y hy;simpa [hl] using this
 ·rcases h with h | h
  ·have:=va.mp hh _ (lookup_mem h);exact jb3.mp (by simpa using this)
  ·have:=va.mp hh _ (lookup_mem h);exact jb3.mp (by simpa using this)
 ·have hi:i<N.length:=by
   have:=(xb.mp hy).1;lia
  have hz:(y,N[i])∈M.zip N:=by
   have:(M.zip N)[i]?=some (y,N[i]):=List.getElem?_zip_eq_some.mpr ⟨hy,by simp[hi]⟩;exact zh this
  have z:=va.mp hv _ hz;have fin:y=N[i]->X.N[i]?=some y:=fun e=>by rw[hN,e];simp[hi]
  rcases h with h | h | h
  ·dsimp only at z;rw[h] at z;cases z
  ·dsimp only at z;rw[h] at z;simp only[kc,ja5,ji1] at z;exact⟨fin z.1,.inl h,z.2⟩
  ·dsimp only at z;rw[h] at z;simp only[kc,ja5,ji1] at z;exact⟨fin z.1,.inr h,z.2⟩
noncomputable def cC(lo c:Int)(n:Nat):It:=⟨fun i _=>i<n,fun i H x H'=>H'=H/\x=.int (lo+i*c),fun i _=>n<=i⟩
theorem Xj{P:Program}{w:World}{tg:Expr}(it:Addr)(lo c:Int)(n:Nat):Turn P w K tg (cC lo c n) [it] it (fun i h=>IsRangeIter h it (lo+(i:Nat)*c) ((n:Int)-(i:Nat)) c) where
 mem:=by simp
 obj:=fun i h st b hb=>by
  have e:b=it:=by simpa using hb
  subst e;exact⟨_,st,fun v z=>by
   have z':Data.fields _=Data.cell v:=z;cases z'⟩
 keep:=fun i h h' st k=>k it (by simp) _ st
 item:=by
  intro X hP hw hK hc i pins s Z H E I hf st hg;subst hP hw hK;obtain⟨f0,f1,f2,f3,f4,f5⟩:=hf it (by simp);have W:=Walks.range (prog:=X.prog) (w:=X.w) (I.ok.hd hc) it lo c n;refine W.item i s _ _ hg st fun v h' tk hv st' kk=>?_;obtain⟨t,rfl⟩:=hv;have I1:Inv X pins Z H { s with heap:=h',toks:=tk }:=I.turned (fun b o hb e=>kk b o (by simpa using hb) e) f0 f1 f3 f4 f5;exact⟨_,rfl,Yo (s:={ s with heap:=h',toks:=tk }) (n:="range_iterator") st' rfl rfl (by decide) ⟨.int (lo+i*c),H,I1,⟨t,rfl⟩,⟨rfl,rfl⟩,st',fun b hb=>(hf b hb).1⟩⟩
 done:=by
  intro X hP hw hK hc i pins s Z H E I hf st hg;subst hP hw hK;obtain⟨f0,f1,f2,f3,f4,f5⟩:=hf it (by simp);exact wpAny_pyNext_range_end (I.ok.hd hc) st (by have:n<=i:=hg;lia) fun h' eb=>⟨rfl,I.turned (t':=s.toks) (fun b o hb e=>eb b o hb e) f0 f1 f3 f4 f5⟩
 self:=fun _ _ _ _ _ st h=>wpAny_pyIter_rangeiter st h
noncomputable def vQ(ta:TA):TI:=fun Z H R=>ta Z H fun vs H1=>∃i j c:Int,vs=[.int i,.int j,.int c]/\0<c/\c<1073741824/\Builtin.Range.small i j c=true/\∃n:Nat,(n:Int)=Builtin.Range.rangeSize i j c/\R (cC i c n) H1
theorem Ka{tg:Expr}{a b d:Expr}{p:Pos}(hg:Gl X "range")(hm:X.mg "range"=none)(ha:PA X [a,b,d] ta)(hs:starEach [a,b,d] X.env=(false,eval a X.env)::starEach [b,d] X.env:=by rfl)
 (hpl:(backTo pos (starEach [b,d] X.env)).any (·.1)=false:=by rfl):PI X tg (.Call (.Name "range" p) [a,b,d] [] pos) (vQ ta):=by
 intro pins s Z H R I h;refine Call_ (G8 I hg hm boot_range (ui (thn (ha pos pins s Z H _ I h) fun us s1 hZ=>?_) hs hpl));obtain⟨vs,H1,I1,r1,q1⟩:=hZ;obtain⟨lo,hi,c,e,c0,c1,sm,n,hn,q⟩:=q1;subst e;cases r1 with
 | cons r rr=>
  cases rr with
  | cons r' rr=>
   cases rr with
   | cons r'' rr=>
    cases rr;obtain⟨t,rfl⟩:=r;obtain⟨t',rfl⟩:=r';obtain⟨t'',rfl⟩:=r'';refine PySem.call_range_3 (by lia) ?_ (Or.inl (PyProof.noPylong_small (by lia)));refine wpAny_pyIter_range (IsRange.new ..) sm ?_;have I2:Inv X pins Z H1 { s1 with heap:=s1.heap.push { cls:=.type "range",data:=.fields #[.int lo t,.int hi t',.int c t''] },toks:=s1.toks }:=I1.kept fun b o e=>js _ e;refine⟨(s1.heap.push { cls:=.type "range",data:=.fields #[.int lo t,.int hi t',.int c t''] }).objs.size,[(s1.heap.push { cls:=.type "range",data:=.fields #[.int lo t,.int hi t',.int c t''] }).objs.size],_,_,H1,rfl,
     I2.kept (t':=s1.toks) fun b o e=>js _ e,Xj _ lo c n,?_,fun b hb=>?_,q⟩
    ·have e1:lo+((0:Nat):Int)*c=lo:=by simp
     have e2:(n:Int)-((0:Nat):Int)=Builtin.Range.rangeSize lo hi c:=by rw[<-hn];simp
     show IsRangeIter _ _ (lo+((0:Nat):Int)*c) ((n:Int)-((0:Nat):Int)) c;rw[e1,e2];exact zw _ rfl
    ·have e:b=(s1.heap.push { cls:=.type "range",data:=.fields #[.int lo t,.int hi t',.int c t''] }).objs.size:=by simpa using hb
     subst e;exact I2.fpOk (qh _) (I2.hok.fresh (qh _))
theorem Qm{R:It->Hp->Prop}(h:ta Z H fun vs H1=>∃i j c:Int,vs=[.int i,.int j,.int c]/\0<c/\c<1073741824/\Builtin.Range.small i j c=true/\∃n:Nat,(n:Int)=Builtin.Range.rangeSize i j c/\R (cC i c n) H1):vQ ta Z H R:=h
theorem oG{a b:Int}:decide (V.int a=V.int b)=decide (a=b):=by
 rw[vv];simp
theorem pK{lo c:Int}{n:Nat}:Walk (cC lo c n) (fun _=>True) ((List.range n).map fun i=>V.int (lo+(i:Nat)*c)):=
 ⟨fun i H _ hi=>(by show i<n;simpa using hi),fun i H x H' _ y hi=>⟨y.1,by
  have hi':i<n:=by simpa using hi
  rw[y.2];simp[hi']⟩,fun i H _ hi=>(by show n<=i;simpa using hi)⟩
theorem Hh{i j c:Int}(i0:0<=i)(i1:i<4294967296)(j0:0<=j)(j1:j<4294967296)(c0:0<c)(c1:c<4294967296):Builtin.Range.small i j c=true:=by
 have e:Builtin.Range.rangeSize i j c=if i<j then (j-i-1)/c+1 else 0:=by
  unfold Builtin.Range.rangeSize;rw[xz c0]
 have b1:∀x:Int,0<=x->x/c<=x:=fun x hx=>ji7 _ hx;have b2:∀x:Int,0<=x->0<=x/c:=fun x hx=>Int.ediv_nonneg hx (by lia);unfold Builtin.Range.small;rw[e];simp only[Builtin.Range.rangeFitsLong,kc,ji1,decide_eq_true_eq,ja5,xz c0];split
 ·have:=b1 (j-i-1) (by lia);have:=b2 (j-i-1) (by lia);lia
 ·lia
theorem HW{t:TA}{l:Addr}(e:Z[i]?=some (some (.ref l)))(h:H l=some (.lst xs))
 (g:t Z H fun ys H2=>Qo (.ref l) ys H2 Q):tBM K "list" Qo (Lh i) t Z H Q:=by unfold tBM;exact K5 e ⟨.inl ⟨rfl,_,SqL.of h⟩,g⟩
theorem Nt{l:Addr}{y:V}(h:H l=some (.lst xs))(hz:xs.length<sizeLine)(q:Q .non (upd H l (.lst (xs++[y])))):Qo (.ref l) [y] H Q:=⟨l,xs,y,rfl,rfl,h,hz,q⟩
theorem Nq{g:TG}{tb:TS}{D:Ends}(h:wi Z H fun J H1=>∃W:Nat->Nat->St->Hp->Prop,(∃m,W 0 m Z H1)/\∀i m Z H,W i m Z H->
 (J.stop i H/\D.nx Z H)\/(J.go i H/\∃N:St->Hp->Prop,(∀Z' H',N Z' H'->∃m',m'<m/\W (i+1) m' Z' H')/\∀x H',J.yld i H x H'->g x Z H' fun σ2 H2=>tb { D with nx:=N,ct:=N,bk:=D.nx } σ2 H2)):zy wi g tb D Z H:=h
theorem Jp{tl:TE}{R:It->Hp->Prop}(h:tl Z H fun x H1=>∃a,x=.ref a/\(∃xs,SqL K H1 a xs)/\R (Itl K a) H1):vV K tl Z H R:=h
theorem vD{tl:TE}{R:It->Hp->Prop}(h:tl Z H fun x H1=>∃a,x=.ref a/\(∃xs,SqT K H1 a xs)/\R (Itt K a) H1):tQ K tl Z H R:=h
theorem uD{a b:Nat}:decide (V.int (a:Int)=V.int (b:Int))=decide (a=b):=by
 rw[vv,decide_eq_true_eq,decide_eq_true_eq,V.int.injEq];lia
theorem fD{l f:Nat}:V.int ((l:Int)%(f:Int))=V.int 0<->f∣l:=by
 rw[<-Qb,V.int.injEq,Nat.dvd_iff_mod_eq_zero];lia
theorem Cz{H':Hp}{l:Addr}{o:HO}(h:H l=none)(s:Ax H H'):Ax H (upd H' l o):=fun b u e=>by
 rw[Aw (Bj e h)];exact s b u e
end
noncomputable def ACl(h:Heap)(e:Addr)(cls:Value)(dd:Option Addr)(head:Value):Prop:=∃vs sl,h.get? e=some ⟨cls,dd,.fields vs,sl⟩/\vs[1]?=some head
noncomputable def XTr(h base:Heap)(e:Addr)(cls:Value)(dd:Option Addr)(fl:Value):Prop:=∃T,ACl h e cls dd (.ref T)/\base.get? T=none/\T≠e/\∃oT ts,h.get? T=some oT/\oT.data=.fields ts/\ts[3]?=some fl
structure Sea(base:Heap)(l:List Env)(e:Addr)(h:Heap):Prop where
 stays:base.StaysIn h
 new:base.get? e=none
 frames:h.FunFrames base l
section
variable{M:Model}{A:Around}{E:Value->Shared->Prop}{s:Shared}{base:Heap}{env:Env}{outer l:List Env}{L e:Addr}{cls:Value}{dd:Option Addr}
end
noncomputable def Old(fs:List Addr)(H:Hp)(h B:Heap):Prop:=∀b u,h.get? b=some u->b∉fs->∃u',B.get? b=some u'/\(H b=none->u'=u)
noncomputable def Tra(H:Hp)(h B:Heap):Prop:=∀b o,H b=some o->∃u,h.get? b=some u/\B.get? b=some u
section
variable{P:Program}{w:World}{fs:List Addr}{H H':Hp}{h h1 h2 B:Heap}
end
noncomputable def CX1(P:Program)(w:World):CXT:=fun outer H s E e s'=>∃(ea:Addr) (cls:Value) (dx:Option Addr) (B:Heap) (H':Hp),e=.ref ea/\s'.os=s.os/\AllBare s'.gens/\Un (frs outer) [] H H' s.heap s'.heap/\
 HOk P w H' s'.heap/\Sea B outer ea s'.heap/\XTr s'.heap B ea cls dx .none/\Old (frs outer) H s.heap B/\Tra H' s'.heap B/\E cls dx H'
section
variable{X:Cx}{pins:List (Addr×Obj)}{Z:St}{H H':Hp}{s:Shared}
end
section
variable{P:Program}{w:World}{K:Fr}{mg:Str->Option Value}{base:Heap}
end
structure ACt(P:Program)(w:World)(K:Fr)(mg:Str->Option Value)(base:Heap)(k:Nat)(x:Str)(ps:List Str)(sp:Sp):Prop where
 ex:∃(f:Addr) (fd:FuncData),Et P w K mg base (CX1 P w) k f fd ps sp/\Binds K fd ps []/\PySem.W.keepIn K (.ref f)=true/\mg x=some (.ref f)
section
variable{X:Cx}{EE:Value->Option Addr->St->Hp->Prop}
noncomputable abbrev bmV:List Value:=[.type "ValueError",.type "Exception",.type "BaseException",.type "object"]
end
noncomputable abbrev Cx.tr(X:Cx)(xe:Value->Shared->Prop)(pn:List (Addr×Obj)):Cx:={ X with xe:=xe,pn:=pn }
noncomputable abbrev Cx.hd(X:Cx)(e:Addr):Cx:={ X with A:=X.A.mark (some (.ref e)),calm:=false,xe:=fun _ _=>False }
section
variable{X:Cx}{pins:List (Addr×Obj)}{Z:St}{H:Hp}{s:Shared}{ea:Addr}{cls:Value}{dx:Option Addr}
end
section
variable{X:Cx}{pins:List (Addr×Obj)}{Z:St}{H:Hp}{s:Shared}
end
section
variable{X:Cx}
end
section
variable{prog:Program}{w:World}{A:Around}{E:Value->Shared->Prop}{s:Shared}{K:Fr}{x D:Addr}{ox:Obj}{odo:Option Obj}{name:Str}
end
section
variable{X:Cx}
end
structure Vr(k:Nat)(A:Around):Prop where
 dp:A.depth+3*k+5<recursionLimit
 un:A.units+16*k+200<cLine
 gd:A.guards=some []
theorem Vr.mono{j k:Nat}{A:Around}(r:Vr k A)(h:j<=k):Vr j A:=⟨by have:=r.dp;lia,by have:=r.un;lia,r.gd⟩
theorem Do.toN{k:Nat}{A:Around}(r:Do k A):Vr k A:=⟨r.dp,r.un,r.gd⟩
section
variable{P:Program}{w:World}{K:Fr}{mg:Str->Option Value}{base:Heap}
end
section
variable{X:Cx}
end
theorem Gx(a:Addr):RelV (.ref a) (.ref a):=rfl
section
variable{X:Cx}
end
section
variable{prog:Program}{w:World}{A:Around}{E:Value->Shared->Prop}{h:Heap}{g:Array GenState}{d:Drawn}{t:Nat}{os:OsState}{K:Fr}{f:Addr}
variable{nm q:Str}{C N:Addr}{bs bm:List Value}{hdct:Bool}{sn:List Str}{sub:List Value}{ab:Bool}{col:Option Bool}{dd:Option Addr}{k0 k1 k2 k3 k5:Option Value}
end
section
variable{prog:Program}{w:World}{A:Around}{E:Value->Shared->Prop}{h:Heap}{g:Array GenState}{d:Drawn}{t:Nat}{os:OsState}{K:Fr}{e:Addr}
variable{nm q:Str}{C N:Addr}{bs bm:List Value}{hdct:Bool}{sn:List Str}{sub:List Value}{ab:Bool}{col:Option Bool}{dd:Option Addr}{k0 k1 k2 k3 k5:Option Value}{newId:String}
variable{x CF:Addr}{cd:ClassData}{name:Str}{v:Value}{vs:Array Value}{sl:Array (Option Value)}
end
structure ABh(K:Fr)(C CF:Addr):Prop where
 obj:∃dd cd k0 k1 k2 k3 k5,K.lookup C=some ⟨.type "type",dd,.cls cd,#[k0,k1,k2,k3,some (.builtin "ValueError.__new__"),k5]⟩/\cd.mro=.ref C::.ref CF::bmV/\cd.hasDel=false/\cd.hasDict=true
 base:PySem.W.excIn K CF bmV "ValueError.__new__"=true
 sa:PySem.W.findIn K (.ref C) "__setattr__"=some (some (.builtin "object.__setattr__"))
section
variable{K:Fr}{C CF:Addr}{h:Heap}
theorem ABh.at(O:ABh K C CF)(KX:K.In h):∃N nm qn bs hd sn sub ab col dd k0 k1 k2 k3 k5,h.get? C=some (excClassObj nm qn C N bs (.ref CF::bmV) hd sn sub ab col dd k0 k1 k2 k3 k5 "ValueError.__new__"):=by
 obtain⟨dd,cd,k0,k1,k2,k3,k5,e,m,hdel,hd⟩:=O.obj;obtain⟨nm,bs,mro,ns,qn,hd,sn,sub,ab,col,del⟩:=cd;dsimp only at m hdel;subst m hdel;exact⟨_,_,_,_,_,_,_,_,_,_,_,_,_,_,_,KX _ _ e⟩
end
section
variable{X:Cx}{pins:List (Addr×Obj)}{Z:St}{H:Hp}{s:Shared}{h':Heap}
variable{o value:Expr}{f:Str}{pos pos':Pos}{ta tv:TE}
end
section
variable{M:Model}{A:Around}{E:Value->Shared->Prop}
end
section
variable{X:Cx}{EE:Value->Option Addr->St->Hp->Prop}
end
noncomputable def De(i:Int):Str:=Str.ofString (toString i)
noncomputable def shI(is:List Int):Str:=tupleText (is.map De)
inductive pF(K:Fr)(H:Hp):V->Str->Prop
 | int {i:Int}:i.natAbs.log2<1920->pF K H (.int i) (De i)
 | str {z:Str}:z.length<=sizeLine->pF K H (.str z) z
 | tup {a:Addr} {is:List Int}:SqT K H a (is.map V.int)->(∀i∈is,i.natAbs.log2<1920)->(shI is).length<=sizeLine->pF K H (.ref a) (shI is)
theorem shownAll_ints:∀is:List Int,PyData.shownAll (is.map PyData.int)=is.map De
 | []=>by simp[PyData.shownAll]
 | i::is=>by simp only[xk,PyData.shownAll,PyData.shown,shownAll_ints is];rfl
theorem showableAll_ints:∀is:List Int,(∀i∈is,i.natAbs.log2<1920)->PyData.showableAll (is.map PyData.int)=true
 | [],_=>by simp[PyData.showableAll]
 | i::is,h=>by
  simp only[xk,PyData.showableAll,PyData.showable,showableAll_ints is fun j hj=>h j (qr _ hj),Bool.and_true,decide_eq_true_eq];exact h i (qk ..)
theorem Jc:∀is:List Int,PyData.hasDictAll (is.map PyData.int)=false
 | []=>by simp[PyData.hasDictAll]
 | i::is=>by simp only[xk,PyData.hasDictAll,PyData.hasDict,Jc is,Bool.or_self]
theorem depthAll_ints:∀is:List Int,PyData.depthAll (is.map PyData.int)<=1
 | []=>by simp[PyData.depthAll]
 | i::is=>by
  have:=depthAll_ints is;simp only[xk,PyData.depthAll,PyData.depth];lia
theorem readsAll_ints{h:Heap}:∀{is:List Int} {us:List Value},Vals (is.map V.int) us->ReadsAll h us (is.map PyData.int) []
 | [],_,.nil=>.nil
 | i::is,_,.cons r t=>by
  obtain⟨tk,rfl⟩:=(show ∃tk,_=Value.int i tk from r);exact .cons (as:=[]) (bs:=[]) (.int i tk) (readsAll_ints t)
section
variable{X:Cx}{pins:List (Addr×Obj)}{Z:St}{H:Hp}{s:Shared}
theorem yq{k:Nat}{x:V}{u:Value}{y:Str}(hr:Vr k X.A)(I:Inv X pins Z H s)(r:RelV x u)(f:pF X.K H x y)(q:Q (.str y) H):wpAny (model X.prog X.w) X.A (formatField u Str.empty) (EP X pins Z Q) X.xe s:=by
 cases f with
 | int h=>
  obtain⟨t,rfl⟩:=(show ∃t,u=Value.int _ t from r);exact wpAny_formatField_int h ⟨.str (De _),H,I.tok _,⟨_,rfl⟩,q⟩
 | str h=>
  obtain⟨t,rfl⟩:=(show ∃t,u=Value.str y t from r);exact wpAny_formatField_str ⟨.str y,H,I,⟨_,rfl⟩,q⟩ ⟨.str y,H,I.tok _,⟨_,rfl⟩,q⟩ h
 | @tup a is hs hi hz=>
  cases (show u=Value.ref a from r);obtain⟨its,vr,⟨o,ho,hc,n,hd⟩,hl⟩:=I.tuple hs;have rd:Reads s.heap (.ref a) (.tuple (is.map PyData.int)) []:=.tuple ho hc hd (readsAll_ints vr);have e:(PyData.tuple (is.map PyData.int)).shown=shI is:=by simp only[PyData.shown,shownAll_ints];rfl
  have hdp:(PyData.tuple (is.map PyData.int)).depth<=3:=by
   have:=depthAll_ints is;simp only[PyData.depth];lia
  refine formatField_of_reads rd (by simp only[PyData.showable];exact showableAll_ints is hi) (PyData.noDict_hsm (by simp only[PyData.hasDict];exact Jc is)) hr.gd (by have:=hr.un;lia) (fun _ _ z=>z) (fun h' u tk hk=>?_) (by rw[e];exact hz);rw[e];exact⟨.str (shI is),H,I.kept hk,⟨_,rfl⟩,q⟩
end
noncomputable def jg(K:Fr)(tv:TE):TE:=fun Z H Q=>tv Z H fun x H1=>∃y,pF K H1 x y/\Q (.str y) H1
noncomputable abbrev TJ:=Str->St->Hp->VK->Prop
noncomputable def PJ(X:Cx)(es:List Expr)(t:TJ):Prop:=∀(pins:List (Addr×Obj)) (s:Shared) (Z:St) (H:Hp) (out:Str) (Q:VK),Inv X pins Z H s->t out Z H Q->wpAny (model X.prog X.w) X.A (joinParts out (evalEach es X.env)) (EP X pins Z Q) X.xe s
noncomputable def ABU:TJ:=fun out _ H Q=>out.length<=sizeLine/\Q (.str out) H
noncomputable def VL(te:TE)(t:TJ):TJ:=fun out Z H Q=>te Z H fun x H1=>∃y,x=.str y/\(out++y).length<=sizeLine/\t (out++y) Z H1 Q
noncomputable def uw(t:TJ):TE:=fun Z H Q=>t Str.empty Z H Q
section
variable{X:Cx}{k:Nat}{e e₂:Expr}{es:List Expr}{te:TE}{t:TJ}{pos:Pos}
theorem JK(hr:Vr k X.A)(h:PE X e te):PE X (.FormattedValue e (-1) none pos) (jg X.K te):=by
 intro pins s Z H Q I hw;refine FormattedValue_plain (thn (h pins s Z H _ I hw) fun u s1 hZ=>?_);obtain⟨x,H1,I1,r,y,f,q⟩:=hZ;exact yq hr I1 r f q
theorem K7:PJ X [] ABU:=fun pins s Z H out Q I h=>joinParts_nil ⟨.str out,H,I.tok _,⟨_,rfl⟩,h.2⟩ h.1
theorem Cv(h1:PE X e te)(h2:PJ X es t):PJ X (e::es) (VL te t):=by
 intro pins s Z H out Q I h;show wpAny _ _ (joinParts out (eval e X.env::evalEach es X.env)) _ _ _;refine joinParts_cons (thn (h1 pins s Z H _ I h) fun u s1 hZ=>?_);obtain⟨x,H1,I1,r,y,ex,hz,q⟩:=hZ;subst ex;obtain⟨tk,rfl⟩:=(show ∃tk,u=Value.str y tk from r);exact⟨hz,h2 pins s1 Z H1 (out++y) Q I1 q⟩
theorem JH(h:PJ X (e::e₂::es) t):PE X (.JoinedStr (e::e₂::es) pos) (uw t):=fun pins s Z H Q I hw=>JoinedStr_many (h pins s Z H Str.empty Q I hw)
end
section
variable{X:Cx}{e:Expr}{f:Str}{pos:Pos}{ta:TE}
end
section
variable{X:Cx}{EE:Value->Option Addr->St->Hp->Prop}
structure jM(P:Program)(w:World)(K:Fr)(mg:Str->Option Value)(base:Heap)(CX:CXT)(k:Nat)(C:Addr)(m:Str)(ps:List Str)(sp:Sp):Prop where
 ex:∃(f:Addr) (fd:FuncData),Et P w K mg base CX k f fd ps sp/\Binds K fd ps []/\Meth K C m f
structure jN(P:Program)(w:World)(K:Fr)(mg:Str->Option Value)(base:Heap)(CX:CXT)(k:Nat)(x:Str)(C:Addr)(ps:List Str)(sp:Sp):Prop where
 ex:∃(f:Addr) (fd:FuncData),Et P w K mg base CX k f fd ps sp/\Binds K fd ps []/\Mk K C f/\mg x=some (.ref C)
variable{C:Addr}{m x:Str}{k:Nat}{ps:List Str}{sp:Sp}{o e:Expr}{es:List Expr}{ta:TE}{t:TA}{apos pos p:Pos}
theorem DR{pl:Sem Bool}(O:jM X.prog X.w X.K X.mg X.base CX0 k C m ps sp)(c:Cls X.K C)(he:PE X o ta)(ha:PA X (e::es) t)(hr:Do k X.A:=by walk_at"hr")
 (hst:starEach (e::es) X.env=(false,eval e X.env)::starEach es X.env:=by rfl)(hpl:(backTo pos (starEach es X.env)).any (·.1)=false:=by rfl)
 (ht:eval (.Call (.Attribute o m apos) (e::es) [] pos) X.env=(do
  let ov <-eval o X.env
  standAt apos.atName
  let (f,first) <-holding [ov] (getMethod ov m pl)
  callWith pos f first (backTo pos (starEach (e::es) X.env)) (backToKw pos (keywordEach [] X.env))):=by rfl):
 PE X (.Call (.Attribute o m apos) (e::es) [] pos) (Xm C m sp [] E0 ta t):=by
 obtain⟨f,fd,F,hb,M⟩:=O.ex;exact rP (pl:=pl) he c M F hr hb .nil MJ ha hst hpl ht
theorem DG{pl:Sem Bool}(O:jM X.prog X.w X.K X.mg X.base CX0 k C m ps sp)(c:Cls X.K C)(he:PE X o ta)(hr:Do k X.A:=by walk_at"hr")
 (ht:eval (.Call (.Attribute o m apos) [] [] pos) X.env=(do
  let ov <-eval o X.env
  standAt apos.atName
  let (f,first) <-holding [ov] (getMethod ov m pl)
  callWith pos f first (backTo pos (starEach [] X.env)) (backToKw pos (keywordEach [] X.env))):=by rfl):
 PE X (.Call (.Attribute o m apos) [] [] pos) (Xm C m sp [] E0 ta Zz):=by
 obtain⟨f,fd,F,hb,M⟩:=O.ex;exact lr (pl:=pl) he c M F hr hb .nil MJ ht
theorem Gm(O:jN X.prog X.w X.K X.mg X.base CX0 k x C ps sp)(ha:PA X (e::es) t)(hr:Do (k+1) X.A:=by walk_at"hr")(hg:Gl X x:=by exact rfl)
 (hdb:(x==("__debug__":Str))=false:=by decide)(he:starEach (e::es) X.env=(false,eval e X.env)::starEach es X.env:=by rfl)(hpl:(backTo pos (starEach es X.env)).any (·.1)=false:=by rfl):
 PE X (.Call (.Name x p) (e::es) [] pos) (U0 C sp [] E0 t):=by
 obtain⟨f,fd,F,hb,M,hm⟩:=O.ex;exact dG M F hr hg hm hb .nil MJ ha hdb he hpl
end
theorem J1{i:Int}(h:i.natAbs.log2<1920):(De i).length<=1921:=by
 have e:=int_text_length_le (k:=1920) (by decide) h;unfold De;rw[PySem.ofString_length];lia
theorem fits{s:Str}{n:Nat}(h:s.length<=n)(hn:n<=100000):s.length<=sizeLine:=zv h (zv hn (by decide))
theorem Hz{t:TJ}(h:t Str.empty Z H Q):uw t Z H Q:=h
theorem JB{out:Str}(h:out.length<=sizeLine)(q:Q (.str out) H):ABU out Z H Q:=⟨h,q⟩
theorem JZ{t:TJ}{out:Str}(n:Nat)(hn:out.length<=n)(hz:n+x.length<=100000)(h:(out++x).length<=n+x.length->t (out++x) Z H Q):VL (tC (.str x)) t out Z H Q:=by
 have e:(out++x).length<=n+x.length:=by rw[strLen_append];lia
 exact⟨x,rfl,fits e hz,h e⟩
theorem Ox{j:Nat}{i:Int}{t:TJ}{out:Str}(n:Nat)(hn:out.length<=n)(hz:n+1921<=100000)(hv:Z[j]?=some (some (.int i)))(hi:i.natAbs.log2<1920)(h:(out++De i).length<=n+1921->t (out++De i) Z H Q):
 VL (jg K (Lh j)) t out Z H Q:=by
 have e:(out++De i).length<=n+1921:=by have:=J1 hi;rw[strLen_append];lia
 unfold VL jg;exact K5 hv ⟨De i,.int hi,De i,rfl,fits e hz,h e⟩
theorem AAs{j:Nat}{z:Str}{t:TJ}{out:Str}(n m:Nat)(hn:out.length<=n)(hm:z.length<=m)(hz:n+m<=100000)(hv:Z[j]?=some (some (.str z)))(h:(out++z).length<=n+m->t (out++z) Z H Q):
 VL (jg K (Lh j)) t out Z H Q:=by
 have e:(out++z).length<=n+m:=by rw[strLen_append];lia
 unfold VL jg;exact K5 hv ⟨z,.str (fits hm (by lia)),z,rfl,fits e hz,h e⟩
section
variable{X:Cx}
theorem xT{j:Nat}{D:Ends}(h:ta Z H fun vs H1=>∃v w,vs=[v,w]/\D.nx ((Z.set i (some v)).set j (some w)) H1):zg i j ta D Z H:=h
theorem JC{t:TT}{ta tb:TE}(h:t Z H fun c H1=>if c=true then ta Z H1 Q else tb Z H1 Q):tIf t ta tb Z H Q:=h
noncomputable def ACV(K:Fr):List V->Hp->VK->Prop:=fun xs H Q=>∃(p:Addr) (ns:List Int),xs=[.ref p]/\SqL K H p (ns.map V.int)/\Q (.int ns.sum) H
theorem SJ(hc:X.calm=true):HD X (.builtin "sum") (ACV X.K):=by
 intro pins s Z H xs us Q I r h;obtain⟨p,ns,rfl,hq,q⟩:=h;obtain⟨u,rfl,ru⟩:=vals1 r;cases (show u=Value.ref p from ru);obtain⟨its,rv,pl,_⟩:=I.list hq;have hi:=intsAre_of rv;obtain⟨xs,hx⟩:=hi.allInts.items;have hl':s.heap.IsList p (intItems xs):=hx ▸ pl.isList;refine sum_intListG (I.ok.hd hc) hl' fun h' tk t' hk=>?_;have e1:ns=xs.toList.map (·.1):=by
  rw[<-nums_intItems,<-hx];exact(show numsOf its.toArray.toList=ns from hi.numsOf).symm
 have e2:preSum (numAt xs) xs.size=ns.sum:=by
  rw[preSum_eq,yy (by simp),e1]
 rw[e2];exact⟨.int ns.sum,H,I.kept hk,⟨_,rfl⟩,q⟩
noncomputable def AAy(K:Fr):List V->Hp->VK->Prop:=fun xs H Q=>∃(p:Addr) (ns:List Int),xs=[.ref p]/\SqL K H p (ns.map V.int)/\ns≠[]/\∀m,m∈ns->(∀a∈ns,m<=a)->Q (.int m) H
noncomputable def AAz(K:Fr):List V->Hp->VK->Prop:=fun xs H Q=>∃(p:Addr) (ns:List Int),xs=[.ref p]/\SqL K H p (ns.map V.int)/\ns≠[]/\∀m,m∈ns->(∀a∈ns,a<=m)->Q (.int m) H
theorem jA(hc:X.calm=true):HD X (.builtin "min") (AAy X.K):=by
 intro pins s Z H xs us Q I r h;obtain⟨p,ns,rfl,hq,hne,q⟩:=h;obtain⟨u,rfl,ru⟩:=vals1 r;cases (show u=Value.ref p from ru);obtain⟨its,rv,pl,_⟩:=I.list hq;have hi:=intsAre_of rv;obtain⟨xs,e⟩:=hi.allInts.items;have hns:ns=xs.toList.map (·.1):=by
  rw[<-nums_intItems,<-e];exact(show numsOf its.toArray.toList=ns from hi.numsOf).symm
 have hsz:0<xs.size:=by
  have h3:=List.length_pos_iff.mpr hne;rw[hns,jp,ko] at h3;exact h3
 have hl':s.heap.IsList p (intItems xs):=e ▸ pl.isList;refine min_intList (I.ok.hd hc) hl' hsz fun v h' tk hv hk=>?_;obtain⟨t,rfl⟩:=intItems_at hv;obtain⟨h1,h2⟩:=argBest_lt (numAt xs) (xs.size-1);refine⟨.int _,H,I.kept hk,⟨_,rfl⟩,q _ ?_ fun a ha=>?_⟩
 ·rw[hns,numAt_eq];exact getD_mem (by rw[jp,ko];lia)
 ·rw[hns] at ha;obtain⟨j,hj,rfl⟩:=mem_getD ha;rw[jp,ko] at hj;rw[<-numAt_eq];exact h2 j (by lia)
theorem jC(hc:X.calm=true):HD X (.builtin "max") (AAz X.K):=by
 intro pins s Z H xs us Q I r h;obtain⟨p,ns,rfl,hq,hne,q⟩:=h;obtain⟨u,rfl,ru⟩:=vals1 r;cases (show u=Value.ref p from ru);obtain⟨its,rv,pl,_⟩:=I.list hq;have hi:=intsAre_of rv;obtain⟨xs,e⟩:=hi.allInts.items;have hns:ns=xs.toList.map (·.1):=by
  rw[<-nums_intItems,<-e];exact(show numsOf its.toArray.toList=ns from hi.numsOf).symm
 have hsz:0<xs.size:=by
  have h3:=List.length_pos_iff.mpr hne;rw[hns,jp,ko] at h3;exact h3
 have hl':s.heap.IsList p (intItems xs):=e ▸ pl.isList;refine max_intList (I.ok.hd hc) hl' hsz fun v h' tk hv hk=>?_;obtain⟨t,rfl⟩:=intItems_at hv;obtain⟨h1,h2⟩:=argBest_gt (numAt xs) (xs.size-1);refine⟨.int _,H,I.kept hk,⟨_,rfl⟩,q _ ?_ fun a ha=>?_⟩
 ·rw[hns,numAt_eq];exact getD_mem (by rw[jp,ko];lia)
 ·rw[hns] at ha;obtain⟨j,hj,rfl⟩:=mem_getD ha;rw[jp,ko] at hj;rw[<-numAt_eq];exact h2 j (by lia)
end
section
variable{X:Cx}{M:List Str}{x:Str}{scope:Scope}{cl:List (Str×Addr)}{C:Addr}{s₀:Shared}{H₀:Hp}{fp:List Addr}
theorem N8:IxR (Dq X M x scope cl C s₀ H₀ fp) (rN X.K):=Ck
theorem Gz:IxR (Dq X M x scope cl C s₀ H₀ fp) (rM X.K):=Ho
end
section
variable{X:Cx}{tg:Expr}
end
section
variable{X:Cx}
noncomputable def vH:V->List V->Hp->VK->Prop:=fun x vs H Q=>∃n:Int,x=.int n/\vs=[]/\Q (.int ((Builtin.Int.intBits n:Nat):Int)) H
theorem Wt:MtR X "int.bit_length" vH:=by
 intro pins s Z H x vs v us Q I rx rv h;obtain⟨n,rfl,rfl,q⟩:=h;obtain⟨t,rfl⟩:=rx;cases rv.zero;exact call_int_bit_length ⟨.int _,H,I.tok _,⟨_,rfl⟩,q⟩
end
theorem lQ{n:Int}(h:Q (.int ((Builtin.Int.intBits n:Nat):Int)) H):tyV K "int" (.int n) H/\vH (.int n) [] H Q:=⟨rfl,n,rfl,rfl,h⟩
theorem xj{T:String}{r:V->List V->Hp->VK->Prop}{to:TE}(h:to Z H fun x H1=>tyV K T x H1/\r x [] H1 Q):AAH K T r to Z H Q:=h
theorem Oz{T:String}{r:V->List V->Hp->VK->Prop}{to:TE}{t:TA}(h:to Z H fun x H1=>tyV K T x H1/\t Z H1 fun xs H2=>r x xs H2 Q):tBM K T r to t Z H Q:=h
theorem Nr{t:TA}{l:Addr}(e:Z[i]?=some (some (.ref l)))(h:H l=some (.lst xs))
 (g:t Z H fun ys H2=>Qn (.ref l) ys H2 Q):tBM K "list" Qn (Lh i) t Z H Q:=by unfold tBM;exact K5 e ⟨.inl ⟨rfl,_,SqL.of h⟩,g⟩
theorem J2{b:Nat}(h:b≠0):Builtin.Int.intBits (b:Int)=b.log2+1:=by
 unfold Builtin.Int.intBits;rw[yv (by simp;lia),jf2]
theorem Te{b:Nat}(h:b≠0):Builtin.bitAnd (b:Int) (-(b:Int))=(b:Int)-((b &&& (b-1):Nat):Int):=by
 unfold Builtin.bitAnd;rw[decide_eq_true (Int.natCast_nonneg b),decide_eq_false (by lia)];show(b:Int)-(((b:Int).toNat &&& (Builtin.bitNot (-(b:Int))).toNat:Nat):Int)=_;unfold Builtin.bitNot;rw[zk,show(-(-(b:Int))-1).toNat=b-1 by lia]
theorem rC{to ti:TE}{t:uY}{v:V}{Q:St->Hp->Prop}(h:to Z H fun o H1=>ti Z H1 fun i H2=>t o i v H2 fun H3=>Q Z H3):ABX to ti t v Z H Q:=h
theorem tL{m k:Nat}(h:k<m):ixN m (k:Int)=some k:=by
 unfold ixN;rw[xz (by lia),xz (by lia),zk]
theorem cX{p:Addr}{k:Nat}{v:V}{Q:Hp->Prop}(h:H p=some (.lst xs))(hk:k<xs.length)(q:Q (upd H p (.lst (xs.set k v)))):vG (.ref p) (.int (k:Int)) v H Q:=
 ⟨p,xs,k,k,rfl,rfl,h,tL hk,q⟩
theorem aM{l:Addr}{k:Int}(h:H l=some (.lst xs))(h0:0<=k)(h1:k<2^60)(hz:xs.length*k.toNat<=sizeLine)(q:∀p,H p=none->Q (.ref p) (upd H p (.lst (List.replicate k.toNat xs).flatten))):AAx (.ref l) (.int k) H Q:=
 ⟨l,k,xs,rfl,rfl,h,by lia,by lia,hz,q⟩
theorem xg{l b:Addr}{zs:List V}(h:H l=some (.lst xs))(g:H b=some (.lst zs))(hz:xs.length+zs.length<=sizeLine)(q:∀p,H p=none->Q (.ref p) (upd H p (.lst (xs++zs)))):ABG (.ref l) (.ref b) H Q:=
 ⟨l,b,xs,zs,rfl,rfl,h,g,hz,q⟩
theorem LQ{lo c:Int}{n:Nat}{g:TG}{tb:TS}{D:Ends}(Pv:Nat->St->Hp->Prop)(h0:Pv 0 Z H)
 (hs:∀i Z H,i<n->Pv i Z H->g (.int (lo+i*c)) Z H fun σ2 H2=>tb { D with nx:=Pv (i+1),ct:=Pv (i+1),bk:=D.nx } σ2 H2)(hd:∀Z H,Pv n Z H->D.nx Z H):
 ∃W:Nat->Nat->St->Hp->Prop,(∃m,W 0 m Z H)/\∀i m Z H,W i m Z H->
  ((cC lo c n).stop i H/\D.nx Z H)\/((cC lo c n).go i H/\∃N:St->Hp->Prop,(∀Z' H',N Z' H'->∃m',m'<m/\W (i+1) m' Z' H')/\∀x H',(cC lo c n).yld i H x H'->g x Z H' fun σ2 H2=>tb { D with nx:=N,ct:=N,bk:=D.nx } σ2 H2):=by
 refine⟨fun i m Z H=>m=n-i/\i<=n/\Pv i Z H,⟨n,by simp,ka _,h0⟩,?_⟩;rintro i m Z H ⟨rfl,hi,p⟩;by_cases hlt:i<n
 ·refine .inr ⟨hlt,Pv (i+1),fun Z' H' p'=>⟨n-(i+1),by lia,rfl,hlt,p'⟩,fun x H' y=>?_⟩;obtain⟨e,y⟩:=y;subst e y;exact hs i Z _ hlt p
 ·have e:i=n:=by lia
  subst e;exact .inl ⟨qh _,hd Z H p⟩
theorem Gf{i j c:Int}(c0:0<c):Builtin.Range.rangeSize i j c=if i<j then (j-i-1)/c+1 else 0:=by
 unfold Builtin.Range.rangeSize;rw[xz c0]
noncomputable def uq(ta:TE):TT:=fun Z H Q=>ta Z H fun x H'=>∃i:Int,x=.int i/\Q (i != 0) H'
theorem xP{ta:TE}{Q:Bool->Hp->Prop}(h:ta Z H fun x H'=>∃i:Int,x=.int i/\Q (i != 0) H'):uq ta Z H Q:=h
theorem yD{X:Cx}{a:Expr}{ta:TE}(ha:PE X a ta)(he:∀whole,isTrue a X.env whole=(do let v <-whole;standAt a.pos;holding [v] (truthy v))):PT X a (uq ta):=by
 intro pins s Z H Q I h;refine isTrue_plain (thn (ha pins s Z H _ I h) fun v s1 hZ=>?_) (he _);obtain⟨x,H1,I1,r1,q1⟩:=hZ;obtain⟨i,rfl,q⟩:=q1;exact vy pins s1 Z H1 _ v Q I1 r1 ⟨_,rfl,q⟩
section
variable{X:Cx}{M:List Str}{x:Str}{scope:Scope}{cl:List (Str×Addr)}{C:Addr}{s₀:Shared}{H₀:Hp}{fp:List Addr}
theorem SM:HD (Dq X M x scope cl C s₀ H₀ fp) (.builtin "len") (fun xs H Q=>∃p ys,xs=[.ref p]/\(SqL X.K H p ys\/SqT X.K H p ys)/\Q (.int ys.length) H):=BK
end
variable{α:Type}
theorem Ze{xs:List α}{v:α}(h:xs[xs.length-1]?=some v):atI xs (-1)=some v:=by
 have hl:0<xs.length:=Nat.pos_of_ne_zero fun z=>by
  rw[jd1 (by lia)] at h;cases h
 unfold atI ixN;rw[yv (by decide),xz (by lia),show(-1+(xs.length:Int)).toNat=xs.length-1 by lia];exact h
theorem zM{xs:List Int}{k:Nat}{x:Int}(h:xs[k]?=some x):(xs.map V.int)[k]?=some (V.int x):=by rw[xc,h];rfl
theorem lH{r:V->Option Int->Option Int->Hp->VK->Prop}{tl th:TO}(h:te Z H fun x H1=>tl Z H1 fun l H2=>th Z H2 fun u H3=>r x l u H3 Q):tSl r te tl th Z H Q:=h
theorem Np{a:Addr}{lo hi:Option Int}(h:SqL K H a xs)(q:∀p,H p=none->Q (.ref p) (upd H p (.lst (J5 xs lo hi)))):AAw K (.ref a) lo hi H Q:=⟨a,xs,rfl,h,q⟩
theorem iu(xs:List Int)(k:Nat):J5 (xs.map V.int) (some (k:Int)) none=(xs.drop k).map V.int:=by
 unfold J5;rw[HT.sIx_nat,HT.sIx_none,jp,List.map_drop];by_cases h:k<=xs.length
 ·rw[Nat.min_eq_left h,yy (by rw[ja8,jp];lia)]
 ·rw[Nat.min_eq_right (by lia),uk (by rw[jp];lia),uk (by rw[jp];lia),List.take_nil]
theorem q9{t:TE}{Q:Option Int->Hp->Prop}(h:t Z H fun x H1=>∃i,x=.int i/\Q (some i) H1):ut t Z H Q:=h
theorem xf{i:Int}{P:Int->Prop}(h:P i):∃j,V.int i=.int j/\P j:=⟨i,rfl,h⟩
theorem gP{Q:Option Int->Hp->Prop}(h:Q none H):cM Z H Q:=h
section
variable{X:Cx}
noncomputable def tLR(ta:TA):TE:=fun Z H Q=>ta Z H fun vs H1=>∃(i j c:Int) (n:Nat),(vs=[.int i,.int j,.int c]\/(vs=[.int i,.int j]/\c=1))/\0<c/\c<1073741824/\Builtin.Range.small i j c=true/\Builtin.Range.rangeSize i j c=(n:Int)/\n<=1000000/\
 ∀l,H1 l=none->Q (.ref l) (upd H1 l (.lst ((List.range n).map fun(k:Nat)=>V.int (i+(k:Int)*c))))
theorem HY{lo c:Int}:∀(acc:List Value) (k:Nat),(∀(j:Nat) (v:Value),acc[j]?=some v->∃t,v=.int (lo+((k+j:Nat):Int)*c) t)->Vals ((List.range' k acc.length).map fun(i:Nat)=>V.int (lo+(i:Int)*c)) acc
 | [],k,_=>.nil
 | v::acc,k,h=>by
  rw[qq,List.range'_succ,xk];refine .cons ?_ (HY acc (k+1) fun j u hu=>?_)
  ·obtain⟨t,ht⟩:=h 0 v (by simp);exact⟨t,by rw[ht];simp⟩
  ·obtain⟨t,ht⟩:=h (j+1) u (by simpa using hu);exact⟨t,by rw[ht,show k+(j+1)=k+1+j by lia]⟩
theorem Kr{pins:List (Addr×Obj)}{s:Shared}{r:Addr}{i j c:Int}{t u v:Tok}{n:Nat}(hc:X.calm=true)(I:Inv X pins Z H s)(hr:IsRange s.heap r i j c t u v)(sm:Builtin.Range.small i j c=true)(hn:Builtin.Range.rangeSize i j c=(n:Int))(hz:n<=1000000)
 (q:∀l,H l=none->Q (.ref l) (upd H l (.lst ((List.range n).map fun(k:Nat)=>V.int (i+(k:Int)*c))))):wpAny (model X.prog X.w) X.A (call (.type "list") [.ref r]) (EP X pins Z Q) X.xe s:=by
 refine call_list_range (I.ok.hd hc) hr sm hn (by lia) fun h' tk acc' c' hk hS' hacc=>?_;have ha:acc'.toList.length=n:=by simpa using hacc.1
 refine⟨.ref _,_,I.laid (a:=s.heap.objs.size) (o:=.lst ((List.range n).map fun(k:Nat)=>V.int (i+(k:Int)*c))) hk (qh _) ⟨?_,acc'.toList,c',?_,by simpa using hS'⟩,rfl,q _ I.fresh⟩
 ·rw[jp,uu,sizeLine_eq];lia
 ·have:=HY (lo:=i) (c:=c) acc'.toList 0 fun j v hv=>by rw[Nat.zero_add];exact hacc.2 j v (by simpa using hv)
  rw[ha,<-List.range_eq_range'] at this;exact this
theorem aU{a b d:Expr}{p p2 pos2:Pos}(hc:X.calm=true)(hgl:Gl X "list")(hml:X.mg "list"=none)(hgr:Gl X "range")(hmr:X.mg "range"=none)(ha:PA X [a,b,d] ta)
 (hs:starEach [a,b,d] X.env=(false,eval a X.env)::starEach [b,d] X.env:=by rfl)(hpl:(backTo pos2 (starEach [b,d] X.env)).any (·.1)=false:=by rfl)
 (hs1:starEach [.Call (.Name "range" p2) [a,b,d] [] pos2] X.env=(false,eval (.Call (.Name "range" p2) [a,b,d] [] pos2) X.env)::starEach [] X.env:=by rfl):
 PE X (.Call (.Name "list" p) [.Call (.Name "range" p2) [a,b,d] [] pos2] [] pos) (tLR ta):=by
 intro pins s Z H Q I h;refine jc1 (G8 I hgl hml boot_list ?_ (by decide) (by decide));refine ui ?_ hs1 rfl;rw[hs1];show wpAny _ _ (spliced ((false,eval _ X.env)::backTo pos (starEach [] X.env))) _ _ s;refine Calls.spliced_cons ?_;refine Call_ (G8 I hgr hmr boot_range (ui (thn (ha pos2 pins s Z H _ I h) fun us s1 hZ=>?_) hs hpl));obtain⟨vs,H1,I1,r1,q1⟩:=hZ;obtain⟨i,j,c,n,e,c0,c1,sm,hn,hz,q⟩:=q1;rcases e with e | ⟨e,rfl⟩
 ·subst e;cases r1 with
  | cons r rr=>
   cases rr with
   | cons r' rr=>
    cases rr with
    | cons r'' rr=>
     cases rr;obtain⟨t,rfl⟩:=r;obtain⟨t',rfl⟩:=r';obtain⟨t'',rfl⟩:=r'';refine PySem.call_range_3 (by lia) ?_ (Or.inl (PyProof.noPylong_small (by lia)));refine Calls.spliced_nil ?_;have I2:Inv X pins Z H1 { s1 with heap:=s1.heap.push { cls:=.type "range",data:=.fields #[.int i t,.int j t',.int c t''] },toks:=s1.toks }:=I1.kept fun b o e=>js _ e;exact Kr hc I2 (IsRange.new ..) sm hn hz q
 ·subst e;cases r1 with
  | cons r rr=>
   cases rr with
   | cons r' rr=>
    cases rr;obtain⟨t,rfl⟩:=r;obtain⟨t',rfl⟩:=r';refine call_range_2 ?_;refine Calls.spliced_nil ?_;have I2:Inv X pins Z H1 { s1 with heap:=s1.heap.push { cls:=.type "range",data:=.fields #[.int i t,.int j t',.int 1 s1.toks] },toks:=s1.toks+1 }:=I1.kept fun b o e=>js _ e;exact Kr hc I2 (IsRange.new ..) sm hn hz q
end
theorem AAr(h:ta Z H fun vs H1=>∃(i j c:Int) (n:Nat),(vs=[.int i,.int j,.int c]\/(vs=[.int i,.int j]/\c=1))/\0<c/\c<1073741824/\Builtin.Range.small i j c=true/\Builtin.Range.rangeSize i j c=(n:Int)/\n<=1000000/\
 ∀l,H1 l=none->Q (.ref l) (upd H1 l (.lst ((List.range n).map fun(k:Nat)=>V.int (i+(k:Int)*c))))):tLR ta Z H Q:=h
theorem Hr{J:It}{ok:Hp->Prop}(Wk:Walk J ok xs)(hz:xs.length<sizeLine)(Pv:Addr->Nat->List V->Hp->Prop)
 (h0:∀D,H D=none->Pv D 0 [] (upd H D (.lst [])))
 (hD:∀D i ys H2,H D=none->Pv D i ys H2->H2 D=some (.lst ys)/\ys.length<=i/\ok H2)
 (hs:∀D i x ys H2,H D=none->xs[i]?=some x->Pv D i ys H2->tt (some x::Z) H2 fun b H4=>if b=true then te (some x::Z) H4 fun y H5=>H5 D=some (.lst ys)/\Pv D (i+1) (ys++[y]) (upd H5 D (.lst (ys++[y]))) else Pv D (i+1) ys H4)
 (h:∀D ys H2,H D=none->Pv D xs.length ys H2->Q (.ref D) H2):eZ tt te Z Q J H:=by
 intro D hD0;refine⟨fun i m ys H2=>i<=xs.length/\m=xs.length-i/\Pv D i ys H2,⟨_,ka _,rfl,h0 D hD0⟩,?_⟩;rintro i m ys H2 ⟨hi,rfl,p⟩;obtain⟨d1,d2,d3⟩:=hD D i ys H2 hD0 p;refine⟨d1,?_⟩;by_cases hlt:i<xs.length
 ·refine .inr ⟨Wk.go i _ d3 hlt,by lia,xs.length-(i+1),by lia,fun x H3 hy=>?_⟩;obtain⟨e3,ex⟩:=Wk.yld i _ x H3 d3 hy hlt;subst e3;have:=hs D i x ys H3 hD0 ex p;refine cast ?_ this
  congr 1
  funext b H4
  cases b with
  | false=>simp only[Bool.false_eq_true,if_false];exact propext ⟨fun z=>⟨hlt,trivial,z⟩,fun z=>z.2.2⟩
  | true=>
   simp only[if_true]
   congr 1
   funext y H5
   exact propext ⟨fun z=>⟨z.1,hlt,trivial,z.2⟩,fun z=>⟨z.1,z.2.2.2⟩⟩
 ·have e:i=xs.length:=by lia
  subst e;exact .inl ⟨Wk.stop _ _ d3 (qh _),h D ys H2 hD0 p⟩
noncomputable def Cy(X:Cx)(M:List Str)(xs:List Str)(scope:Scope)(cl:List (Str×Addr))(C:Addr)(s₀:Shared)(H₀:Hp)(fp:List Addr):Cx:=
 { X with N:=xs++M,s₀:=s₀,H₀:=H₀,env:=compEnvC scope cl C X.env,outer:=X.stack,ex:=fp,fn:=fun _=>false,pn:=[],xe:=fun _ _=>False }
structure Qu(X:Cx)(M:List Str)(xs:List Str)(scope:Scope)(cl:List (Str×Addr)):Prop where
 clos:closureFor scope X.env=pure cl
 cell:∀y∈scope.names,y.2≠.cell
 kind:scope.kind=.function
 names:∀y∈scope.names,y.2=.local->scope.names.lookup y.1=some .local
 xl:∀x∈xs,scope.names.lookup x=some .local
 nd:(xs++M).Nodup
 len:M.length=X.N.length
 sub:∀y c,cl.lookup y=some c->X.env.cells.lookup y=some c
 has:∀y,((relabel scope X.env).names.lookup y=some .cell\/(relabel scope X.env).names.lookup y=some .free)->∃c,cl.lookup y=some c
 vis:∀(i:Nat) (y:Str),M[i]?=some y->Vis (relabel scope X.env) y->X.N[i]?=some y/\((relabel scope X.env).names.lookup y=some .cell\/(relabel scope X.env).names.lookup y=some .free)/\(X.env.scope.names.lookup y=some .cell\/X.env.scope.names.lookup y=some .free)
section
variable{X:Cx}
theorem oM{M:List Str}{pins:List (Addr×Obj)}{s:Shared}{xs:List Str}{cl:List (Str×Addr)}{C:Addr}{fp:List Addr}(I:Inv X pins Z H s)(ok:Qu X M xs scope cl)(hC:s.heap.objs.size<=C)
 (hf:∀b∈fp,Ih X pins H b)(hb:∀b∈fp,b<s.heap.objs.size):(Cy X M xs scope cl C s H fp).Ok where
 mod:=I.ok.mod
 kind:=ok.kind
 glob:=I.ok.glob
 blt:=I.ok.blt
 above:=hC
 inj:=fun y z c h1 h2=>I.ok.inj y z c (ok.sub y c h1) (ok.sub z c h2)
 has:=ok.has
 cab:=fun y c h=>by cases h
 hd:=I.ok.hd
 frames:=I.ok.frames
 stk:=.inl rfl
 exf:=fun b h=>⟨uj (xh (hb b h) hC),fun y c e=>(hf b h).2.2.2.2.1 y c (ok.sub y c e)⟩
 bs:=I.bs
 bsz:=zv I.ok.bsz I.sz
 noex:=fun b o e h=>by
  rcases(hf b h).2.2.2.1 with z | z
  ·exact I.ok.noex b o e z
  ·exact absurd (xh (zo (I.ok.bs b o e).1) z) (jc9 _)
 exfs:=fun b h z=>by
  rcases qm.mp (I.stkSub b z) with e | e
  ·exact(hf b h).2.1 e
  ·exact(hf b h).2.2.1 e
 funs:=I.stack
 frf:=I.stkFree
noncomputable def Th(k:Nat)(g:TG)(tt:TT)(te:TE)(Z:St)(Q:VK):It->Hp->Prop:=fun J H1=>∀D,H1 D=none->∃W:Nat->Nat->List V->Hp->Prop,(∃m,W 0 m [] (upd H1 D (.lst [])))/\
 ∀i m ys H2,W i m ys H2->H2 D=some (.lst ys)/\((J.stop i H2/\Q (.ref D) H2)\/(J.go i H2/\ys.length<sizeLine/\∃m',m'<m/\∀x H3,J.yld i H2 x H3->∀ρ:St,ρ.length=k->
  g x (ρ++Z) H3 fun σ2 H4=>∃ρ2:St,ρ2.length=k/\σ2=ρ2++Z/\tt σ2 H4 fun b H5=>if b=true then te σ2 H5 fun y H6=>H6 D=some (.lst ys)/\W (i+1) m' (ys++[y]) (upd H6 D (.lst (ys++[y]))) else W (i+1) m' ys H5))
noncomputable def ji(k:Nat)(wi:TI)(g:TG)(tt:TT)(te:TE):TE:=fun Z H Q=>wi Z H (Th k g tt te Z Q)
section
variable{prog:Program}{w:World}{A:Around}{R:Result->Shared->Prop}
noncomputable abbrev NB(prog:Program)(w:World)(A:Around)(env:Env)(R:Result->Shared->Prop):Value->Shared->Prop:=notedBy (model prog w) A env fun e s'=>R (.error e) s'
theorem bQ{s:Shared}{tg:Expr}{ifs:List Expr}{it acc:Value}{env:Env}(I:Nat->Shared->Prop)
 (turn:∀n s,I n s->wpAny (model prog w) A (pyNext it)
  (fun r s1=>match r with
   | none=>R (.ok .next) s1
   | some v=>wpAny (model prog w) A (letOwnedTupleGo tg it v)
    (fun _ s2=>wpAny (model prog w) A (assign tg env v)
     (fun _ s3=>wpAny (model prog w) A (forIn ifs true fun c r=>if r=true then (isTrue c env (eval c env) >>= fun ok=>pure (ForInStep.yield ok)) else pure (ForInStep.yield r))
      (fun b s4=>if b=true then wpAny (model prog w) A (eval elt env)
       (fun x s5=>wpAny (model prog w) A (call (.builtin "list.append") [acc,x]) (fun _ s6=>∃m,m<n/\I m s6) (NB prog w A env R) s5) (NB prog w A env R) s4
       else ∃m,m<n/\I m s4) (NB prog w A env R) s3) (NB prog w A env R) s2) (NB prog w A env R) s1) (NB prog w A env R) s)
 (n:Nat)(h:I n s):codeAny (model prog w) A (.compLoop (.ListComp elt [⟨tg,iter,ifs,0⟩] scope pos) 0 it acc env) R s:=by
 refine codeAny_loop rfl I (fun n s hI=>?_) n h;refine(show wpAny _ A ((compTurn (.ListComp elt [⟨tg,iter,ifs,0⟩] scope pos) 0 it acc env).onRaise _) _ _ s from wpAny_noted ?_);rw[compTurn_list];refine jv (wpAny_standAt (jv (kq (turn n s hI) (fun r s1 h1=>?_) fun _ _ z=>z)));cases r with
 | none=>exact xp h1
 | some v=>
  refine jv (kq h1 (fun _ s2 h2=>?_) fun _ _ z=>z);refine jv (kq h2 (fun _ s3 h3=>jv (kq h3 (fun b s4 h4=>?_) fun _ _ z=>z)) fun _ _ z=>z);cases b with
  | false=>exact xp ⟨rfl,h4⟩
  | true=>
   refine jv (jv (kq h4 (fun x s5 h5=>?_) fun _ _ z=>z));exact jv (kq h5 (fun _ s6 h6=>xp (xp ⟨rfl,h6⟩)) fun _ _ z=>z)
end
theorem bT{M:List Str}{tg:Expr}{xs:List Str}{ifs:List Expr}{cl:List (Str×Addr)}{g:TG}(hc:X.calm=true)(ok:Qu X M xs scope cl)
 (ht:∀C s₀ H₀ fp,bz (Cy X M xs scope cl C s₀ H₀ fp) ifs tt)(hg:∀C s₀ H₀ fp,PG (Cy X M xs scope cl C s₀ H₀ fp) tg g)(he:∀C s₀ H₀ fp,PE (Cy X M xs scope cl C s₀ H₀ fp) elt te)
 {pins:List (Addr×Obj)}{Z:St}{H2:Hp}{s2:Shared}{it:Addr}{fp:List Addr}{tn:Nat->Heap->Prop}{J:It}{Q:VK}(I2:Inv X pins Z H2 s2)(T:Turn X.prog X.w X.K tg J fp it tn)(st2:tn 0 s2.heap)(f2:∀b∈fp,Ih X pins H2 b)
 (hW:Th xs.length g tt te Z Q J H2)(post:Value->Addr->Result->Shared->Prop)
 (fin:∀D C H3 s4,Inv X pins Z H3 s4->(∃m,s4.heap.Ns C m)->Ih X pins H3 C->Q (.ref D) H3->post (.ref D) C (.ok .next) s4):
 wpAny (model X.prog X.w) X.A (newList []) (fun acc s₃=>wpAny (model X.prog X.w) X.A (newFunctionEnv scope X.env.globals cl [] X.env.qual none .none (some X.env)) (fun cenv s₄=>
  codeAny (model X.prog X.w) X.A (.compStart (.ListComp elt [⟨tg,iter,ifs,0⟩] scope pos) 0 (.ref it) acc { cenv with scope:=relabel scope X.env }) (post acc cenv.locals) s₄) X.xe s₃) X.xe s2:=by
 refine wpAny_newObj_type (wpAny_newFunctionEnv ok.cell (by intro y hy;simp at hy) (fun h₁ hns₁ hsb₁=>?_) ok.kind);dsimp only at hns₁ hsb₁ ⊢;generalize hH2:s2.heap.push { cls:=.type "list",dict:=none,data:=.seq ([]:List Value).toArray }=G2 at hns₁ hsb₁ ⊢;have hC:G2.objs.size=s2.heap.objs.size+1:=by rw[<-hH2,jf8]
 have hDC:s2.heap.objs.size≠G2.objs.size:=by rw[hC];exact uj (jj0 _)
 have hCle:s2.heap.objs.size<=G2.objs.size:=by rw[hC];exact Nat.le_succ _
 have below:∀b,b<s2.heap.objs.size->b≠G2.objs.size/\b≠s2.heap.objs.size:=fun b hb=>⟨by rw[hC];exact uj (Nat.lt_succ_of_lt hb),uj hb⟩;have old:∀b o,s2.heap.get? b=some o->h₁.get? b=some o:=fun b o e=>hsb₁.extBut b o (below b (zo e)).1 (js _ (hH2 ▸ js _ e));have hacc:h₁.get? s2.heap.objs.size=some { cls:=.type "list",data:=.seq ([]:List Value).toArray }:=hsb₁.extBut _ _ hDC (js _ (hH2 ▸ zw _ rfl));have fpb:∀b∈fp,b<s2.heap.objs.size:=fun b hb=>by
  obtain⟨o,e,_⟩:=T.obj _ _ st2 b hb;exact zo e
 have hD0:H2 s2.heap.objs.size=none:=I2.hok.fresh (qh _);have hC0:H2 G2.objs.size=none:=I2.hok.fresh hCle;generalize hDD:s2.heap.objs.size=D at*
 generalize hCC:G2.objs.size=C at*
 obtain⟨W,⟨m0,w0⟩,turn⟩:=hW D hD0;have okX:(Cy X M xs scope cl C s2 H2 fp).Ok:=oM I2 ok (by rw[hDD];exact hCle) f2 (by rw[hDD];exact fpb);have lenN:(List.replicate xs.length none++Z:St).length=(Cy X M xs scope cl C s2 H2 fp).N.length:=by
  show(List.replicate xs.length none++Z).length=(xs++M).length;rw[qf,qf,jb2,I2.len,ok.len]
 have locs:∀(h':Heap) (m:Str->Option Value),(∀y c,X.env.cells.lookup y=some c->∀v,s2.heap.IsCell c v->h'.IsCell c v)->
  ∀(j:Nat) (y:Str) (v:V),(xs++M)[j]?=some y->(List.replicate xs.length none++Z:St)[j]?=some (some v)->Vis (relabel scope X.env) y->∃u,RelV v u/\Look (compEnvC scope cl C X.env) h' m y u:=by
  intro h' m hcell j y v e1 e2 e3;rcases Nat.lt_or_ge j xs.length with jl | jl
  ·rw[List.getElem?_append_left (by rw[jb2];exact jl),List.getElem?_replicate,xz jl] at e2;cases e2
  ·obtain⟨i,rfl⟩:∃i,j=xs.length+i:=⟨j-xs.length,by lia⟩;have e0:M[i]?=some y:=by
    rw[je9 (vn _ _),Nat.add_sub_cancel_left] at e1;exact e1
   have e2':Z[i]?=some (some v):=by
    rw[je9 (by rw[jb2];exact vn _ _),jb2,Nat.add_sub_cancel_left] at e2;exact e2
   obtain⟨e1',k1,k2⟩:=ok.vis i y e0 e3;obtain⟨m2,_,hl⟩:=I2.loc;obtain⟨u,r,l⟩:=hl i y v e1' e2' (k2.elim (fun z=>.inr (.inl z)) fun z=>.inr (.inr z));obtain⟨c',hc'⟩:=ok.has y k1;rcases l with ⟨z,_⟩ | ⟨_,c,hcc,z⟩
   ·have z':X.env.scope.names.lookup y=some .local:=z;rcases k2 with q | q<;>(rw [q] at z';cases z')
   ·have q:=ok.sub y c' hc';rw[hcc] at q;cases q;exact⟨u,r,.inr ⟨k1,c',hc',hcell y c' hcc _ z⟩⟩
 have I0:Inv (Cy X M xs scope cl C s2 H2 fp) [] (List.replicate xs.length none++Z) (upd H2 D (.lst [])) { s2 with heap:=h₁,toks:=s2.toks+([]:List (Str×Value)).length }:=by
  refine⟨okX,rfl,I2.bare,?_,⟨_,hns₁,locs h₁ _ (fun y c e v z=>?_)⟩,fun y c e=>?_,?_,fun y c e=>?_,fun p hp=>?_,?_,lenN⟩
  ·exact Un.laid old (jj3 hDD) hD0
  ·obtain⟨o,ho,hd⟩:=z;exact⟨o,old c o ho,hd⟩
  ·obtain⟨v,o,ho,hd⟩:=I2.cell y c (ok.sub y c e);exact⟨v,o,old c o ho,hd⟩
  ·show upd H2 D (.lst []) C=none;rw[Aw (Ne.symm hDC)];exact hC0
  ·have hn:=I2.freeC y c (ok.sub y c e);obtain⟨v,o,ho,hd⟩:=I2.cell y c (ok.sub y c e);rw[Aw (fun z=>by have:=zo ho;rw[hDD,z] at this;exact jc9 _ this)];exact hn
  ·exact absurd hp (by show p∉([]++[]:List (Addr×Obj));simp)
  ·refine I2.hok.laid old (jj3 hDD) ⟨ka _,[],_,.nil,hacc⟩
 have fpk:∀{H':Hp},(∀b∈fp,H' b=none)->∀b∈fp,Ih (Cy X M xs scope cl C s2 H2 fp) [] H' b:=fun hn b hb=>by
  refine⟨hn b hb,(below b (fpb b hb)).1,okX.exfs b hb,.inl hb,fun y c e=>(f2 b hb).2.2.2.2.1 y c (ok.sub y c e),fun p hp=>?_⟩;exact absurd hp (by show p∉([]++[]:List (Addr×Obj));simp)
 have loop:∀s₃:Shared,s₃={ s2 with heap:=h₁,toks:=s2.toks+([]:List (Str×Value)).length }->
  codeAny (model X.prog X.w) X.A (.compLoop (.ListComp elt [⟨tg,iter,ifs,0⟩] scope pos) 0 (.ref it) (.ref D) (compEnvC scope cl C X.env))
   (post (.ref D) C) s₃:=by
  rintro s₃ rfl;refine bQ (fun n s'=>∃i ys w' H',w'.length=xs.length/\Inv (Cy X M xs scope cl C s2 H2 fp) [] (w'++Z) H' s'/\tn i s'.heap/\(∀b∈fp,H' b=none)/\W i n ys H') ?_ m0
   ⟨0,[],List.replicate xs.length none,_,jb2,I0,T.keep _ _ _ st2 (fun b _ o e=>old b o e),fun b hb=>by rw[Aw (below b (fpb b hb)).2];exact(f2 b hb).1,w0⟩
  rintro n s3 ⟨i,ys,w3,H3,l3,I3,st3,fr3,wt⟩;obtain⟨hD3,hh⟩:=turn i n ys H3 wt;rcases hh with ⟨stop,q⟩ | ⟨go,hlen,m',hm,step⟩
  ·refine thn (T.done (Cy X M xs scope cl C s2 H2 fp) rfl rfl rfl hc i [] s3 (w3++Z) H3 _ I3 (fpk fr3) st3 stop) fun r s4 ⟨hr,I4⟩=>?_;subst hr;obtain⟨m4,hn4,_⟩:=id I4.loc;have hC4:H3 C=none:=I4.free;exact fin D C H3 s4 (I2.call' (ch:=fp) I4.os I4.base I4.hok I4.bare fun b hb=>⟨(f2 b hb).2.2.2.1,(f2 b hb).2.1,(f2 b hb).2.2.2.2.1,(f2 b hb).2.2.2.2.2⟩) ⟨m4,hn4⟩ (I2.fpOk (by rw[hDD];exact hCle) hC4) q
  ·refine kq (T.item (Cy X M xs scope cl C s2 H2 fp) rfl rfl rfl hc i [] s3 (w3++Z) H3 (fun _ _=>False) I3 (fpk fr3) st3 go) (fun r s4 h4=>?_) (fun _ _ z=>z.elim);obtain⟨u,hr,h4⟩:=h4;subst hr;refine kq h4 (fun _ s4 h4=>?_) (fun _ _ z=>z.elim);obtain⟨x',H5,I5,r5,y5,st5,fr5⟩:=h4;have I5':=I5.pinned (fpk fr5) (T.obj _ _ st5);refine kq (hg C s2 H2 fp _ s4 _ H5 x' u _ I5' r5 (step x' H5 y5 w3 l3)) (fun _ s6 h6=>?_) (fun _ _ z=>z.elim);obtain⟨σ6,H6,I6,w6,l6,rfl,q6⟩:=h6;have back:∀{s7:Shared} {H7:Hp} {w7:St},Inv (Cy X M xs scope cl C s2 H2 fp) ([]++K8 fp s4.heap) (w7++Z) H7 s7->tn (i+1) s7.heap/\(∀b∈fp,H7 b=none)/\Inv (Cy X M xs scope cl C s2 H2 fp) [] (w7++Z) H7 s7:=fun{s7 H7 w7} I7=>by
    refine⟨T.keep _ _ _ st5 fun b hb o e=>(I7.pin (b,o) (xy _ (xy _ (Gq hb e)))).1,fun b hb=>?_,I7.unpinned⟩;obtain⟨o,e,d⟩:=T.obj _ _ st5 b hb;exact(I7.pin (b,o) (xy _ (xy _ (Gq hb e)))).2.1
   refine kq (ht C s2 H2 fp _ s6 _ H6 _ I6 q6) (fun ok' s7 h7=>?_) (fun _ _ z=>z.elim);obtain⟨H7,I7,q7⟩:=h7;cases ok' with
   | false=>
    have q7':W (i+1) m' ys H7:=by simpa using q7
    rw[yv ze];obtain⟨b1,b2,b3⟩:=back I7;exact⟨m',hm,i+1,ys,_,H7,l6,b3,b1,b2,q7'⟩
   | true=>
    rw[xz rfl] at q7 ⊢;refine kq (he C s2 H2 fp _ s7 _ H7 _ I7 q7) (fun y s8 h8=>?_) (fun _ _ z=>z.elim);obtain⟨v8,H8,I8,r8,hD8,w8⟩:=h8;refine kq (GQ (X:=Cy X M xs scope cl C s2 H2 fp) _ s8 _ H8 (.ref D) [v8] (.ref D) [y] (fun _ H9=>H9=upd H8 D (.lst (ys++[v8]))) I8 rfl (.cons r8 .nil) ⟨D,ys,v8,rfl,rfl,hD8,hlen,rfl⟩) (fun _ s9 h9=>?_) (fun _ _ z=>z.elim);obtain⟨v9,H9,I9,_,e9⟩:=h9;subst e9;obtain⟨b1,b2,b3⟩:=back I9;exact⟨m',hm,i+1,_,_,_,l6,b3,b1,b2,w8⟩
 exact codeAny_compStart_list (loop _ rfl) (T.self _ 0 _ _ _ (T.keep _ _ _ st2 (fun b _ o e=>old b o e)) (loop _ rfl))
theorem Ks{cl:List (Str×Addr)}(xs M N:List Str)(hl:M.length=N.length)(hN:X.N=N)(clos:closureFor scope X.env=pure cl)(hc:(scope.names.all fun y=>y.2 != .cell)=true)(hk:scope.kind=.function)
 (hn:(scope.names.all fun y=>y.2 != .local||scope.names.lookup y.1==some .local)=true)(hx:(xs.all fun x=>scope.names.lookup x==some .local)=true)(nd:(xs++M).Nodup)
 (hs:∀p∈cl,X.env.cells.lookup p.1=some p.2)
 (hh:((relabel scope X.env).names.all fun p=>(p.2 != .cell&&p.2 != .free)||(cl.lookup p.1).isSome)=true)
 (hv:((M.zip N).all fun q=>match (relabel scope X.env).names.lookup q.1 with
  | some .local=>false
  | some .cell=>q.1==q.2&&(X.env.scope.names.lookup q.1==some .cell||X.env.scope.names.lookup q.1==some .free)
  | some .free=>q.1==q.2&&(X.env.scope.names.lookup q.1==some .cell||X.env.scope.names.lookup q.1==some .free)
  | _=>true)=true):Qu X M xs scope cl:=by
 refine⟨clos,fun y hy=>?_,hk,fun y hy hl=>?_,(fun x hm=>by simpa using va.mp hx x hm),nd,by rw[hN];exact hl,fun y c h=>hs _ (lookup_mem h),fun y h=>?_,fun i y hy h=>?_⟩
 ·have:=va.mp hc y hy;simpa using this
 ·have:=va.mp hn y hy;simpa [hl] using this
 ·rcases h with h | h
  ·have:=va.mp hh _ (lookup_mem h);exact jb3.mp (by simpa using this)
  ·have:=va.mp hh _ (lookup_mem h);exact jb3.mp (by simpa using this)
 ·have hi:i<N.length:=by
   have:=(xb.mp hy).1;lia
  have hz:(y,N[i])∈M.zip N:=by
   have:(M.zip N)[i]?=some (y,N[i]):=List.getElem?_zip_eq_some.mpr ⟨hy,by simp[hi]⟩;exact zh this
  have z:=va.mp hv _ hz;have fin:y=N[i]->X.N[i]?=some y:=fun e=>by rw[hN,e];simp[hi]
  rcases h with h | h | h
  ·dsimp only at z;rw[h] at z;cases z
  ·dsimp only at z;rw[h] at z;simp only[kc,ja5,ji1] at z;exact⟨fin z.1,.inl h,z.2⟩
  ·dsimp only at z;rw[h] at z;simp only[kc,ja5,ji1] at z;exact⟨fin z.1,.inr h,z.2⟩
end
theorem YT{k:Nat}{g:TG}(h:wi Z H (Th k g tt te Z Q)):ji k wi g tt te Z H Q:=h
theorem xZ{ta:TE}{f:Str}(h:ta Z H fun x H1=>∃a C dx fs v,x=.ref a/\H1 a=some (.ins C dx fs)/\Cls K C/\Dm K C f/\fs.lookup f=some v/\Q v H1):z9 K ta f Z H Q:=h
theorem qz{ta tv:TE}{f:Str}{D:Ends}(h:tv Z H fun y H1=>ta Z H1 fun x H2=>∃a C dx fs,x=.ref a/\H2 a=some (.ins C dx fs)/\Cls K C/\Dm K C f/\fs.length<1000/\D.nx Z (upd H2 a (.ins C dx (Ea f y fs)))):AAl K ta tv f D Z H:=h
variable{sp:Sp}
theorem rB{C:Addr}{m:Str}{ta:TE}{t:TA}(h:ta Z H fun x H1=>∃a dx fs,x=.ref a/\H1 a=some (.ins C dx fs)/\fs.lookup m=none/\t Z H1 fun vs H2=>sp (x::(vs++[])) H2 Q E0):Xm C m sp [] E0 ta t Z H Q:=h
section
variable{X:Cx}{M xs:List Str}{scope:Scope}{cl:List (Str×Addr)}{C:Addr}{s₀:Shared}{H₀:Hp}{fp:List Addr}
theorem YZ{es:List Expr}{k:Nat}{t:TGs}{n:Nat}(hc:X.calm=true)(h:PGs (Cy X M xs scope cl C s₀ H₀ fp) es t)
 (hn:(assignEach es (Cy X M xs scope cl C s₀ H₀ fp).env).length=n:=by rfl)(hst:(assignEach es (Cy X M xs scope cl C s₀ H₀ fp).env).findIdx? (·.1)=none:=by rfl):PG (Cy X M xs scope cl C s₀ H₀ fp) (.Tuple es k pos) (tW X.K n t):=
 yI hc h hn hst
end
structure KQ(K:Fr)(x qual:Str)(st:Stmt)(f:Addr)(fd:FuncData)(ds:Array Value):Prop where
 ex:∃(oc:Value) (od:Option Addr) (T:Addr) (to:Obj) (tn:Nat) (kV doc pm:Value) (an:Option Addr) (cdv ct:Value) (osl:Array (Option Value)),
  fd=PySem.W.fnOf x qual (Er st) (DW st) (BP st) (.ref T) kV doc pm an cdv ct/\K.lookup f=some ⟨oc,od,.func fd,osl⟩/\PySem.W.codeIn K cdv qual=true/\K.lookup T=some to/\to.data=.seq ds tn
 kp:PySem.W.keepIn K (.ref f)=true
section
variable{P:Program}{w:World}{K:Fr}{mg:Str->Option Value}{base:Heap}{x qual:Str}{st:Stmt}{f:Addr}{fd:FuncData}{N ps:List Str}{k:Nat}{sp:Sp}{ds:Array Value}
theorem KQ.ok(F:KQ K x qual st f fd ds)(S:Cp N ps (BP st))(len:∀{vs H Q E},sp vs H Q E->vs.length=ps.length)
 (hbody:∀{cdv:Value} {A:Around} {outer:List Env} {s:Shared} (nd:N.Nodup) (H:Hp) (vs:List V) (Q:VK) (E:XK),Do k (A.deeper (envOfC qual (BP st) s.heap.objs.size f cdv))->sp vs H Q E->
  ∃t,PSs (Um CX0 P w K mg base N qual (BP st) f cdv A outer s H E).nox (DW st) t/\t { nx:=fun _ H'=>Q .non H',rt:=Q } (start N vs) H):Et P w K mg base CX0 (k+1) f fd ps sp:=by
 obtain⟨oc,od,T,to,tn,kV,doc,pm,an,cdv,ct,osl,rfl,lk,hcd,_⟩:=F.ex;refine vX lk hcd S (fun _ _ _ _=>len) fun A outer s H vs Q E hr hsp=>?_;obtain⟨t,h,q⟩:=hbody S.nd H vs Q E hr hsp;exact⟨t,h.nox,q⟩
theorem KQ.bindsD{dv:List Value}(n:Nat)(hn:n+dv.length=ps.length)(F:KQ K x qual st f fd ds)
 (h:∀(T:Addr) (kV doc pm:Value) (an:Option Addr) (cdv ct:Value) (us:List Value),us.length=n->
  ∃k:Option (Array Value)->Sem (List (Str×Value)),bindArgs (PySem.W.fnOf x qual (Er st) (DW st) (BP st) (.ref T) kV doc pm an cdv ct) ⟨us,[]⟩=seqItems? (.ref T) >>= k/\k (some ds)=pure (ps.zip (us++dv))):Binds K fd ps dv:=by
 obtain⟨oc,od,T,to,tn,kV,doc,pm,an,cdv,ct,osl,rfl,lk,hcd,ht,hs⟩:=F.ex;intro s us KX hl;obtain⟨k,h1,h2⟩:=h T kV doc pm an cdv ct us (by rw[qf] at hl;lia);exact PySem.W.binds_K KX rfl ht hs h1 h2
theorem W6{oc:Value}{od an:Option Addr}{osl:Array (Option Value)}{kV doc pm cdv ct:Value}{T:Addr}{to:Obj}{tn:Nat}(l:K.lookup f=some ⟨oc,od,.func (PySem.W.fnOf x qual (Er st) (DW st) (BP st) (.ref T) kV doc pm an cdv ct),osl⟩)
 (c:PySem.W.codeIn K cdv qual=true)(k:PySem.W.keepIn K (.ref f)=true)(t:K.lookup T=some to)(d:to.data=.seq ds tn):KQ K x qual st f (PySem.W.fnOf x qual (Er st) (DW st) (BP st) (.ref T) kV doc pm an cdv ct) ds:=
 ⟨⟨oc,od,T,to,tn,kV,doc,pm,an,cdv,ct,osl,rfl,l,c,t,d⟩,k⟩
end
structure pG(P:Program)(w:World)(K:Fr)(mg:Str->Option Value)(base:Heap)(CX:CXT)(k:Nat)(x:Str)(C:Addr)(ps:List Str)(dvs:List V)(sp:Sp):Prop where
 ex:∃(f:Addr) (fd:FuncData) (ds:List Value),Et P w K mg base CX k f fd ps sp/\Binds K fd ps ds/\Vals dvs ds/\Mk K C f/\mg x=some (.ref C)
section
variable{X:Cx}{EE:Value->Option Addr->St->Hp->Prop}{C:Addr}{m x:Str}{k:Nat}{ps:List Str}{dvs:List V}{sp:Sp}{o e:Expr}{es:List Expr}{ta:TE}{t:TA}{apos pos p:Pos}
theorem yJ(O:pG X.prog X.w X.K X.mg X.base CX0 k x C ps dvs sp)(hr:Do (k+1) X.A)(hg:Gl X x)(ha:PA X (e::es) t)
 (hdb:(x==("__debug__":Str))=false:=by decide)(he:starEach (e::es) X.env=(false,eval e X.env)::starEach es X.env:=by rfl)(hpl:(backTo pos (starEach es X.env)).any (·.1)=false:=by rfl):
 PE X (.Call (.Name x p) (e::es) [] pos) (U0 C sp dvs E0 t):=by
 obtain⟨f,fd,ds,F,hb,hv,M,hm⟩:=O.ex;exact dG M F hr hg hm hb hv MJ ha hdb he hpl
end
section
variable{X:Cx}
noncomputable def xu(K:Fr):R2:=fun x y H Q=>∃(a b:Addr) (xs:List V),x=.ref a/\y=.ref b/\SqL K H a xs/\SqL K H b []/\Q (.bl xs.isEmpty) H
theorem Ye(hu:X.A.units+64<cLine):OpR X (compareOp .Eq) (xu X.K):=by
 intro pins s Z H x y v u Q I rx ry h;obtain⟨a,b,xs,rfl,rfl,ha,hb,q⟩:=h;cases rx;cases ry;obtain⟨its,r,pl,_⟩:=I.list ha;obtain⟨its',r',pl',_⟩:=I.list hb;cases xs with
 | nil=>exact PySem.W.ke_eq_ints (ns:=[]) (ms:=[]) pl.isList pl'.isList (intsAre_of (ns:=[]) r) (intsAre_of (ns:=[]) r') hu ⟨.bl _,H,I,rfl,q⟩
 | cons x xs=>
  refine SeqAt.RcAt.lists_lengths pl.isList pl'.isList ?_ (by lia) _ _ _ _ ⟨.bl _,H,I,rfl,q⟩;have l1:=r.length;have l2:=r'.length;rw[qq] at l1;rw[jg3] at l2;simp[<-l1,<-l2]
end
theorem lK{C:Addr}{dvs:List V}{t:TA}(h:t Z H fun vs H1=>∀x dx,H1 x=none->H1 dx=none->dx≠x->sp (.ref x::(vs++dvs)) (upd (upd H1 dx (.own x)) x (.ins C dx [])) (fun v H2=>v=.non/\Q (.ref x) H2) E0):U0 C sp dvs E0 t Z H Q:=h
noncomputable def yG:V->Bool
 | .byt _=>false
 | .flt _=>false
 | _=>true
inductive EqV(K:Fr)(H:Hp):Nat->V->V->Prop
 | same {n:Nat} {v:V}:yG v=true->EqV K H n v v
 | lst {n:Nat} {a b:Addr} {xs ys:List V}:SqL K H a xs->SqL K H b ys->xs.length=ys.length->(∀(i:Nat) x y,xs[i]?=some x->ys[i]?=some y->EqV K H n x y)->EqV K H (n+1) (.ref a) (.ref b)
 | tup {n:Nat} {a b:Addr} {xs ys:List V}:SqT K H a xs->SqT K H b ys->xs.length=ys.length->(∀(i:Nat) x y,xs[i]?=some x->ys[i]?=some y->EqV K H n x y)->EqV K H (n+1) (.ref a) (.ref b)
theorem Le:∀{xs:List V} {us:List Value} {i:Nat} {u:Value},Vals xs us->us[i]?=some u->∃x,xs[i]?=some x/\RelV x u
 | _,_,i,u,.nil,h=>by simp at h
 | _,_,0,u,.cons r _,h=>by
  injection h with h;subst h;exact⟨_,rfl,r⟩
 | _,_,i+1,u,.cons _ rs,h=>Le (i:=i) rs h
section
variable{X:Cx}{pins:List (Addr×Obj)}{Z:St}{H:Hp}{s:Shared}
theorem EqV.at{n:Nat}{x y:V}(h:EqV X.K H n x y)(I:Inv X pins Z H s):∀{A:Around} {u v:Value},RelV x u->RelV y v->A.units+n<cLine->SeqAt.EqAt A s u v true:=by
 induction h with
 | @same n v hp=>
  intro A u u' r r' _;cases v with
  | non=>cases r;cases r';exact SeqAt.EqAt.same _
  | bl b=>cases r;cases r';exact SeqAt.EqAt.same _
  | int i=>
   obtain⟨t,rfl⟩:=r;obtain⟨t',rfl⟩:=r';have:=SeqAt.EqAt.int_int (A:=A) (s:=s) i t i t'
   rwa [beq_self_eq_true] at this
  | str x=>
   obtain⟨t,rfl⟩:=r;obtain⟨t',rfl⟩:=r';have:=SeqAt.EqAt.str_str (A:=A) (s:=s) x t x t'
   rwa [beq_self_eq_true] at this
  | byt b=>cases hp
  | flt b=>cases hp
  | ref a=>cases r;cases r';exact SeqAt.EqAt.same _
  | ty n=>cases r;cases r';exact SeqAt.EqAt.same _
 | @lst n a b xs ys ha hb hl _ ih=>
  intro A u v r r' hu;cases r;cases r';by_cases e:a=b
  ·subst e;exact SeqAt.EqAt.same _
  obtain⟨its,r,pl,_⟩:=I.list ha;obtain⟨its',r',pl',_⟩:=I.list hb;have l1:=r.length;have l2:=r'.length;have:=SeqAt.RcAt.lists (A:=A) (e:=fun _=>true) pl.isList pl'.isList (by simp;lia) (by lia) fun j k1 k2=>by
   obtain⟨x,hx,rx⟩:=Le r (i:=j) (u:=its.toArray[j]) (by simp);obtain⟨y,hy,ry⟩:=Le r' (i:=j) (u:=its'.toArray[j]) (by simp);exact ih j x y hx hy rx ry (by show A.units+1+n<cLine;lia)
  rw[show ((List.range its.toArray.size).all fun _=>true)=true by simp] at this;exact SeqAt.EqAt.of_refs e this
 | @tup n a b xs ys ha hb hl _ ih=>
  intro A u v r r' hu;cases r;cases r';by_cases e:a=b
  ·subst e;exact SeqAt.EqAt.same _
  obtain⟨its,r,pl,_⟩:=I.tuple ha;obtain⟨its',r',pl',_⟩:=I.tuple hb;have l1:=r.length;have l2:=r'.length;have:=SeqAt.RcAt.tuples (A:=A) (e:=fun _=>true) pl pl' (by lia) fun j k1 k2=>by
   obtain⟨x,hx,rx⟩:=Le r (i:=j) (u:=its.toArray[j]) (by simp);obtain⟨y,hy,ry⟩:=Le r' (i:=j) (u:=its'.toArray[j]) (by simp);exact ih j x y hx hy rx ry (by show A.units+1+n<cLine;lia)
  rw[show ((List.range (min its.toArray.size its'.toArray.size)).all fun _=>true)=true by simp,Bool.true_and,show(its.toArray.size==its'.toArray.size)=true by simp;lia] at this;exact SeqAt.EqAt.of_refs e this
end
structure Oq(P:Program)(w:World)(K:Fr)(mg:Str->Option Value)(base:Heap)(CX:CXT)(k:Nat)(m:Str)(ps:List Str)(L:List (Addr×Sp)):Prop where
 ex:∀p∈L,Cls K p.1/\∃(f:Addr) (fd:FuncData),Et P w K mg base CX k f fd ps p.2/\Binds K fd ps []/\Meth K p.1 m f
theorem Oq.nil{P:Program}{w:World}{mg:Str->Option Value}{base:Heap}{CX:CXT}{k:Nat}{m:Str}{ps:List Str}:Oq P w K mg base CX k m ps []:=⟨fun p hp=>(nomatch hp)⟩
theorem Et.up{P:Program}{w:World}{mg:Str->Option Value}{base:Heap}{CX:CXT}{k j:Nat}{f:Addr}{fd:FuncData}{ps:List Str}(F:Et P w K mg base CX k f fd ps sp)(h:k<=j):Et P w K mg base CX j f fd ps sp:=
 ⟨F.len,fun A outer s H args us vs Q E hr e0 hb r hs=>F.run A outer s H args us vs Q E (hr.mono h) e0 hb r hs⟩
theorem Oq.cons{P:Program}{w:World}{mg:Str->Option Value}{base:Heap}{CX:CXT}{k j:Nat}{m:Str}{ps:List Str}{C:Addr}{L:List (Addr×Sp)}(c:Cls K C)(O:jM P w K mg base CX j C m ps sp)(h:j<=k)(r:Oq P w K mg base CX k m ps L):Oq P w K mg base CX k m ps ((C,sp)::L):=by
 refine⟨fun p hp=>?_⟩;rcases qm.mp hp with e | e
 ·subst e;obtain⟨f,fd,F,hb,M⟩:=O.ex;exact⟨c,f,fd,F.up h,hb,M⟩
 ·exact r.ex p e
noncomputable def Z0(L:List (Addr×Sp))(m:Str)(ta:TE)(t:TA):TE:=fun Z H Q=>ta Z H fun x H1=>∃a C dx fs sp,(C,sp)∈L/\x=.ref a/\H1 a=some (.ins C dx fs)/\fs.lookup m=none/\
 t Z H1 fun vs H2=>sp (x::(vs++[])) H2 Q E0
section
variable{X:Cx}{EE:Value->Option Addr->St->Hp->Prop}{L:List (Addr×Sp)}{m:Str}{k:Nat}{ps:List Str}{o e:Expr}{es:List Expr}{ta:TE}{t:TA}{apos pos:Pos}
theorem mC{pl:Sem Bool}(O:Oq X.prog X.w X.K X.mg X.base CX0 k m ps L)(hr:Do k X.A)(he:PE X o ta)(ha:PA X (e::es) t)
 (hst:starEach (e::es) X.env=(false,eval e X.env)::starEach es X.env:=by rfl)(hpl:(backTo pos (starEach es X.env)).any (·.1)=false:=by rfl)
 (ht:eval (.Call (.Attribute o m apos) (e::es) [] pos) X.env=(do
  let ov <-eval o X.env
  standAt apos.atName
  let (f,first) <-holding [ov] (getMethod ov m pl)
  callWith pos f first (backTo pos (starEach (e::es) X.env)) (backToKw pos (keywordEach [] X.env))):=by rfl):
 PE X (.Call (.Attribute o m apos) (e::es) [] pos) (Z0 L m ta t):=by
 intro pins s Z H Q I h;refine jf6 (pl:=pl) (thn (he pins s Z H _ I h) fun u s1 hZ=>?_) ht;obtain⟨x,H1,I1,rx,a,C,dx,fs,sp,mem,ex,ea,l,q⟩:=hZ;subst ex;obtain rfl:u=Value.ref a:=rx;obtain⟨c,f,fd,F,hb,hm⟩:=O.ex _ mem;refine JN I1 ea c hm l ?_;refine jd4 (first:=[.ref a]) (h₀:=X.base) I.ok.mod.kin hm.kp (thn (ha pos pins s1 Z H1 _ I1 q) fun us s2 ⟨vs,H2,I2,r,q2⟩=>⟨I2.kIn,?_⟩) hst hpl
 exact Nm (us:=.ref a::us) (vs:=.ref a::vs) F hr hb .nil MJ I2 (.cons rfl r) q2
theorem Bl{pl:Sem Bool}(O:Oq X.prog X.w X.K X.mg X.base CX0 k m ps L)(he:PE X o ta)(hr:Do k X.A:=by walk_at"hr")
 (ht:eval (.Call (.Attribute o m apos) [] [] pos) X.env=(do
  let ov <-eval o X.env
  standAt apos.atName
  let (f,first) <-holding [ov] (getMethod ov m pl)
  callWith pos f first (backTo pos (starEach [] X.env)) (backToKw pos (keywordEach [] X.env))):=by rfl):
 PE X (.Call (.Attribute o m apos) [] [] pos) (Z0 L m ta Zz):=by
 intro pins s Z H Q I h;refine jf6 (pl:=pl) (thn (he pins s Z H _ I h) fun u s1 hZ=>?_) ht;obtain⟨x,H1,I1,rx,a,C,dx,fs,sp,mem,ex,ea,l,q⟩:=hZ;subst ex;obtain rfl:u=Value.ref a:=rx;obtain⟨c,f,fd,F,hb,hm⟩:=O.ex _ mem;refine JN I1 ea c hm l ?_;exact PySem.W.callWith_K0 (first:=[.ref a]) I1.kIn hm.kp (Nm (us:=[.ref a]) (vs:=[.ref a]) F hr hb .nil MJ I1 (.cons rfl .nil) q)
end
theorem lJ{L:List (Addr×Sp)}{m:Str}{ta:TE}{t:TA}(h:ta Z H fun x H1=>∃a C dx fs sp,(C,sp)∈L/\x=.ref a/\H1 a=some (.ins C dx fs)/\fs.lookup m=none/\t Z H1 fun vs H2=>sp (x::(vs++[])) H2 Q E0):Z0 L m ta t Z H Q:=h
theorem ACd{us:List α}(h:us.length=1):∃a0,us=[a0]:=by
 match us,h with
 | [a0],_=>exact⟨a0,rfl⟩
theorem ACc{us:List α}(h:us.length=2):∃a0 a1,us=[a0,a1]:=by
 match us,h with
 | [a0,a1],_=>exact⟨a0,a1,rfl⟩
theorem yW{us:List α}(h:us.length=3):∃a0 a1 a2,us=[a0,a1,a2]:=by
 match us,h with
 | [a0,a1,a2],_=>exact⟨a0,a1,a2,rfl⟩
theorem ABR{us:List α}(h:us.length=4):∃a0 a1 a2 a3,us=[a0,a1,a2,a3]:=by
 match us,h with
 | [a0,a1,a2,a3],_=>exact⟨a0,a1,a2,a3,rfl⟩
theorem yV{us:List α}(h:us.length=5):∃a0 a1 a2 a3 a4,us=[a0,a1,a2,a3,a4]:=by
 match us,h with
 | [a0,a1,a2,a3,a4],_=>exact⟨a0,a1,a2,a3,a4,rfl⟩
theorem ACb{us:List α}(h:us.length=6):∃a0 a1 a2 a3 a4 a5,us=[a0,a1,a2,a3,a4,a5]:=by
 match us,h with
 | [a0,a1,a2,a3,a4,a5],_=>exact⟨a0,a1,a2,a3,a4,a5,rfl⟩
theorem ABQ{us:List α}(h:us.length=7):∃a0 a1 a2 a3 a4 a5 a6,us=[a0,a1,a2,a3,a4,a5,a6]:=by
 match us,h with
 | [a0,a1,a2,a3,a4,a5,a6],_=>exact⟨a0,a1,a2,a3,a4,a5,a6,rfl⟩
theorem ACa{us:List α}(h:us.length=8):∃a0 a1 a2 a3 a4 a5 a6 a7,us=[a0,a1,a2,a3,a4,a5,a6,a7]:=by
 match us,h with
 | [a0,a1,a2,a3,a4,a5,a6,a7],_=>exact⟨a0,a1,a2,a3,a4,a5,a6,a7,rfl⟩
section
variable{X:Cx}
end
section
variable{X:Cx}
end
theorem oJ(xs:List V)(k:Nat):J5 xs none (some (k:Int))=xs.take k:=by
 unfold J5;rw[HT.sIx_none,HT.sIx_nat,List.drop_zero,Nat.sub_zero];by_cases h:k<=xs.length
 ·rw[Nat.min_eq_left h]
 ·rw[Nat.min_eq_right (by lia),yy (qh _),yy (by lia)]
section
variable{X:Cx}
end
section
variable{X:Cx}
end
noncomputable def U4(c:Nat):V:=.str ⟨#[c]⟩
noncomputable def Its(z:Str):It:=⟨fun i _=>i<z.cps.size,fun i H x H'=>H'=H/\∃c,z.cps[i]?=some c/\x=U4 c,fun i _=>z.cps.size<=i⟩
theorem jb{P:Program}{w:World}{tg:Expr}(z:Str)(t:Tok)(it:Addr):Turn P w K tg (Its z) [it] it (fun i h=>h.IsStrIter it "str_ascii_iterator" z t i) where
 mem:=by simp
 obj:=fun i h st b hb=>by
  have e:b=it:=by simpa using hb
  subst e;obtain⟨o,e,c,d⟩:=st;exact⟨o,e,fun v z=>by rw[d] at z;cases z⟩
 keep:=fun i h h' st k=>by
  obtain⟨o,e,r⟩:=st;exact⟨o,k it (by simp) o e,r⟩
 item:=by
  intro X hP hw hK hc i pins s Z H E I hf st hg;subst hP hw hK;have hg':i<z.cps.size:=hg;obtain⟨f0,f1,f2,f3,f4,f5⟩:=hf it (by simp);refine wpAny_pyNext_ascii_item st (c:=z.cps[i]) (by simp[hg']) fun h' st' sb=>?_;have I1:Inv X pins Z H { s with heap:=h',toks:=s.toks+1 }:=I.turned (t':=s.toks+1) (fun b o hb e=>(sb.2 b hb).trans e) f0 f1 f3 f4 f5;obtain⟨o,e,c,d⟩:=id st';exact⟨_,rfl,Yo (s:={ s with heap:=h',toks:=s.toks+1 }) e c d (by decide) ⟨U4 z.cps[i],H,I1,⟨_,rfl⟩,⟨rfl,_,by simp[hg'],rfl⟩,st',fun b hb=>(hf b hb).1⟩⟩
 done:=by
  intro X hP hw hK hc i pins s Z H E I hf st hg;subst hP hw hK;have hg':z.cps.size<=i:=hg;obtain⟨f0,f1,f2,f3,f4,f5⟩:=hf it (by simp);exact wpAny_pyNext_ascii_end (I.ok.hd hc) st (by simp[hg']) fun h' eb=>⟨rfl,I.turned (t':=s.toks) (fun b o hb e=>eb b o hb e) f0 f1 f3 f4 f5⟩
 self:=fun _ _ _ _ _ st h=>wpAny_pyIter_striter_ascii st h
noncomputable def asc(z:Str):Bool:=z.cps.all (· <128)
noncomputable def ABW(tl:TE):TI:=fun Z H R=>tl Z H fun x H1=>∃z,x=.str z/\asc z=true/\R (Its z) H1
section
variable{X:Cx}{tg:Expr}
theorem lY{l:Expr}{tl:TE}(hl:PE X l tl):PI X tg l (ABW tl):=by
 intro pins s Z H R I h;refine thn (hl pins s Z H _ I h) fun v s1 hZ=>?_;obtain⟨x,H1,I1,r1,q1⟩:=hZ;obtain⟨z,e,ha,q⟩:=q1;subst e;obtain⟨t,rfl⟩:=(show ∃t,v=Value.str z t from r1);refine wpAny_pyIter_ascii ha ?_;refine⟨s1.heap.objs.size,[s1.heap.objs.size],_,_,H1,rfl,I1.kept (t':=s1.toks) fun b o e=>js _ e,jb z t _,⟨_,zw _ rfl,rfl,rfl⟩,fun b hb=>?_,q⟩;have e:b=s1.heap.objs.size:=by simpa using hb
 subst e;exact I1.fpOk (qh _) (I1.hok.fresh (qh _))
noncomputable def ACW:V->Option Int->Option Int->Hp->VK->Prop:=fun x lo hi H Q=>∃z,x=.str z/\z.length<=sizeLine/\Q (.str (Txt.slice z lo hi)) H
theorem Yd{v:Value}{o:Option Int}(h:IsPart v o):∃l:Option (Int×Tok),v=partValue l/\l.map (·.1)=o:=by
 cases h with
 | none=>exact⟨none,rfl,rfl⟩
 | int i t=>exact⟨some (i,t),rfl,rfl⟩
theorem NK:SlR X ACW:=by
 intro pins s Z H x v vl vu lo hi sl Q I rx hs pl pu h;obtain⟨z,rfl,hz,q⟩:=h;obtain⟨t,rfl⟩:=(show ∃t,v=Value.str z t from rx);obtain⟨l,rfl,rfl⟩:=Yd pl;obtain⟨u,rfl,rfl⟩:=Yd pu;refine⟨"str",_,F.slot_str_getitem.lookup,typeIs_str _ _ _,wpAny_getItem_str_slice (l:=l) (u:=u) (st:=none) hs rfl ?_⟩;refine post_val_or_str ⟨zv (Txt.slice_le z _ _) hz,fun t' k=>?_⟩;exact⟨.str _,H,I.kept (t':=k) fun b o e=>e,⟨_,rfl⟩,q⟩
theorem Uk:MtR X "str.startswith" (fun x xs H Q=>∃z y,x=.str z/\xs=[.str y]/\Q (.bl (Txt.startswith z y)) H):=by
 intro pins s Z H x xs v us Q I rx rs h;obtain⟨z,y,rfl,rfl,q⟩:=h;obtain⟨t,rfl⟩:=(show ∃t,v=Value.str z t from rx);obtain⟨u,rfl,ru⟩:=vals1 rs;obtain⟨t',rfl⟩:=(show ∃t,u=Value.str y t from ru);exact call_gives F.slot_str_startswith (typeIs_str _ _ _) F.entry_str_startswith (F.args_str_startswith_2 _ _) (gives_str_startswith z y t t') ⟨.bl _,H,I,rfl,q⟩
theorem Ig:HD X (.type "int") (fun xs H Q=>∃z n,xs=[.str z]/\z.length<=640/\PySem.intText? z=some n/\Q (.int n) H):=by
 intro pins s Z H xs us Q I r h;obtain⟨z,n,rfl,hl,hn,q⟩:=h;obtain⟨u,rfl,ru⟩:=vals1 r;obtain⟨t,rfl⟩:=(show ∃t,u=Value.str z t from ru);exact PySem.W.KIN.call_text hn hl ⟨.int n,H,I.tok _,⟨_,rfl⟩,q⟩
end
theorem Zo{z:Str}:Walk (Its z) (fun _=>True) (z.cps.toList.map U4):=
 ⟨fun i H _ hi=>(by show i<z.cps.size;simpa using hi),fun i H x H' _ y hi=>⟨y.1,by
  obtain⟨c,hc,rfl⟩:=y.2;rw[xc,Array.getElem?_toList,hc];rfl⟩,fun i H _ hi=>(by show z.cps.size<=i;simpa using hi)⟩
theorem lL{tl:TE}{R:It->Hp->Prop}(h:tl Z H fun x H1=>∃z,x=.str z/\asc z=true/\R (Its z) H1):ABW tl Z H R:=h
theorem cW(x:Str)(t:Tok):RelV (.str x) (.str x t):=⟨t,rfl⟩
noncomputable def constStr?:Expr->Option Str
 | .Constant (.str x) _ _=>some x
 | _=>none
noncomputable def cL(ss:List Str):TA:=fun _ H Q=>Q (ss.map V.str) H
theorem dJ{X:Cx}:∀{es:List Expr} {ss:List Str},es.map constStr?=ss.map some->PA X es (cL ss)
 | [],[],_=>Ab
 | [],_::_,h=>nomatch h
 | _::_,[],h=>nomatch h
 | e::es,x::ss,h=>by
  rw[xk,xk] at h;injection h with h1 h2;have ih:=dJ (X:=X) (es:=es) (ss:=ss) h2;unfold constStr? at h1;split at h1
  ·injection h1 with h1;subst h1;exact Aa Ai ih rfl
  ·cases h1
theorem dF{X:Cx}{es:List Expr}{ss:List Str}(h:es.map constStr?=ss.map some):PE X (.List es pos) (pW (cL ss)):=En (dJ h)
theorem Ql{ss:List Str}{Q:List V->Hp->Prop}(h:Q (ss.map V.str) H):cL ss Z H Q:=h
structure BE(X:Cx)(e:Expr)(te:TE):Prop where
 out:PE X e te
structure BS(X:Cx)(st:Stmt)(t:TS):Prop where
 out:PS X st t
structure BSs(X:Cx)(st:List Stmt)(t:TS):Prop where
 out:PSs X st t
section
variable{X:Cx}
theorem be{e:Expr}(h:PE X e te):BE X e te:=⟨h⟩
theorem XS{es:List Expr}{ss:List Str}(h:es.map constStr?=ss.map some):BE X (.List es pos) (pW (cL ss)):=⟨dF h⟩
theorem ABd{op:Operator}{r:R2}{a b:Expr}{ta tb:TE}(ho:OpR X (binaryOp op) r)(ha:BE X a ta)(hb:BE X b tb):BE X (.BinOp a op b pos) (tOp r ta tb):=⟨Ag ho ha.out hb.out⟩
theorem bs{st:Stmt}{t:TS}(h:PS X st t):BS X st t:=⟨h⟩
theorem bw{e:Expr}{pos':Pos}(hN:X.N.Nodup)(hi:X.N[i]?=some x)(hx:Loc X.env.scope x)(he:BE X e te)(hs:swapsWith e (some (.Name x pos')) pos.line X.env=pure false:=by rfl)(hf:X.fn x=true\/X.env.scope.names.lookup x=some .local:=by first | exact .inl rfl | exact .inr rfl | assumption):
 BS X (.Assign [.Name x pos'] e pos) (fJ te (Il i)):=⟨Ak _ he.out hN hi hx hs hf⟩
theorem Ip{st:Stmt}{rest:List Stmt}{t u:TS}(h1:BS X st t)(h2:BSs X rest u):BSs X (st::rest) (wA t u):=⟨Ac h1.out h2.out⟩
theorem uN{st:Stmt}{t:TS}(h1:BS X st t):BSs X [st] t:=⟨Ad h1.out⟩
theorem zH{ss:List Stmt}{R:TS->Prop}(h:∃t,BSs X ss t/\R t):∃t,PSs X ss t/\R t:=by
 obtain⟨t,h1,h2⟩:=h;exact⟨t,h1.out,h2⟩
end
inductive HF(P:Program)(w:World)(K:Fr)(mg:Str->Option Value)(base:Heap)(k:Nat):List (Str×Sp)->Prop
 | nil:HF P w K mg base k []
 | cons {x:Str} {ps:List Str} {sp:Sp} {L:List (Str×Sp)}:Cal P w K mg base k x ps sp->HF P w K mg base k L->HF P w K mg base k ((x,sp)::L)
theorem HF.get{P:Program}{w:World}{mg:Str->Option Value}{base:Heap}{k:Nat}{L:List (Str×Sp)}(h:HF P w K mg base k L){x:Str}{sp:Sp}(hm:(x,sp)∈L):∃ps,Cal P w K mg base k x ps sp:=by
 induction h with
 | nil=>cases hm
 | cons C _ ih=>
  rcases qm.mp hm with e | e
  ·injection e with e1 e2;subst e1;subst e2;exact⟨_,C⟩
  ·exact ih e
noncomputable def jm(mg:Str->Option Value)(i:Nat)(L:List (Str×Sp))(t:TA):TE:=fun Z H Q=>∃f x sp,Z[i]?=some (some (.ref f))/\(x,sp)∈L/\mg x=some (.ref f)/\t Z H fun vs H1=>sp vs H1 Q E0
section
variable{X:Cx}{pos:Pos}
theorem rR{k:Nat}{L:List (Str×Sp)}{e:Expr}{es:List Expr}{t:TA}{p:Pos}(CV:HF X.prog X.w X.K X.mg X.base k L)(hr:Do k X.A)(hN:X.N[i]?=some x)(hv:Vis X.env.scope x)(ha:PA X (e::es) t)
 (hdb:(x==("__debug__":Str))=false:=by decide)(hcd:(x==("__classdict__":Str))=false:=by decide)(he:starEach (e::es) X.env=(false,eval e X.env)::starEach es X.env:=by rfl)(hpl:(backTo pos (starEach es X.env)).any (·.1)=false:=by rfl):
 PE X (.Call (.Name x p) (e::es) [] pos) (jm X.mg i L t):=by
 intro pins s Z H Q I h;obtain⟨f,y,sp,hf,hm,hmg,h⟩:=h;obtain⟨ps,C⟩:=CV.get hm;obtain⟨f',fd,F,b,kp,m⟩:=C.ex;have ef:f'=f:=by
  rw[hmg] at m;injection m with m;injection m with m;exact m.symm
 subst ef;refine jc1 ?_;refine thn (lq hN hv hdb hcd pins s Z H (fun v H1=>v=.ref f'/\H1=H) I (K5 hf ⟨rfl,rfl⟩)) fun v s1 hZ=>?_;obtain⟨y,H1,I1,r1,q1⟩:=hZ;obtain⟨rfl,rfl⟩:=q1;cases r1;refine jd4 (h₀:=X.base) I1.ok.mod.kin kp (thn (ha pos pins s1 Z _ _ I1 h) fun us s2 ⟨vs,H2,I2,r,q⟩=>⟨I2.kIn,?_⟩) he hpl;dsimp only at q;have hl:us.length=ps.length:=by rw[<-r.length];exact F.len _ _ _ _ q
 have hb:=b s2 us I2.kIn (by rw[ya];exact hl);rw[ya] at hb;show wpAny _ _ (call (.ref f') us) _ _ _;refine wpAny_call (codeAny_mono (F.run X.A X.stack s2 H2 ⟨us,[]⟩ us vs Q _ hr I2.env0 hb r q) fun z s' hq=>?_);cases z with
 | error e=>exact False.elim hq
 | ok fl=>
  cases fl with
  | ret u=>exact I2.after hq
  | next=>exact False.elim hq
  | brk=>exact False.elim hq
  | cont=>exact False.elim hq
theorem lO{mg:Str->Option Value}{L:List (Str×Sp)}{t:TA}{f:Addr}(h1:Z[i]?=some (some (.ref f)))(h2:(x,sp)∈L)(h3:mg x=some (.ref f))(h:t Z H fun vs H1=>sp vs H1 Q E0):jm mg i L t Z H Q:=⟨f,x,sp,h1,h2,h3,h⟩
end
section
variable{X:Cx}{pins:List (Addr×Obj)}{Z:St}{H:Hp}{s:Shared}{h':Heap}
theorem Inv.turnedNew{t':Nat}{ch:List Addr}{T:Addr}{o:HO}(I:Inv X pins Z H s)(k:∀b u,b∉ch->s.heap.get? b=some u->h'.get? b=some u)(hf:∀b∈ch,Ih X pins H b)
 (hp:s.heap.objs.size<=T)(new:Ef X.prog X.w (upd H T o) h' T o):Inv X pins Z (upd H T o) { s with heap:=h',toks:=t' }:=by
 have hn:H T=none:=I.hok.fresh hp;have nit:∀b u,H b=some u->b∉ch:=fun b u e z=>by rw[(hf b z).1] at e;cases e
 refine I.step (g':=s.gens) (d':=s.drawn) (ch:=ch) (fun b hb=>⟨(hf b hb).2.2.2.1,(hf b hb).2.1,(hf b hb).2.2.2.2.1,(hf b hb).2.2.2.2.2⟩) (fun b u _ _ hc e _=>k b u hc e) (fun b u _ _ hc e _=>⟨u.slots,k b u hc e⟩)
  (fun b u _ e n=>by rw[Aw (uj (xh (zo e) hp))];exact n)
  (fun b u hc e=>⟨u,k b u hc e⟩) (fun b xs q=>by rw[Aw (Bj q hn)];exact q) (fun b u xs q=>by rw[Aw (Bj q hn)];exact q) (fun b ps q=>⟨#[],by rw[Aw (Bj q hn),q];simp⟩) (fun m hm=>?_) (fun b u e=>?_) I.bare
 ·obtain⟨u,es,ep,ho,r⟩:=hm;exact⟨u,es,ep,k _ u (fun z=>(hf _ z).2.1 rfl) ho,r⟩
 ·by_cases hb:b=T
  ·subst hb;rw[Ah] at e;cases e;exact new
  ·rw[Aw hb] at e;refine(I.hok b u e).stay (fun c v hc q=>k c v ?_ q) (fun c q=>by rw[Aw (Bj q hn)];exact q) fun c xs q=>by rw[Aw (Bj q hn)];exact q
   rcases hc with z | z
   ·rw[z];exact nit b u e
   ·exact nit c _ z
theorem Inv.turnedL{t':Nat}{ch:List Addr}(I:Inv X pins Z H s)(k:∀b u,b∉ch->s.heap.get? b=some u->h'.get? b=some u)(hf:∀b∈ch,Ih X pins H b):Inv X pins Z H { s with heap:=h',toks:=t' }:=by
 have nit:∀b u,H b=some u->b∉ch:=fun b u e z=>by rw[(hf b z).1] at e;cases e
 refine I.step (g':=s.gens) (d':=s.drawn) (ch:=ch) (fun b hb=>⟨(hf b hb).2.2.2.1,(hf b hb).2.1,(hf b hb).2.2.2.2.1,(hf b hb).2.2.2.2.2⟩) (fun b u _ _ hc e _=>k b u hc e) (fun b u _ _ hc e _=>⟨u.slots,k b u hc e⟩)
  (fun _ _ _ _ n=>n) (fun b u hc e=>⟨u,k b u hc e⟩) (fun b xs q=>q) (fun b u xs q=>q) (fun b ps q=>⟨#[],by rw[q];simp⟩) (fun m hm=>?_) (fun b u e=>?_) I.bare
 ·obtain⟨u,es,ep,ho,r⟩:=hm;exact⟨u,es,ep,k _ u (fun z=>(hf _ z).2.1 rfl) ho,r⟩
 ·refine(I.hok b u e).stay (fun c v hc q=>k c v ?_ q) (fun c q=>q) fun c xs q=>q;rcases hc with z | z
  ·rw[z];exact nit b u e
  ·exact nit c _ z
end
noncomputable def Itz(K:Fr)(a b:Addr):It:=
 ⟨fun i H=>∃xs ys x y,SqL K H a xs/\SqL K H b ys/\xs[i]?=some x/\ys[i]?=some y,
  fun i H v H'=>∃T x y,H T=none/\v=.ref T/\H'=upd H T (.tup [x,y])/\∀xs ys,SqL K H a xs->SqL K H b ys->xs[i]?=some x/\ys[i]?=some y,
  fun i H=>∃xs ys,SqL K H a xs/\SqL K H b ys/\i=min xs.length ys.length⟩
noncomputable def ABg(z TI TO i1 i2 a b:Addr)(i:Nat)(h:Heap):Prop:=
 IsZip h z TI TO .none/\IsPair h TI (.ref i1) (.ref i2)/\(∃p q,IsPair h TO p q)/\h.IsListIter i1 a i/\h.IsListIter i2 b i
theorem jZ{P:Program}{w:World}{es:List Expr}{kk:Nat}(z TI TO i1 i2 a b:Addr)(D:ZipApart z TI TO i1 i2 a b):
 Turn P w K (.Tuple es kk pos) (Itz K a b) [z,TI,TO,i1,i2] z (ABg z TI TO i1 i2 a b) where
 mem:=by simp
 obj:=fun i h st c hc=>by
  obtain⟨h1,h2,⟨p,q,h3⟩,⟨o4,e4,_,d4⟩,⟨o5,e5,_,d5⟩⟩:=st;simp only[qm,yb,or_false] at hc;rcases hc with rfl | rfl | rfl | rfl | rfl
  ·exact⟨_,h1,fun v z=>by cases z⟩
  ·exact⟨_,h2,fun v z=>by cases z⟩
  ·exact⟨_,h3,fun v z=>by cases z⟩
  ·exact⟨_,e4,fun v z=>by rw[d4] at z;cases z⟩
  ·exact⟨_,e5,fun v z=>by rw[d5] at z;cases z⟩
 keep:=fun i h h' st k=>by
  obtain⟨h1,h2,⟨p,q,h3⟩,h4,h5⟩:=st;exact⟨k z (by simp) _ h1,k TI (by simp) _ h2,⟨p,q,k TO (by simp) _ h3⟩,h4.at fun o e=>k i1 (by simp) o e,h5.at fun o e=>k i2 (by simp) o e⟩
 item:=by
  intro X hP hw hK hc i pins s Z H E I hf st hg;subst hP hw hK;obtain⟨xs,ys,x,y,qa,qb,ex,ey⟩:=hg;obtain⟨us,ra,pa,_⟩:=I.list qa;obtain⟨ws,rb,pb,_⟩:=I.list qb;obtain⟨u,hu,ru⟩:=ra.get ex;obtain⟨v,hv,rv⟩:=rb.get ey;obtain⟨h1,h2,h3,h4,h5⟩:=st;have W:=WalksT.zip2 (prog:=X.prog) (w:=X.w) (I.ok.hd hc) z TI TO i1 i2 a b D us.toArray ws.toArray;have lu:i<us.length:=(xb.mp hu).1;have lw:i<ws.length:=(xb.mp hv).1;refine W.item i s _ E (by simp;lia) ⟨h1,h2,h3,h4,h5,pa.isList,pb.isList⟩ fun T vals h' tk hv' hT tup mid k=>?_;refine⟨.ref T,rfl,W.go es kk pos i T _ _ E mid fun h2 st2 k2=>?_⟩;have nw:=W.apart i T h' mid;obtain⟨x',y',e1,e2,e3⟩:=hv';have e1':u=x':=by simpa [hu] using e1
  have e2':v=y':=by simpa [hv] using e2
  subst e1' e2' e3;have tup2:h2.IsTuple T #[u,v]:=by
   obtain⟨o,eo,r⟩:=tup;exact⟨o,k2 T o nw eo,r⟩
  have hn:H T=none:=I.hok.fresh hT;refine⟨.ref T,upd H T (.tup [x,y]),I.turnedNew (ch:=[z,TO,i1,i2]) (fun c o hc e=>k2 c o hc (k c o hc e)) (fun c hc=>hf c ?_) hT ⟨?_,[u,v],.cons ru (.cons rv .nil),tup2⟩,rfl,⟨T,x,y,hn,rfl,rfl,fun xs' ys' qa' qb'=>?_⟩,?_,fun c hc=>?_⟩
  ·simp only[qm,yb,or_false] at hc ⊢;rcases hc with h | h | h | h
   ·exact .inl h
   ·exact .inr (.inr (.inl h))
   ·exact .inr (.inr (.inr (.inl h)))
   ·exact .inr (.inr (.inr (.inr h)))
  ·show 2<=sizeLine;rw[sizeLine_eq];decide
  ·rw[I.list_inj qa' qa,I.list_inj qb' qb];exact⟨ex,ey⟩
  ·obtain⟨g1,g2,g3,g4,g5,_⟩:=st2;exact⟨g1,g2,g3,g4,g5⟩
  ·have hlt:c<s.heap.objs.size:=by
    simp only[qm,yb,or_false] at hc;obtain⟨p,q,h3⟩:=h3;obtain⟨o4,e4,_⟩:=h4;obtain⟨o5,e5,_⟩:=h5;rcases hc with rfl | rfl | rfl | rfl | rfl
    ·exact zo h1
    ·exact zo h2
    ·exact zo h3
    ·exact zo e4
    ·exact zo e5
   rw[Aw (uj (xh hlt hT))];exact(hf c hc).1
 done:=by
  intro X hP hw hK hc i pins s Z H E I hf st hg;subst hP hw hK;obtain⟨xs,ys,qa,qb,e⟩:=hg;obtain⟨us,ra,pa,_⟩:=I.list qa;obtain⟨ws,rb,pb,_⟩:=I.list qb;have la:=ra.length;have lb:=rb.length;obtain⟨h1,h2,h3,h4,h5⟩:=st;have W:=WalksT.zip2 (prog:=X.prog) (w:=X.w) (I.ok.hd hc) z TI TO i1 i2 a b D us.toArray ws.toArray;have en:i=min us.toArray.size ws.toArray.size:=by simp;lia
  rw[en] at h4 h5;refine W.done s _ E ⟨h1,h2,h3,h4,h5,pa.isList,pb.isList⟩ fun h' tk k=>⟨rfl,I.turnedL (ch:=[z,TO,i1,i2]) (fun c o hc e=>k c o hc e) fun c hc=>hf c ?_⟩;simp only[qm,yb,or_false] at hc ⊢;rcases hc with h | h | h | h
  ·exact .inl h
  ·exact .inr (.inr (.inl h))
  ·exact .inr (.inr (.inr (.inl h)))
  ·exact .inr (.inr (.inr (.inr h)))
 self:=fun _ _ _ _ _ st h=>wpAny_pyIter_zip st.1 h
theorem jP{n a b:Nat}(ha:a<n)(hb:b<n):ZipApart (n+4) (n+2) (n+3) n (n+1) a b:=
 ⟨show n+2≠n+4 by lia,show n+3≠n+4 by lia,show n≠n+4 by lia,show n+1≠n+4 by lia,show n+2≠n+3 by lia,show n+2≠n by lia,show n+2≠n+1 by lia,show n+3≠n by lia,show n+3≠n+1 by lia,show n≠n+1 by lia,
  show a≠n+4 by lia,show a≠n+3 by lia,show a≠n by lia,show a≠n+1 by lia,show b≠n+4 by lia,show b≠n+3 by lia,show b≠n by lia,show b≠n+1 by lia⟩
noncomputable def ABV(K:Fr)(ta:TA):TI:=fun Z H R=>ta Z H fun vs H1=>∃a b,vs=[.ref a,.ref b]/\(∃xs ys,SqL K H1 a xs/\SqL K H1 b ys)/\R (Itz K a b) H1
section
variable{X:Cx}
theorem yH{a b:Expr}{p:Pos}{es:List Expr}{kk:Nat}{tp:Pos}(hg:Gl X "zip")(hm:X.mg "zip"=none)(ha:PA X [a,b] ta)(hs:starEach [a,b] X.env=[(false,eval a X.env),(false,eval b X.env)]:=by rfl)(hs2:starEach [b] X.env=[(false,eval b X.env)]:=by rfl):
 PI X (.Tuple es kk tp) (.Call (.Name "zip" p) [a,b] [] pos) (ABV X.K ta):=by
 intro pins s Z H R I h;refine Call_ (G8 I hg hm boot_zip (ui (thn (ha pos pins s Z H _ I h) fun us s1 ⟨vs,H1,I1,r1,q1⟩=>?_) (by rw[hs,hs2]) (by rw[hs2];rfl)));obtain⟨x,y,e,⟨xs,ys,qa,qb⟩,q⟩:=q1;subst e;obtain⟨ia,ra,pa,_⟩:=I1.list qa;obtain⟨ib,rb,pb,_⟩:=I1.list qb;cases r1 with
 | cons r rr=>
  cases rr with
  | cons r' rr=>
   cases rr;cases (show _=Value.ref x from r);cases (show _=Value.ref y from r');have l1:x<s1.heap.objs.size:=by obtain⟨o,eo,_⟩:=pa.isList;exact zo eo
   have l2:y<s1.heap.objs.size:=by obtain⟨o,eo,_⟩:=pb.isList;exact zo eo
   refine call_zip_2 pa.isList pb.isList fun h' hz hTI hTO hi1 hi2 hsz hk=>?_;refine wpAny_pyIter_zip hz ?_;have D:ZipApart (s1.heap.objs.size+4) (s1.heap.objs.size+2) (s1.heap.objs.size+3) s1.heap.objs.size (s1.heap.objs.size+1) x y:=jP l1 l2;have n1:∀j,H1 (s1.heap.objs.size+j)=none:=fun j=>I1.hok.fresh (vn _ _);refine⟨_,_,_,_,H1,rfl,I1.kept (t':=s1.toks) fun c o e=>hk c o e,jZ _ _ _ _ _ x y D,⟨hz,hTI,⟨_,_,hTO⟩,hi1,hi2⟩,fun c hc=>?_,q⟩;have hcs:s1.heap.objs.size<=c:=by
    simp only[qm,yb,or_false] at hc;rcases hc with rfl | rfl | rfl | rfl | rfl
    ·exact vn _ _
    ·exact vn _ _
    ·exact vn _ _
    ·exact qh _
    ·exact vn _ _
   exact I1.fpOk hcs (I1.hok.fresh hcs)
end
theorem xN{R:It->Hp->Prop}(h:ta Z H fun vs H1=>∃a b,vs=[.ref a,.ref b]/\(∃xs ys,SqL K H1 a xs/\SqL K H1 b ys)/\R (Itz K a b) H1):ABV K ta Z H R:=h
section
variable{X:Cx}
theorem O1{M:List Str}{tg:Expr}{xs:List Str}{y:Str}{py spos:Pos}{ifs:List Expr}{cl:List (Str×Addr)}{g:TG}(hN:X.N.Nodup)(hiy:X.N[i]?=some y)(hy:Loc X.env.scope y)
 (hc:X.calm=true)(ok:Qu X M xs scope cl)(hi:PI X tg iter wi)
 (ht:∀C s₀ H₀ fp,bz (Cy X M xs scope cl C s₀ H₀ fp) ifs tt)(hg:∀C s₀ H₀ fp,PG (Cy X M xs scope cl C s₀ H₀ fp) tg g)(he:∀C s₀ H₀ fp,PE (Cy X M xs scope cl C s₀ H₀ fp) elt te)
 (hsw:swapsWith (.ListComp elt [⟨tg,iter,ifs,0⟩] scope pos) (some (.Name y py)) spos.line X.env=pure true:=by with_unfolding_all rfl)
 (hf:X.fn y=true\/X.env.scope.names.lookup y=some .local:=by first | exact .inl rfl | exact .inr rfl | assumption)
 (hs:∀x,foldedSetIterable iter X.env x=pure x:=by intro _;rfl):
 PS X (.Assign [.Name y py] (.ListComp elt [⟨tg,iter,ifs,0⟩] scope pos) spos) (fJ (ji xs.length wi g tt te) (Il i)):=by
 intro pins s Z H D I h;rw[exec_Assign_Name_used _ _ _ _ hsw];refine jv (wpAny_standAt (jv ?_));show wpAny _ X.A (do let _ <-comprehension (.ListComp elt [⟨tg,iter,ifs,0⟩] scope pos) scope X.env _ (newList []) false (eval iter X.env) (some (assign (.Name y py) X.env))) _ _ s;refine jv (kq (wpAny_comprehension_free (use:=some (assign (.Name y py) X.env)) (Q:=fun _ s'=>SP X pins D .next s') rfl hs ok.clos ok.kind ok.names
  (thn (hi pins s Z H _ I h) fun xv s1 h1=>thn h1 fun itv s2 h2=>?_)) (fun _ s' hq=>xp (xp hq)) fun _ _ e=>e)
 obtain⟨it,fp,tn,J,H2,e,I2,T,st2,f2,hW⟩:=h2;subst e;refine bT (Q:=fun x H1=>Il i x Z H1 D.nx) hc ok ht hg he I2 T st2 f2 hW (compPost (model X.prog X.w) X.A X.xe (some (assign (.Name y py) X.env)) (fun _ s'=>SP X pins D .next s')) fun Dd C H3 s4 I4 hm fC q=>?_
 obtain⟨m,hn⟩:=hm;show wpAny _ X.A (assign (.Name y py) X.env (.ref Dd)) _ _ _;refine wpAny_assign_Name (M9 I4 hN hiy hy (v:=.ref Dd) rfl (fun s5 I5 hsb=>?_) hf);obtain⟨a,sb,ha⟩:=hsb;have hCa:C≠a:=by
  rcases ha with rfl | ha
  ·exact fC.2.1
  ·exact(fC.2.2.2.2.1 _ _ ha).symm
 exact⟨m,hn.sameBut sb hCa,fun h' hsb'=>⟨_,H3,I5.turned (t':=s5.toks) (fun b o hb e=>hsb'.extBut b o hb e) fC.1 fC.2.1 fC.2.2.2.1 fC.2.2.2.2.1 fC.2.2.2.2.2,q⟩⟩
end
structure ACG(K:Fr)(mg:Str->Option Value)(x:Str)(CB f:Addr):Prop where
 bound:mg x=some (.ref CB)
 sp:PySem.W.specialIn K (.ref CB) "__getattribute__"=some (some (.builtin "type.__getattribute__"))
 rd:PySem.W.readsIn K CB (.type "type")=true
 fc:PySem.W.findCls K (.ref CB) (.type "type") "__init__"=some (.val (.ref f))
 kp:PySem.W.keepIn K (.ref f)=true
structure zW(P:Program)(w:World)(K:Fr)(mg:Str->Option Value)(base:Heap)(k:Nat)(x:Str)(ps:List Str)(sp:Sp):Prop where
 ex:∃(f CB:Addr) (fd:FuncData),Et P w K mg base CX0 k f fd ps sp/\Binds K fd ps []/\ACG K mg x CB f
section
variable{X:Cx}
theorem DY{k:Nat}{ps:List Str}{e:Expr}{es:List Expr}{t:TA}{p apos:Pos}{pl:Sem Bool}(O:zW X.prog X.w X.K X.mg X.base k x ps sp)(ha:PA X (e::es) t)(hr:Do k X.A:=by walk_at"hr")(hg:Gl X x:=by exact rfl)
 (hdb:(x==("__debug__":Str))=false:=by decide)(hst:starEach (e::es) X.env=(false,eval e X.env)::starEach es X.env:=by rfl)(hpl:(backTo pos (starEach es X.env)).any (·.1)=false:=by rfl)
 (ht:eval (.Call (.Attribute (.Name x p) "__init__" apos) (e::es) [] pos) X.env=(do
  let ov <-eval (.Name x p) X.env
  standAt apos.atName
  let (f,first) <-holding [ov] (getMethod ov "__init__" pl)
  callWith pos f first (backTo pos (starEach (e::es) X.env)) (backToKw pos (keywordEach [] X.env))):=by rfl):
 PE X (.Call (.Attribute (.Name x p) "__init__" apos) (e::es) [] pos) (cO sp [] E0 t):=by
 intro pins s Z H Q I h;obtain⟨f,CB,fd,F,hb,N⟩:=O.ex;refine jf6 (pl:=pl) (Mi I hg N.bound ?_ hdb) ht;refine PySem.W.method_cls I.kIn N.sp (PySem.W.cls_value I.kIn N.rd N.fc rfl ?_);have I1:Inv X pins Z H { s with toks:=s.toks+1 }:=I.tok _;refine jd4 (first:=[]) (h₀:=X.base) I.ok.mod.kin N.kp (thn (ha pos pins _ Z H _ I1 h) fun us s2 ⟨vs,H2,I2,r,q2⟩=>⟨I2.kIn,?_⟩) hst hpl
 exact Nm (us:=us) (vs:=vs) F hr hb .nil MJ I2 r q2
theorem aQ{k:Nat}{C:Addr}{ps:List Str}{p:Pos}(O:jN X.prog X.w X.K X.mg X.base CX0 k x C ps sp)(hr:Do (k+1) X.A)(hg:Gl X x)
 (hdb:(x==("__debug__":Str))=false:=by decide):PE X (.Call (.Name x p) [] [] pos) (U0 C sp [] E0 Zz):=by
 obtain⟨f,fd,F,hb,M,hm⟩:=O.ex;exact mD M F hr hg hm hb .nil MJ hdb
end
section
variable{X:Cx}
end
section
variable{X:Cx}
end
end L2
namespace L2
open PySem PySem.Spec PyProof.Rows PySem.Builtin PySem.Builtin.Str
noncomputable def plc(c:Nat):Nat->List Nat->List Nat
 | _,[]=>[]
 | k,a::l=>if a=c then k::plc c (k+1) l else plc c (k+1) l
noncomputable def spl(c:Nat):List Nat->List (List Nat)
 | []=>[[]]
 | a::l=>if a=c then []::spl c l else ((a::(spl c l).headD [])::(spl c l).drop 1)
theorem jt(c:Nat)(l:List Nat):spl c (c::l)=[]::spl c l:=by
 conv=>lhs;unfold spl
 rw[xz rfl]
theorem Vz{c a:Nat}(l:List Nat)(h:a≠c):spl c (a::l)=(a::(spl c l).headD [])::(spl c l).drop 1:=by
 conv=>lhs;unfold spl
 rw[yv h]
theorem Qy{a b:Str}(h:a.cps=b.cps):a=b:=by
 cases a;cases b;exact xo Str.mk h
theorem wD(c:Nat):∀l,spl c l≠[]
 | []=>fun h=>nomatch h
 | a::l=>by
  unfold spl;split
  ·exact fun h=>nomatch h
  ·exact fun h=>nomatch h
theorem Qh(c:Nat)(l:List Nat):spl c l=(spl c l).headD []::(spl c l).drop 1:=by
 have:=wD c l;cases h:spl c l with
 | nil=>exact absurd h this
 | cons p ps=>rfl
theorem cz(c:Nat):∀(l:List Nat) (k:Nat),(plc c k l).length+1=(spl c l).length
 | [],_=>rfl
 | a::l,k=>by
  have ih:=cz c l (k+1);unfold plc spl;split
  ·rw[qq,qq,ih]
  ·rw[ih,Qh c l];rfl
theorem U7(c:Nat):∀(l:List Nat) (k:Nat),(plc c k l).length=l.count c
 | [],_=>rfl
 | a::l,k=>by
  have ih:=U7 c l (k+1);unfold plc;rw[List.count_cons];split
  ·rename_i h
   rw[qq,ih,xz (by simpa using h)]
  ·rename_i h
   rw[ih,yv (by simpa using h)];rfl
theorem Qi(c:Nat):∀(p l:List Nat),c∉p->spl c (p++c::l)=p::spl c l
 | [],l,_=>jt c l
 | a::p,l,h=>by
  have ih:=Qi c p l fun z=>h (qr _ z);show spl c (a::(p++c::l))=_;rw[Vz _ (fun z=>h (by rw[z];exact qk)),ih];rfl
theorem Vy(c:Nat):∀(p:List Nat),c∉p->spl c p=[p]
 | [],_=>rfl
 | a::p,h=>by
  rw[Vz _ (fun z=>h (by rw[z];exact qk)),Vy c p fun z=>h (qr _ z)];rfl
theorem Nv(c:Nat)(L:List Nat):∀(l:List Nat) (k s0:Nat),L.drop k=l->s0<=k->k<=L.length->
 ((s0::(plc c k l).map (· +1)).zip (plc c k l++[L.length])).map (fun (ij:Nat×Nat)=>(L.drop ij.1).take (ij.2-ij.1))=((L.drop s0).take (k-s0)++(spl c l).headD [])::(spl c l).drop 1
 | [],k,s0,h,h1,h2=>by
  have e:k=L.length:=by
   have:=xo List.length h;rw[ja8] at this;simp at this;lia
  subst e;show[(L.drop s0).take (L.length-s0)]=[(L.drop s0).take (L.length-s0)++[]];rw[ya]
 | a::l,k,s0,h,h1,h2=>by
  have kl:k<L.length:=by
   have:=xo List.length h;rw[ja8,qq] at this;lia
  have hd:L.drop (k+1)=l:=by
   rw[<-List.drop_drop,h];rfl
  unfold plc spl;split
  ·have ih:=Nv c L l (k+1) (k+1) hd (qh _) kl;rw[xk,jh2,List.zip_cons_cons,xk,ih,Nat.sub_self,List.take_zero,ji5,<-Qh];show _=((L.drop s0).take (k-s0)++[])::spl c l;rw[ya]
  ·have ih:=Nv c L l (k+1) s0 hd (by lia) kl;rw[ih];have e:(L.drop s0).take (k+1-s0)=(L.drop s0).take (k-s0)++[a]:=by
    have hk:(L.drop s0)[k-s0]?=some a:=by
     rw[List.getElem?_drop,show s0+(k-s0)=k by lia];have:=xo (fun z=>z[0]?) h;simpa [List.getElem?_drop] using this
    rw[show k+1-s0=(k-s0)+1 by lia,ja0,hk];rfl
   rw[e,ke];rfl
noncomputable def cps(z:Str):List Nat:=z.cps.toList
theorem Ke(z:Str):(cps z).length=z.length:=ko
theorem Ws(x:Str)(c:Nat):∀(n k free:Nat) (acc:Array Nat),k+n=x.length+1->free<=k->acc.size<=k->
 (forIn (List.range' k n) (acc,free) (StrLaws.occBody x ⟨#[c]⟩ x.length (x.length+1))).run.fst.toList=acc.toList++plc c k ((cps x).drop k)
 | 0,k,free,acc,h,_,_=>by
  rw[uk (by rw[Ke];lia)];show acc.toList=acc.toList++[];rw[ya]
 | n+1,k,free,acc,h,hf,ha=>by
  rw[List.range'_succ,List.forIn_cons];have one:(⟨#[c]⟩:Str).length=1:=rfl;by_cases z:(cps x)[k]?=some c
  ·have kl:k<(cps x).length:=(xb.mp z).1;have hs:=(StrLaws.subAt_one x c k).mpr z;have ed:(cps x).drop k=c::(cps x).drop (k+1):=by
    rw[ja6 kl,(xb.mp z).2]
   have ih:=Ws x c n (k+1) (k+1) (acc.push k) (by lia) (qh _) (by rw[Array.size_push];lia);unfold StrLaws.occBody;rw[xz ⟨⟨⟨by show acc.size<x.length+1;lia,hf⟩,hs.1⟩,hs.2⟩,ed];unfold plc;rw[xz rfl];have e2:acc.toList++k::plc c (k+1) ((cps x).drop (k+1))=(acc.push k).toList++plc c (k+1) ((cps x).drop (k+1)):=by
    rw[Array.toList_push,ke];rfl
   rw[e2];exact ih
  ·have hs:¬(k+(⟨#[c]⟩:Str).length<=x.length/\subAt x ⟨#[c]⟩ k=true):=fun y=>z ((StrLaws.subAt_one x c k).mp y);have ih:=Ws x c n (k+1) free acc (by lia) (by lia) (by lia);have ep:plc c k ((cps x).drop k)=plc c (k+1) ((cps x).drop (k+1)):=by
    by_cases kl:k<(cps x).length
    ·rw[ja6 kl];have:(cps x)[k]≠c:=fun y=>z (by rw[qv kl,y]);show(if (cps x)[k]=c then _ else _)=_;rw[yv this]
    ·rw[uk (by lia),uk (by lia)];rfl
   unfold StrLaws.occBody;rw[yv fun y=>hs ⟨y.1.2,y.2⟩,ep];exact ih
theorem dM(x:Str)(c:Nat):occurrences x ⟨#[c]⟩ 0 x.length (x.length+1)=plc c 0 (cps x):=by
 rw[StrLaws.occ_eq];have:=Ws x c (x.length+1) 0 0 #[] (by lia) (qh _) (qh _);simpa using this
theorem Yc(x:Str)(c:Nat):partsBetween x (plc c 0 (cps x)) 1=(spl c (cps x)).map fun p=>(⟨p.toArray⟩:Str):=by
 have h:=Nv c (cps x) (cps x) 0 0 rfl (qh _) (ka _);rw[List.take_zero,ji5,<-Qh] at h;rw[<-h,vi];unfold partsBetween;rw[<-Ke];refine List.map_congr_left fun ij _=>?_;refine Qy (jf0.mp ?_);rw[StrLaws.strSub_toList];rfl
section
variable{X:Cx}
theorem Vv:∀(ps:List Str) (tk:Nat),Vals (ps.map V.str) (strsFrom tk ps)
 | [],_=>.nil
 | p::ps,tk=>.cons ⟨tk,rfl⟩ (Vv ps (tk+1))
theorem Qx:∀{zs:List Str} {us:List Value},Vals (zs.map V.str) us->StrsAre us zs
 | [],_,.nil=>.nil
 | z::zs,_,.cons r rs=>by
  obtain⟨t,rfl⟩:=(show ∃t,_=Value.str z t from r);exact .cons z t (Qx rs)
noncomputable def K3(c:Nat)(z:Str):List Str:=(spl c (cps z)).map fun p=>(⟨p.toArray⟩:Str)
theorem Xo(c:Nat)(z:Str):(K3 c z).length<=z.length+1:=by
 unfold K3;rw[jp,<-cz c (cps z) 0,U7,<-Ke];exact Nat.succ_le_succ List.count_le_length
theorem Ou{c:Nat}{z:Str}(h:plc c 0 (cps z)=[]):K3 c z=[z]:=by
 have e:=Yc z c;rw[h] at e;unfold K3;rw[<-e];show[strSub z 0 z.length]=[z];refine xo (fun y=>[y]) (Qy (jf0.mp ?_));rw[StrLaws.strSub_toList,List.drop_zero,Nat.sub_zero];exact yy (by show z.cps.toList.length<=z.cps.size;rw[ko];exact qh _)
noncomputable def xq:V->List V->Hp->VK->Prop:=fun x xs H Q=>∃z c,x=.str z/\xs=[.str ⟨#[c]⟩]/\c<256/\z.length<=1000000/\∀l,H l=none->Q (.ref l) (upd H l (.lst ((K3 c z).map V.str)))
theorem Mh:MtR X "str.split" xq:=by
 intro pins s Z H x xs v us Q I rx rs h;obtain⟨z,c,rfl,rfl,hc,hz,q⟩:=h;obtain⟨t,rfl⟩:=(show ∃t,v=Value.str z t from rx);obtain⟨u,rfl,ru⟩:=vals1 rs;obtain⟨t',rfl⟩:=(show ∃t,u=Value.str ⟨#[c]⟩ t from ru);have sl:z.length+1<=sizeLine:=zv (Nat.succ_le_succ hz) (by decide);have one:(⟨#[c]⟩:Str).length=1:=rfl;have itself:K3 c z=[z]->EP X pins Z Q (.ref s.heap.objs.size) { s with heap:=s.heap.push { cls:=.type "list",data:=.seq [Value.str z t].toArray } }:=fun e=>by
  refine⟨.ref _,_,I.laid (a:=s.heap.objs.size) (o:=.lst ((K3 c z).map V.str)) (fun _ _ e=>js _ e) (qh _) ⟨by rw[e];show 1<=sizeLine;decide,[Value.str z t],0,by rw[e];exact .cons ⟨t,rfl⟩ .nil,zw _ rfl⟩,rfl,q _ I.fresh⟩
 by_cases h1:(decide (z.length<(⟨#[c]⟩:Str).length)||decide (PySem.Builtin.Str.strKind z<PySem.Builtin.Str.strKind ⟨#[c]⟩))=true
 ·have e:K3 c z=[z]:=by
   have k1:PySem.Builtin.Str.strKind (⟨#[c]⟩:Str)=1:=by
    unfold PySem.Builtin.Str.strKind;simp[hc]
   have k0:1<=PySem.Builtin.Str.strKind z:=by
    unfold PySem.Builtin.Str.strKind
    repeat' split
    all_goals lia
   rw[k1,one,decide_eq_false (show ¬PySem.Builtin.Str.strKind z<1 by lia),Bool.or_false,decide_eq_true_eq] at h1;refine Ou ?_;have:cps z=[]:=jb7.mp (by rw[Ke];lia);rw[this];rfl
  exact call_meets F.slot_str_split (typeIs_str _ _ _) F.entry_str_split (F.args_str_split_2 _ _) (meets_str_split_cannot_occur z ⟨#[c]⟩ t t' h1) (itself e)
 ·have h1':=(Bool.not_eq_true _).mp h1;by_cases h2:(occurrences z ⟨#[c]⟩ 0 z.length (z.length+1)).isEmpty=true
  ·have e:K3 c z=[z]:=by
    rw[dM,List.isEmpty_iff] at h2;exact Ou h2
   exact call_meets F.slot_str_split (typeIs_str _ _ _) F.entry_str_split (F.args_str_split_2 _ _) (meets_str_split_not_found z ⟨#[c]⟩ t t' h1' rfl h2) (itself e)
  ·have h2':=(Bool.not_eq_true _).mp h2;have ep:partsBetween z (occurrences z ⟨#[c]⟩ 0 z.length (z.length+1)) (⟨#[c]⟩:Str).length=K3 c z:=by rw[dM];exact Yc z c
   refine call_meets F.slot_str_split (typeIs_str _ _ _) F.entry_str_split (F.args_str_split_2 _ _) (meets_str_split_sep z ⟨#[c]⟩ t t' h1' rfl h2' (by lia) (by rw[ep];exact zv (Xo c z) sl)) ?_;rw[ep];exact⟨.ref _,_,I.laid (a:=s.heap.objs.size) (o:=.lst ((K3 c z).map V.str)) (fun _ _ e=>js _ e) (qh _) ⟨by rw[jp];exact zv (Xo c z) sl,strsFrom s.toks (K3 c z),0,Vv _ _,zw _ rfl⟩,rfl,q _ I.fresh⟩
noncomputable def rJoin(K:Fr):V->List V->Hp->VK->Prop:=fun x xs H Q=>∃z l zs,x=.str z/\xs=[.ref l]/\SqL K H l (zs.map V.str)/\(zs.map (·.length)).sum+zs.length*z.length<=16777216/\Q (.str (Txt.join z zs)) H
theorem sU:MtR X "str.join" (rJoin X.K):=by
 intro pins s Z H x xs v us Q I rx rs h;obtain⟨z,l,zs,rfl,rfl,hl,hz,q⟩:=h;obtain⟨t,rfl⟩:=(show ∃t,v=Value.str z t from rx);obtain⟨u,rfl,ru⟩:=vals1 rs;obtain rfl:u=Value.ref l:=ru;obtain⟨its,r,pl,_⟩:=I.list hl;exact join_list pl.isList (by simpa using Qx r) hz fun t' k=>⟨.str _,H,I.tok _,⟨_,rfl⟩,q⟩
end
end L2
namespace L2
open PySem PySem.Spec PyProof.Rows
section
variable{s:Shared}{A:Around}{w:World}{prog:Program}
theorem yS{R:Result->Shared->Prop}{g:Addr}{x y d:Int}{t1 t2 t3:Tok}{k:Nat}(ha:A.handled=none)(hg:IsRange s.heap g x y d t1 t2 t3)(big:Builtin.Range.small x y d=false)(ek:Builtin.Range.rangeSize x y d=k)(fits:k<=2^24)(L:Addr)(res:Value)(m0:Nat)
 (hL:s.heap.get? L=some { cls:=.type "list",data:=.seq #[] m0 })
 (fin:∀hp tk ys m,(∀e o,e≠L->s.heap.get? e=some o->hp.get? e=some o)->hp.get? L=some { cls:=.type "list",dict:=none,data:=.seq ys m,slots:= #[] }->ItemsOf (fun i v=>∃t,v=.int (x+i*d) t) ys k->R (.ok (.ret res)) { s with heap:=hp,toks:=tk }):
 wpAny (model prog w) A.in1 (Builtin.List.listExtendWith (.ref L) (.ref g) res)
  (fun z s'=>match z with | .done f=>R (.ok f) s' | .again m=>m.quiet=true/\codeAny (model prog w) A m R s') (fun e s'=>R (.error e) s') s:=by
 have Lg:L≠g:=fun z=>by rw[z,hg] at hL;simp at hL
 have Ll:L<s.heap.objs.size:=zo hL;have Ln:L≠s.heap.objs.size:=uj Ll;have Lm:L∉[s.heap.objs.size]:=fun z=>Ln (vj.mp z);have Wl:=(Walks.longrange (prog:=prog) (w:=w) (A:=A.in1) ha s.heap.objs.size x d k).toS;have loop:∀(hp:Heap) (m tk:Nat),IsLongIter hp s.heap.objs.size (x+((0:Nat):Int)*d) ((k:Int)-((0:Nat):Int)) d->(∀e o,e≠L->s.heap.get? e=some o->hp.get? e=some o)->hp.get? L=some { cls:=.type "list",data:=.seq #[] m }->
  codeAny (model prog w) A (.builtin "list.extend.loop" ⟨[.ref L,.ref s.heap.objs.size,res],[]⟩) R { s with heap:=hp,toks:=tk }:=fun hp m tk it keep hL1=>by
  refine codeAny_extend_loopS Wl (by rw[sizeLine_eq];lia) L Lm res k 0 _ #[] m rfl (ka _) it hL1 (ItemsOf.nil _) fun s2 ys m2 mv hL2 hy=>?_;rw[Moved.eq_with mv];refine fin s2.heap s2.toks ys m2 (fun e o ne he=>mv.heap e o (fun z=>?_) (keep e o ne he)) hL2 hy;have el:=zo he;rcases qm.mp z with z1 | z1
  ·exact ne z1
  ·exact absurd el (by rw[vj.mp z1];exact jc9 _)
 unfold Builtin.List.listExtendWith;refine jv (wpAny_typeOf (T:="range") ⟨_,hg,rfl⟩ ?_);have q1:Builtin.List.listSameRef (.ref L) (.ref g)=false:=by unfold Builtin.List.listSameRef;simp[Lg]
 simp only[q1,show(Value.type "range"==Value.type "list")=false by decide,show(Value.type "range"==Value.type "tuple")=false by decide,Bool.or_false,Bool.false_eq_true,if_false];refine jv (wpAny_pyIter_longrange hg big ?_);refine jv (wpAny_holding (wpAny_hint_range (n:=k) (js _ hg) ek fits ?_));have it1:IsLongIter (s.heap.push { cls:=.type "longrange_iterator",data:=.fields #[rawInt x,rawInt (Builtin.Range.rangeSize x y d),rawInt d] }) s.heap.objs.size (x+((0:Nat):Int)*d) ((k:Int)-((0:Nat):Int)) d:=by
  rw[ek];show Heap.get? _ _=_;simpa using zw s.heap rfl
 have L1:=js { cls:=.type "longrange_iterator",data:=.fields #[rawInt x,rawInt (Builtin.Range.rangeSize x y d),rawInt d] } hL;refine wpAny_ite_split (fun _=>?_) (fun _=>xp ⟨plainId_quiet F.plain_extend_loop _,loop _ m0 _ it1 (fun e o _ he=>js _ he) L1⟩);refine jv (wpAny_rule (jv ?_));show wpAny _ _ (updateSeq L (·.push .none) >>= fun _=>updateSeq L (·.pop)) _ _ _;refine jv (wpAny_updateSeq L1 rfl ?_);have L2':=jf1 (Obj.mapSeq (·.push Value.none)) L1 rfl;refine wpAny_updateSeq (hz:=by seq_fits) L2' rfl ?_;have L3:=jf1 (Obj.mapSeq (·.pop)) L2' rfl;refine xp ⟨plainId_quiet F.plain_extend_loop _,loop _ _ _ ?_ (fun e o ne he=>?_) L3⟩
 ·exact(ja3 _ _ Ln).trans ((ja3 _ _ Ln).trans it1)
 ·rw[ja3 _ _ (Ne.symm ne),ja3 _ _ (Ne.symm ne)];exact js _ he
theorem sY{R:Result->Shared->Prop}{g:Addr}{x y d:Int}{t1 t2 t3:Tok}{k:Nat}(ha:A.handled=none)(hg:IsRange s.heap g x y d t1 t2 t3)(big:Builtin.Range.small x y d=false)(ek:Builtin.Range.rangeSize x y d=k)(fits:k<=2^24)(L:Addr)
 (hL:s.heap.get? L=some { cls:=.type "list",data:=.seq #[] })
 (fin:∀hp tk ys m,(∀e o,e≠L->s.heap.get? e=some o->hp.get? e=some o)->hp.get? L=some { cls:=.type "list",dict:=none,data:=.seq ys m,slots:= #[] }->ItemsOf (fun i v=>∃t,v=.int (x+i*d) t) ys k->R (.ok (.ret .none)) { s with heap:=hp,toks:=tk }):
 wpAny (model prog w) A.in1 (Builtin.«list.__init__» ⟨[.ref L,.ref g],[]⟩)
  (fun z s'=>match z with | .done f=>R (.ok f) s' | .again m=>m.quiet=true/\codeAny (model prog w) A m R s') (fun e s'=>R (.error e) s') s:=by
 have Lg:L≠g:=fun z=>by rw[z,hg] at hL;simp at hL
 show wpAny _ _ (Builtin.List.listItems (.ref L) >>= fun old=>Builtin.List.listUpdate (.ref L) (fun _=> #[]) >>= fun _=>letGo old.toList.reverse >>= fun _=>Builtin.List.listExtendWith (.ref L) (.ref g) .none) _ _ s;refine jv ?_;unfold Builtin.List.listItems;refine jv (je3 hL rfl (xp ?_));show wpAny _ _ (updateSeq L (fun _=> #[]) >>= fun _=>letGo (#[]:Array Value).toList.reverse >>= fun _=>Builtin.List.listExtendWith (.ref L) (.ref g) .none) _ _ s;refine jv (wpAny_updateSeq hL rfl ?_);have L1:=jf1 (Obj.mapSeq (fun _=>(#[]:Array Value))) hL rfl;have keep:∀e o,e≠L->s.heap.get? e=some o->(s.heap.update L (Obj.mapSeq (fun _=>(#[]:Array Value)))).get? e=some o:=fun e o ne he=>by
  rw[ja3 _ _ (Ne.symm ne)];exact he
 refine jv (wpAny_letGo (yS ha (keep g _ (Ne.symm Lg) hg) big ek fits L .none _ L1 fun hp tk ys m k1 k2 k3=>?_));exact fin hp tk ys m (fun e o ne he=>k1 e o ne (keep e o ne he)) k2 k3
theorem sZ{E:Value->Shared->Prop}{Q:Value->Shared->Prop}{g:Addr}{x y d:Int}{t1 t2 t3:Tok}{k:Nat}(ha:A.handled=none)(hg:IsRange s.heap g x y d t1 t2 t3)(ek:Builtin.Range.rangeSize x y d=k)(fits:k<=2^24)
 (fin:∀hp tk ys m,(∀e o,s.heap.get? e=some o->hp.get? e=some o)->hp.get? s.heap.objs.size=some { cls:=.type "list",dict:=none,data:=.seq ys m,slots:= #[] }->ItemsOf (fun i v=>∃t,v=.int (x+i*d) t) ys k->Q (.ref s.heap.objs.size) { s with heap:=hp,toks:=tk }):
 wpAny (model prog w) A (call (.type "list") [.ref g]) Q E s:=by
 by_cases sm:Builtin.Range.small x y d=true
 ·exact call_list_range ha hg sm ek fits fin
 have big:Builtin.Range.small x y d=false:=by simpa using sm
 refine callType_codes (Q₁:=fun u s2=>u=.ref s.heap.objs.size/\s2={ s with heap:=s.heap.push { cls:=.type "list",data:=.seq #[] } }) F.called_list (F.typeCall_list_1 _) F.entry_list_init (code_list_new _ ⟨rfl,rfl⟩) fun u s2 z=>?_;obtain⟨rfl,rfl⟩:=z;have L0:(s.heap.push { cls:=.type "list",data:=.seq #[] }).get? s.heap.objs.size=some { cls:=.type "list",data:=.seq #[] }:=zw _ rfl;refine⟨⟨_,L0,rfl⟩,F.args_list_init_2 _ _,sY (A:=A.in1) ha (js _ hg) big ek fits _ L0 fun hp tk ys m k1 k2 k3=>⟨rfl,?_⟩⟩;refine fin hp tk ys m (fun e o he=>k1 e o ?_ (js _ he)) k2 k3;exact uj (zo he)
end
section
variable{X:Cx}
noncomputable def zr(ta:TA):TE:=fun Z H Q=>ta Z H fun vs H1=>∃(i j:Int),vs=[.int i,.int j]/\i<=j/\j-i<=1000000/\
 ∀l,H1 l=none->Q (.ref l) (upd H1 l (.lst ((List.range (j-i).toNat).map fun(k:Nat)=>V.int (i+(k:Int)))))
theorem xX{ta:TA}{Z:St}{H:Hp}{Q:VK}(h:ta Z H fun vs H1=>∃(i j:Int),vs=[.int i,.int j]/\i<=j/\j-i<=1000000/\
 ∀l,H1 l=none->Q (.ref l) (upd H1 l (.lst ((List.range (j-i).toNat).map fun(k:Nat)=>V.int (i+(k:Int)))))):zr ta Z H Q:=h
theorem aR{a b:Expr}{ta:TA}{p p2 pos pos2:Pos}(hc:X.calm=true)(hgl:Gl X "list")(hml:X.mg "list"=none)(hgr:Gl X "range")(hmr:X.mg "range"=none)(ha:PA X [a,b] ta)
 (hs:starEach [a,b] X.env=(false,eval a X.env)::starEach [b] X.env:=by rfl)(hpl:(backTo pos2 (starEach [b] X.env)).any (·.1)=false:=by rfl)
 (hs1:starEach [.Call (.Name "range" p2) [a,b] [] pos2] X.env=(false,eval (.Call (.Name "range" p2) [a,b] [] pos2) X.env)::starEach [] X.env:=by rfl):
 PE X (.Call (.Name "list" p) [.Call (.Name "range" p2) [a,b] [] pos2] [] pos) (zr ta):=by
 intro pins s Z H Q I h;refine jc1 (G8 I hgl hml boot_list ?_ (by decide) (by decide));refine ui ?_ hs1 rfl;rw[hs1];show wpAny _ _ (spliced ((false,eval _ X.env)::backTo pos (starEach [] X.env))) _ _ s;refine Calls.spliced_cons ?_;refine Call_ (G8 I hgr hmr boot_range (ui (thn (ha pos2 pins s Z H _ I h) fun us s1 hZ=>?_) hs hpl));obtain⟨vs,H1,I1,r1,q1⟩:=hZ;obtain⟨i,j,rfl,ij,hz,q⟩:=q1;cases r1 with
 | cons r rr=>
  cases rr with
  | cons r' rr=>
   cases rr;obtain⟨t,rfl⟩:=r;obtain⟨t',rfl⟩:=r';refine call_range_2 (Calls.spliced_nil ?_);have I2:Inv X pins Z H1 { s1 with heap:=s1.heap.push { cls:=.type "range",data:=.fields #[.int i t,.int j t',.int 1 s1.toks] },toks:=s1.toks+1 }:=I1.kept fun b o e=>js _ e;have en:Builtin.Range.rangeSize i j 1=(((j-i).toNat:Nat):Int):=by rw[rangeSize_one];split<;>lia
   refine sZ (I2.ok.hd hc) (IsRange.new ..) en (by lia) fun h' tk acc' c' hk hS' hacc=>?_;have hl:acc'.toList.length=(j-i).toNat:=by simpa using hacc.1
   have ef:(fun (k:Nat)=>V.int (i+(k:Int)))=fun(k:Nat)=>V.int (i+(k:Int)*1):=by funext k;rw[Int.mul_one]
   rw[ef] at q;refine⟨.ref _,_,I2.laid (o:=.lst ((List.range (j-i).toNat).map fun(k:Nat)=>V.int (i+(k:Int)*1))) hk (qh _) ⟨?_,acc'.toList,c',?_,by simpa using hS'⟩,rfl,q _ I2.fresh⟩
   ·rw[jp,uu,sizeLine_eq];lia
   ·have:=HY (lo:=i) (c:=1) acc'.toList 0 fun j v hv=>by rw[Nat.zero_add];exact hacc.2 j v (by simpa using hv)
    rw[hl,<-List.range_eq_range'] at this;exact this
end
section
variable{X:Cx}
end
section
variable{M:Model}{A:Around}{E:Value->Shared->Prop}{s:Shared}{base:Heap}{env:Env}{outer l:List Env}{L e:Addr}{cls:Value}{dd:Option Addr}{fl:Value}
end
section
variable{X:Cx}{pins:List (Addr×Obj)}{Z:St}{H H':Hp}{s:Shared}{C ea:Addr}{cls:Value}{dx:Option Addr}{B h1 h2 h3:Heap}{fl:Value}
end
section
variable{X:Cx}{pins:List (Addr×Obj)}{Z:St}{H2:Hp}{s2:Shared}{M:List Str}{x:Str}{scope:Scope}{cl:List (Str×Addr)}{C:Addr}{fp:List Addr}{E:XK}{Qe:Value->Shared->Prop}{acc:Value}
end
section
variable{X:Cx}
end
end L2
namespace L2
open PySem PySem.Spec PyProof.Rows Builtin.Str
section
variable{X:Cx}
theorem gk:MtR X "str.rstrip" (fun x xs H Q=>∃z y,x=.str z/\xs=[.str y]/\z.length<=sizeLine/\Q (.str (if stripSame y.cps.contains false true z then z else stripped y.cps.contains false true z)) H):=by
 intro pins s Z H x xs v us Q I rx rs h;obtain⟨z,y,rfl,rfl,hz,q⟩:=h;obtain⟨t,rfl⟩:=(show ∃t,v=Value.str z t from rx);obtain⟨u,rfl,ru⟩:=vals1 rs;obtain⟨t',rfl⟩:=(show ∃t,u=Value.str y t from ru);refine call_gives F.slot_str_rstrip (typeIs_str _ _ _) F.entry_str_rstrip (F.args_str_rstrip_2 _ _) (gives_str_rstrip_chars z y t t') ?_;by_cases c:stripSame y.cps.contains false true z=true
 ·rw[xz c] at q ⊢;exact⟨.str _,H,I,⟨_,rfl⟩,q⟩
 ·rw[yv c] at q ⊢;exact⟨fits_stripped _ _ _ hz,.str _,H,I.tok _,⟨_,rfl⟩,q⟩
end
end L2
namespace L2
open PySem PySem.Spec PyProof.Rows
section
variable{prog:Program}{w:World}{A:Around}{R:Result->Shared->Prop}{I:Addr}{fp wr:List Addr}{n:Nat}{P:Nat->Value->Prop}{St:Nat->Heap->Prop}
end
section
variable{prog:Program}{w:World}{A:Around}{E:Value->Shared->Prop}{s:Shared}
end
section
variable{X:Cx}
end
end L2
namespace L2
open PySem
@[elab_as_elim] theorem fresh{P:Hp->Prop}{H:Hp}{l:Addr}{o:HO}(h:H l=none)(q:∀H',Ax H H'->H' l=some o->P H'):P (upd H l o):=q _ (Am h o) Ah
example {Q:V->Hp->Prop} {H:Hp} (q:∀l H',Ax H H'->H' l=some (.lst [.int 1])->Q (.ref l) H'):∀l,H l=none->Q (.ref l) (upd H l (.lst [.int 1])):=fun l hl=>by
 refine fresh hl fun H1 s1 t1=>?_;exact q l H1 s1 t1
end L2
namespace L2
open PySem PySem.Spec PyProof.Rows
section
variable{X:Cx}
end
section
variable{X:Cx}{M:List Str}{x:Str}{scope:Scope}{cl:List (Str×Addr)}{C:Addr}{s₀:Shared}{H₀:Hp}{fp:List Addr}
end
noncomputable def FnG(K:Fr)(g n q:Str)(st:Stmt):Prop:=∃f fd,PySem.W.nsIn K mainGlobals g=some (some (.ref f))/\Fun K n q st f fd
noncomputable def FnM(K:Fr)(C:Addr)(x n q:Str)(st:Stmt):Prop:=∃f fd,PySem.W.findIn K (.ref C) x=some (some (.ref f))/\Fun K n q st f fd/\PySem.W.typeIn K (.ref f)=some (.type "function")
noncomputable def Hv(n q:Str)(st:Stmt)(ps:List Str):Prop:=∀(kV doc pm:Value) (an:Option Addr) (cdv ct:Value) (us:List Value),us.length=ps.length->bindArgs (PySem.W.fnOf n q (Er st) (DW st) (BP st) .none kV doc pm an cdv ct) ⟨us,[]⟩=pure (ps.zip us)
theorem nU{K:Fr}{g n q:Str}{st:Stmt}{f:Addr}{oc:Value}{od an:Option Addr}{osl:Array (Option Value)}{kV doc pm cdv ct:Value}(a:PySem.W.nsIn K mainGlobals g=some (some (.ref f)))(l:K.lookup f=some ⟨oc,od,.func (PySem.W.fnOf n q (Er st) (DW st) (BP st) .none kV doc pm an cdv ct),osl⟩)
 (c:PySem.W.codeIn K cdv q=true)(k:PySem.W.keepIn K (.ref f)=true):FnG K g n q st:=⟨f,_,a,nQ l c k⟩
theorem yo{K:Fr}{C:Addr}{x n q:Str}{st:Stmt}{f:Addr}{oc:Value}{od an:Option Addr}{osl:Array (Option Value)}{kV doc pm cdv ct:Value}(a:PySem.W.findIn K (.ref C) x=some (some (.ref f)))(l:K.lookup f=some ⟨oc,od,.func (PySem.W.fnOf n q (Er st) (DW st) (BP st) .none kV doc pm an cdv ct),osl⟩)
 (c:PySem.W.codeIn K cdv q=true)(k:PySem.W.keepIn K (.ref f)=true)(u:PySem.W.typeIn K (.ref f)=some (.type "function")):FnM K C x n q st:=⟨f,_,a,nQ l c k,u⟩
section
variable{P:Program}{w:World}{K:Fr}{h:Heap}{mg:Str->Option Value}{base:Heap}{g n q:Str}{st:Stmt}{ps:List Str}{k:Nat}{sp:Sp}
theorem bU(X:K.In h)(G:h.Ns mainGlobals mg)(Q:FnG K g n q st)(b:Hv n q st ps)(ok:∀{f:Addr} {fd:FuncData},Fun K n q st f fd->Et P w K mg base CX0 k f fd ps sp):Cal P w K mg base k g ps sp:=by
 obtain⟨f,fd,a,F⟩:=Q;exact⟨⟨f,fd,ok F,F.binds b,F.kp,jg9 X G a⟩⟩
theorem uJ{CX:CXT}{C:Addr}(Q:FnM K C g n q st)(b:Hv n q st ps)(ok:∀{f:Addr} {fd:FuncData},Fun K n q st f fd->Et P w K mg base CX k f fd ps sp):jM P w K mg base CX k C g ps sp:=by
 obtain⟨f,fd,a,F,u⟩:=Q;exact⟨⟨f,fd,ok F,F.binds b,⟨a,ja5.mpr u,F.kp⟩⟩⟩
theorem uK{CX:CXT}{x:Str}{C:Addr}(X:K.In h)(G:h.Ns mainGlobals mg)(mk:PySem.W.makesIn K C=true)(kp:PySem.W.keepIn K (.ref C)=true)(nC:PySem.W.nsIn K mainGlobals x=some (some (.ref C)))(Q:FnM K C "__init__" n q st)(b:Hv n q st ps)(ok:∀{f:Addr} {fd:FuncData},Fun K n q st f fd->Et P w K mg base CX k f fd ps sp):jN P w K mg base CX k x C ps sp:=by
 obtain⟨f,fd,a,F,u⟩:=Q;exact⟨⟨f,fd,ok F,F.binds b,⟨mk,a,ja5.mpr u,kp⟩,jg9 X G nC⟩⟩
end
theorem RV{P:Program}{w:World}{K:Fr}{mg:Str->Option Value}{base:Heap}{CX:CXT}{k0:Nat}{m n q:Str}{st:Stmt}{ps:List Str}{Cs:List Addr}{sp:Nat->Sp}
 (hC:∀C∈Cs,Cls K C/\FnM K C m n q st)(b:Hv n q st ps)(z:∀vs H Q E,¬sp 0 vs H Q E)
 (step:∀(d:Nat) {f:Addr} {fd:FuncData},Oq P w K mg base CX (k0+d) m ps (Cs.map fun C=>(C,sp d))->Fun K n q st f fd->Et P w K mg base CX (k0+d+1) f fd ps (sp (d+1))):
 ∀d,Oq P w K mg base CX (k0+d) m ps (Cs.map fun C=>(C,sp d))
 | 0=>⟨fun p hp=>by
  obtain⟨C,hC',rfl⟩:=yk.mp hp;obtain⟨c,f,fd,a,F,u⟩:=hC C hC';exact⟨c,f,fd,⟨fun vs H Q E h=>absurd h (z vs H Q E),fun A outer s H args us vs Q E _ _ _ _ h=>absurd h (z vs H Q E)⟩,F.binds b,⟨a,ja5.mpr u,F.kp⟩⟩⟩
 | d+1=>⟨fun p hp=>by
  have R:=RV hC b z step d;obtain⟨C,hC',rfl⟩:=yk.mp hp;obtain⟨c,f,fd,a,F,u⟩:=hC C hC';exact⟨c,f,fd,step d R F,F.binds b,⟨a,ja5.mpr u,F.kp⟩⟩⟩
theorem all_nil{α:Type}{p:α->Prop}:∀x∈([]:List α),p x:=fun _ h=>(nomatch h)
theorem all_cons{α:Type}{p:α->Prop}{a:α}{l:List α}(h:p a)(t:∀x∈l,p x):∀x∈a::l,p x:=fun x hx=>by
 rcases qm.mp hx with e | e
 ·exact e ▸ h
 ·exact t x e
section
variable{X:Cx}{k:Nat}{q:Addr}{fd:FuncData}{p:Str}{sp:Sp}{xs:List V}{kf:Nat->Int}{J:Hp->Prop}{l:Addr}{pins:List (Addr×Obj)}{Z:St}
structure o8(X:Cx)(pins:List (Addr×Obj))(Z:St)(J:Hp->Prop)(l I S:Addr)(n:Nat)(arr:Array Value)(H:Hp)(s:Shared):Prop where
 inv:Inv X pins Z H s
 j:J H
 fI:Ih X pins H I
 fS:Ih X pins H S
 it:s.heap.IsListIter I l n
 st:∃c,s.heap.get? S=some (seqObj "list" arr c)
theorem Ih.at{H H':Hp}{b:Addr}(f:Ih X pins H b)(n:H' b=none):Ih X pins H' b:=⟨n,f.2⟩
theorem o8.next{I S:Addr}{n:Nat}{arr:Array Value}{H:Hp}{s:Shared}(hc:X.calm=true)(hlI:l≠I)(hSI:S≠I)(hJ:∀H,J H->SqL X.K H l xs)(M:o8 X pins Z J l I S n arr H s)(hn:n<xs.length){E:Value->Shared->Prop}{Q:Option Value->Shared->Prop}
 (hQ:∀v u h' tk,xs[n]?=some v->RelV v u->o8 X pins Z J l I S (n+1) arr H { s with heap:=h',toks:=tk }->Q (some u) { s with heap:=h',toks:=tk }):wpAny (model X.prog X.w) X.A.in1 (pyNext (.ref I)) Q E s:=by
 obtain⟨its,rv,pl,_⟩:=M.inv.list (hJ H M.j);have hh:X.A.in1.handled=none:=M.inv.ok.hd hc;have W:=Walks.list (prog:=X.prog) (w:=X.w) (A:=X.A.in1) hh I l hlI its.toArray;have hz:its.toArray.size=xs.length:=by rw[xi,rv.length]
 refine W.item n s Q E (by rw[hz];exact hn) ⟨M.it,pl.isList⟩ fun u h' tk hP hst hk=>?_;have hu:its[n]?=some u:=by simpa using hP
 have hv:xs[n]?=some xs[n]:=by simp[hn]
 generalize xs[n]=v at hv;obtain⟨u',hu',r⟩:=Vals.get rv hv;rw[hu] at hu';cases hu';obtain⟨f0,f1,f2,f3,f4,f5⟩:=M.fI;obtain⟨c,hS⟩:=M.st;exact hQ v u h' tk hv r ⟨M.inv.turned (fun b o ne e=>hk b o (by simpa using ne) e) f0 f1 f3 f4 f5,M.j,⟨f0,f1,f2,f3,f4,f5⟩,M.fS,hst.1,c,hk S _ (by simpa using hSI) hS⟩
end
section
variable{prog:Program}{w:World}{A:Around}{E:Value->Shared->Prop}{s:Shared}
theorem ak{it t:Addr}{i:Nat}{items:Array Value}{x:Value}{Q:Value->Shared->Prop}(hit:s.heap.IsTupleIter it t i)(ht:s.heap.IsTuple t items)(hx:items[i]?=some x)
 (hQ:∀h',h'.IsTupleIter it t (i+1)->Heap.SameBut it s.heap h'->Q x { s with heap:=h' }):wpAny (model prog w) A (Builtin.SmallTypes.nextOf (.ref it)) Q E s:=by
 obtain⟨o,ho,hc,hd⟩:=id hit;obtain⟨ol,hol,_,nl,hdl⟩:=ht;unfold Builtin.SmallTypes.nextOf;refine jv (jh1 (name:=Str.ofString "__next__") hit.typeIs F.slot_tuple_iterator_next (wpAny_call_entry F.slot_tuple_iterator_next hit.typeIs F.entry_tuple_iterator_next ?_ (F.args_tuple_iterator_next_1 _)));show wpAny _ _ (field (.ref it) 0 >>= _) _ _ s;refine jv (je5 ho hd (x:=.ref t) rfl ?_);show wpAny _ _ (if (Value.ref t==Value.none)=true then _ else _) _ _ s;rw[yv (show ¬((Value.ref t==Value.none)=true) from ze)];show wpAny _ _ (field (.ref it) 1 >>= _) _ _ s;refine jv (je5 ho hd (x:=.int i 0) rfl ?_);show wpAny _ _ (seqItems? (.ref t) >>= _) _ _ s;refine jv (je3 hol hdl ?_);simp only[zk,hx];refine jv (wpAny_setField ho hd (by simp) (xp ⟨x,rfl,xp (hQ _ ?_ (Heap.SameBut.update ..))⟩));exact⟨_,jf1 _ ho (Obj.isFreed_of_fields (Obj.data_mapFields hd _)),(Obj.cls_mapFields ..).trans hc,by rw[Obj.data_mapFields hd];simp[rawInt]⟩
theorem gh{it t:Addr}{i:Nat}{items:Array Value}{Q:Value->Shared->Prop}(hh:A.handled=none)(hit:s.heap.IsTupleIter it t i)(ht:s.heap.IsTuple t items)(hx:items[i]?=none)
 (hE:∀h' e,Heap.ExtBut it s.heap h'->(∃o,h'.get? e=some o/\o.cls=.type "StopIteration")->E (.ref e) { s with heap:=h' }):wpAny (model prog w) A (Builtin.SmallTypes.nextOf (.ref it)) Q E s:=by
 obtain⟨o,ho,hc,hd⟩:=id hit;obtain⟨ol,hol,_,nl,hdl⟩:=ht;unfold Builtin.SmallTypes.nextOf;refine jv (jh1 (name:=Str.ofString "__next__") hit.typeIs F.slot_tuple_iterator_next (wpAny_call_entry F.slot_tuple_iterator_next hit.typeIs F.entry_tuple_iterator_next ?_ (F.args_tuple_iterator_next_1 _)));show wpAny _ _ (field (.ref it) 0 >>= _) _ _ s;refine jv (je5 ho hd (x:=.ref t) rfl ?_);show wpAny _ _ (if (Value.ref t==Value.none)=true then _ else _) _ _ s;rw[yv (show ¬((Value.ref t==Value.none)=true) from ze)];show wpAny _ _ (field (.ref it) 1 >>= _) _ _ s;refine jv (je5 ho hd (x:=.int i 0) rfl ?_);show wpAny _ _ (seqItems? (.ref t) >>= _) _ _ s;refine jv (je3 hol hdl ?_);simp only[zk,hx];refine jv (wpAny_rule (jv (wpAny_setField ho hd (by simp) ?_)));show wpAny _ _ (newExc (.type "StopIteration") [] >>= _) _ _ _;refine jv ?_;simp only[newExc,newTuple];refine jv (wpAny_newObj_type ?_ (by size_fits));refine jv (m:=firstArgMember _ _) (wpAny_of_eq (a:=Value.none) (by first | rfl | (simp only[firstArgMember];rfl)) ?_)
 refine wpAny_newObj_type ?_ (by size_fits);simp only[raiseNew];refine jv (wpAny_handled ?_)
 first | rw[show A.in1.handled=none from hh] | rw[hh]
 refine jv (xp (wpAny_throw ?_));exact hE _ _ (((Heap.SameBut.update ..).extBut.push _).push _) ⟨_,zw _ rfl,rfl⟩
end
theorem n8{prog:Program}{w:World}{A:Around}(hh:A.handled=none)(it t:Addr)(hne:t≠it)(items:Array Value):
 Draws prog w A it [it,t] items.size (fun i v=>items[i]?=some v) (fun i h=>h.IsTupleIter it t i/\h.IsTuple t items) where
 live:=fun i h st=>let ⟨o,e,_⟩:=st.1;⟨o,e⟩
 frame:=fun i h h' st k=>⟨let ⟨o,e,r⟩:=st.1;⟨o,k it (by simp) o e,r⟩,let ⟨o,e,r⟩:=st.2;⟨o,k t (by simp) o e,r⟩⟩
 item:=fun i s Q E hi st hQ=>ak st.1 st.2 (x:=items[i]) (by simp[hi]) fun h' hit hs=>hQ _ h' s.toks (by simp[hi]) ⟨hit,st.2.extBut hs.extBut hne⟩ hs
 done:=fun s Q E st hE=>gh hh st.1 st.2 (by simp) hE
structure cF(z TI TO i1 i2:Addr)(f1 f2:List Addr):Prop where
 zTO:TO≠z
 zTI:TI≠z
 tt:TI≠TO
 t1:TI≠i1
 t2:TI≠i2
 m1:i1∈f1
 m2:i2∈f2
 z1:z∉f1
 z2:z∉f2
 o1:TO∉f1
 o2:TO∉f2
 n1:i2∉f1
 n2:i1∉f2
theorem Draws.sb{prog:Program}{w:World}{A:Around}{it c:Addr}{fp:List Addr}{n i:Nat}{P:Nat->Value->Prop}{St:Nat->Heap->Prop}{h h':Heap}(D:Draws prog w A it fp n P St)(st:St i h)(k:Heap.SameBut c h h')(nc:c∉fp):St i h':=
 D.frame i h h' st fun b hb o e=>k.extBut b o (fun z=>nc (z ▸ hb)) e
section
variable{prog:Program}{w:World}{A:Around}{E:Value->Shared->Prop}{s:Shared}{z TI TO i1 i2:Addr}{f1 f2:List Addr}{n1 n2 k:Nat}{P1 P2:Nat->Value->Prop}{S1 S2:Nat->Heap->Prop}{a b:Value}
theorem fB{Q:Value->Shared->Prop}(D:cF z TI TO i1 i2 f1 f2)(D1:Draws prog w A i1 f1 n1 P1 S1)(D2:Draws prog w A i2 f2 n2 P2 S2)
 (hz:IsZip s.heap z TI TO .none)(hTI:IsPair s.heap TI (.ref i1) (.ref i2))(hTO:IsPair s.heap TO a b)(h1:S1 k s.heap)(h2:S2 k s.heap)(l1:k<n1)(l2:k<n2)
 (hQ:∀x y h' tk,P1 k x->P2 k y->IsZip h' z TI TO (rawInt s.heap.objs.size)->IsPair h' TO x y->S1 (k+1) h'->S2 (k+1) h'->IsPair h' s.heap.objs.size x y->
  (∀c o,c≠z->c≠TO->c≠i1->c≠i2->s.heap.get? c=some o->h'.get? c=some o)->Q (.ref s.heap.objs.size) { s with heap:=h',toks:=tk }):
 wpAny (model prog w) A (Builtin.«zip.__next__» ⟨[.ref z],[]⟩) (fun fin s'=>∃v,fin=.done (.ret v)/\Q v s') E s:=by
 have zi1:z≠i1:=fun e=>D.z1 (e ▸ D.m1);have zi2:z≠i2:=fun e=>D.z2 (e ▸ D.m2);have oi1:TO≠i1:=fun e=>D.o1 (e ▸ D.m1);have oi2:TO≠i2:=fun e=>D.o2 (e ▸ D.m2);show wpAny _ _ (field (.ref z) 2 >>= _) _ _ _;refine jv (je5 hz rfl (x:=.bool false) rfl ?_);show wpAny _ _ (field (.ref z) 3 >>= _) _ _ _;refine jv (je5 hz rfl (x:=.ref TI) rfl ?_);refine jv (je3 hTI rfl ?_);show wpAny _ _ (Builtin.SmallTypes.ownedTupleIsFree (.ref z) >>= _) _ _ _;refine jv ?_;unfold Builtin.SmallTypes.ownedTupleIsFree;refine jv (je5 hz rfl (x:=.none) rfl (xp ?_));simp only[if_true];refine jv (wpAny_rule (jv (je5 hz rfl (x:=.ref TO) rfl ?_)));refine jv (jf7 hz (by simp) fun g1 hz1 q1=>jv ?_);replace hz1:IsZip g1 z TI TO .ellipsis:=hz1;simp only[List.zipIdx_cons,List.zipIdx_nil,List.forIn_cons,List.forIn_nil];refine jv (jv (wpAny_onRaise ?_));show wpAny _ _ (Builtin.SmallTypes.nextOf (.ref i1) >>= _) _ _ _;refine(jv (D1.item k _ _ _ l1 (Draws.sb D1 h1 q1 D.z1) fun x g2 tk2 px s2 q2=>xp ?_));have p2:IsPair g2 TO a b:=q2.extBut _ _ oi1 (q1.extBut _ _ D.zTO hTO);refine jv (je3 p2 rfl (jv (wpAny_updateSeq_pair p2 fun g3 p3 q3=>jv (wpAny_letGo (xp ?_)))));replace p3:IsPair g3 TO x b:=p3;refine jv (jv (wpAny_onRaise ?_));show wpAny _ _ (Builtin.SmallTypes.nextOf (.ref i2) >>= _) _ _ _;refine(jv (D2.item k _ _ _ l2 (Draws.sb D2 (Draws.sb D2 (Draws.sb D2 h2 q1 D.z2) q2 D.n2) q3 D.o2) fun y g4 tk4 py s4 q4=>xp ?_));have p4:IsPair g4 TO x b:=q4.extBut _ _ oi2 p3;refine jv (je3 p4 rfl (jv (wpAny_updateSeq_pair p4 fun g5 p5 q5=>jv (wpAny_letGo (xp (xp ?_))))));replace p5:IsPair g5 TO x y:=p5;refine jv (je3 p5 rfl (jv (wpAny_newTuple ?_)));have hsz:g5.objs.size=s.heap.objs.size:=by rw[q5.1,q4.1,q3.1,q2.1,q1.1]
 have z5:IsZip g5 z TI TO .ellipsis:=q5.extBut _ _ D.zTO.symm (q4.extBut _ _ zi2 (q3.extBut _ _ D.zTO.symm (q2.extBut _ _ zi1 hz1)));have zlt:z<g5.objs.size:=zo z5;have e1:S1 (k+1) g5:=Draws.sb D1 (Draws.sb D1 (Draws.sb D1 s2 q3 D.o1) q4 D.n1) q5 D.o1;have e2:S2 (k+1) g5:=Draws.sb D2 s4 q5 D.o2;show wpAny _ _ (Builtin.SmallTypes.ownedTupleHandOut (.ref z) (.ref g5.objs.size) >>= _) _ _ _;refine jv ?_;unfold Builtin.SmallTypes.ownedTupleHandOut;have z6:IsZip (g5.push { cls:=.type "tuple",data:=.seq #[x,y] }) z TI TO .ellipsis:=js _ z5;refine jv (jf7 z6 (by simp) fun g7 z7 q7=>?_);replace z7:IsZip g7 z TI TO (rawInt g5.objs.size):=z7;refine jf7 z7 (by simp) fun g8 z8 q8=>?_;replace z8:IsZip g8 z TI TO (rawInt g5.objs.size):=z8;have up:∀c o,c≠z->g5.get? c=some o->g8.get? c=some o:=fun c o n e=>q8.extBut _ _ n (q7.extBut _ _ n (js _ e));have t8:IsPair g8 g5.objs.size x y:=q8.extBut _ _ (Nat.ne_of_gt zlt) (q7.extBut _ _ (Nat.ne_of_gt zlt) (zw _ rfl));rw[hsz] at z8 t8;refine xp ⟨_,rfl,?_⟩;show Q (.ref g5.objs.size) _;rw[hsz];exact hQ x y g8 tk4 px py z8 (up _ _ D.zTO p5) (D1.frame _ _ _ e1 fun c hc o e=>up c o (fun q=>D.z1 (q ▸ hc)) e) (D2.frame _ _ _ e2 fun c hc o e=>up c o (fun q=>D.z2 (q ▸ hc)) e) t8
  fun c o c1 c2 c3 c4 e=>up c o c1 (q5.extBut _ _ c2 (q4.extBut _ _ c4 (q3.extBut _ _ c2 (q2.extBut _ _ c3 (q1.extBut _ _ c1 e)))))
theorem jO{Q:PySem.Fin->Shared->Prop}(D:cF z TI TO i1 i2 f1 f2)(D1:Draws prog w A i1 f1 n1 P1 S1)(D2:Draws prog w A i2 f2 n2 P2 S2)
 (hz:IsZip s.heap z TI TO .none)(hTI:IsPair s.heap TI (.ref i1) (.ref i2))(hTO:IsPair s.heap TO a b)(h1:S1 k s.heap)(h2:S2 k s.heap)(hk:k=n1\/k<n1/\k=n2)
 (hE:∀h' tk e,(∀c o,c≠z->c≠TO->c≠i1->c≠i2->s.heap.get? c=some o->h'.get? c=some o)->(∃o,h'.get? e=some o/\o.cls=.type "StopIteration")->E (.ref e) { s with heap:=h',toks:=tk }):
 wpAny (model prog w) A (Builtin.«zip.__next__» ⟨[.ref z],[]⟩) Q E s:=by
 have zi1:z≠i1:=fun e=>D.z1 (e ▸ D.m1);have zi2:z≠i2:=fun e=>D.z2 (e ▸ D.m2);have oi1:TO≠i1:=fun e=>D.o1 (e ▸ D.m1);have oi2:TO≠i2:=fun e=>D.o2 (e ▸ D.m2);show wpAny _ _ (field (.ref z) 2 >>= _) _ _ _;refine jv (je5 hz rfl (x:=.bool false) rfl ?_);show wpAny _ _ (field (.ref z) 3 >>= _) _ _ _;refine jv (je5 hz rfl (x:=.ref TI) rfl ?_);refine jv (je3 hTI rfl ?_);show wpAny _ _ (Builtin.SmallTypes.ownedTupleIsFree (.ref z) >>= _) _ _ _;refine jv ?_;unfold Builtin.SmallTypes.ownedTupleIsFree;refine jv (je5 hz rfl (x:=.none) rfl (xp ?_));simp only[if_true];refine jv (wpAny_rule (jv (je5 hz rfl (x:=.ref TO) rfl ?_)));refine jv (jf7 hz (by simp) fun g1 hz1 q1=>jv ?_);replace hz1:IsZip g1 z TI TO .ellipsis:=hz1;simp only[List.zipIdx_cons,List.zipIdx_nil,List.forIn_cons,List.forIn_nil];refine jv (jv (wpAny_onRaise ?_));show wpAny _ _ (Builtin.SmallTypes.nextOf (.ref i1) >>= _) _ _ _;rcases hk with e | ⟨l1,e⟩
 ·subst e;refine jv (D1.done _ _ _ (Draws.sb D1 h1 q1 D.z1) fun g2 e q2 hZ=>?_);obtain⟨oe,hoe,hce⟩:=hZ;have z2:IsZip g2 z TI TO .ellipsis:=q2 _ _ zi1 hz1;have ez:e≠z:=fun x=>by subst x;rw[z2] at hoe;cases hoe;simp at hce
  exact jf7 z2 (by simp) fun g3 _ q3=>hE g3 s.toks e (fun c o c1 _ c3 _ x=>q3.extBut _ _ c1 (q2 _ _ c3 (q1.extBut _ _ c1 x))) ⟨oe,q3.extBut _ _ ez hoe,hce⟩
 ·subst e;refine jv (D1.item k _ _ _ l1 (Draws.sb D1 h1 q1 D.z1) fun x g2 tk2 px s2 q2=>xp ?_);have p2:IsPair g2 TO a b:=q2.extBut _ _ oi1 (q1.extBut _ _ D.zTO hTO);refine jv (je3 p2 rfl (jv (wpAny_updateSeq_pair p2 fun g3 p3 q3=>jv (wpAny_letGo (xp ?_)))));refine jv (jv (wpAny_onRaise ?_));show wpAny _ _ (Builtin.SmallTypes.nextOf (.ref i2) >>= _) _ _ _;refine jv (D2.done _ _ _ (Draws.sb D2 (Draws.sb D2 (Draws.sb D2 h2 q1 D.z2) q2 D.n2) q3 D.o2) fun g4 e q4 hZ=>?_);obtain⟨oe,hoe,hce⟩:=hZ;have z4:IsZip g4 z TI TO .ellipsis:=q4 _ _ zi2 (q3.extBut _ _ D.zTO.symm (q2.extBut _ _ zi1 hz1));have ez:e≠z:=fun x=>by subst x;rw[z4] at hoe;cases hoe;simp at hce
  exact jf7 z4 (by simp) fun g5 _ q5=>hE g5 tk2 e (fun c o c1 c2 c3 c4 x=>q5.extBut _ _ c1 (q4 _ _ c4 (q3.extBut _ _ c2 (q2.extBut _ _ c3 (q1.extBut _ _ c1 x))))) ⟨oe,q5.extBut _ _ ez hoe,hce⟩
end
section
variable{prog:Program}{w:World}{A:Around}{E:Value->Shared->Prop}{s:Shared}{z TI TO i1 i2 l1 l2:Addr}{k:Nat}{xs ys:Array Value}{a b:Value}
theorem apart2(D:ZipApart z TI TO i1 i2 l1 l2):cF z TI TO i1 i2 [i1,l1] [i2,l2]:=
 ⟨D.TOz,D.TIz,D.TITO,D.TIi1,D.TIi2,by simp,by simp,by simp[D.i1z.symm,D.l1z.symm],by simp[D.i2z.symm,D.l2z.symm],by simp[D.TOi1,D.l1TO.symm],by simp[D.TOi2,D.l2TO.symm],by simp[D.i12.symm,D.l1i2.symm],by simp[D.i12,D.l2i1.symm]⟩
end
theorem IsTupleIter.at'{h h':Heap}{i t:Addr}{n:Nat}(x:h.IsTupleIter i t n)(k:∀o,h.get? i=some o->h'.get? i=some o):h'.IsTupleIter i t n:=let ⟨o,e,r⟩:=x;⟨o,k o e,r⟩
noncomputable abbrev zT1(h:Heap)(a:Addr):Heap:=h.push { cls:=.type "tuple_iterator",data:=.fields #[.ref a,.int 0 0] }
section
variable{X:Cx}
end
section
variable{P:Program}{w:World}{K:Fr}{h:Heap}{mg:Str->Option Value}{base:Heap}{k0 J:Nat}{g n q:Str}{st:Stmt}{ps:List Str}{sp:Nat->Sp}
theorem WX(X:K.In h)(G:h.Ns mainGlobals mg)(F:FnG K g n q st)(b:Hv n q st ps)(z:∀vs H Q E,¬sp 0 vs H Q E)
 (step:∀(d:Nat) {f:Addr} {fd:FuncData},Cal P w K mg base (k0+J*d) g ps (sp d)->Fun K n q st f fd->Et P w K mg base CX0 (k0+J*d+J) f fd ps (sp (d+1))):
 ∀d,Cal P w K mg base (k0+J*d) g ps (sp d)
 | 0=>bU X G F b fun _=>⟨fun vs H Q E h=>absurd h (z vs H Q E),fun A outer s H args us vs Q E _ _ _ _ h=>absurd h (z vs H Q E)⟩
 | d+1=>by
  have R:=WX X G F b z step d;rw[show k0+J*(d+1)=k0+J*d+J by rw[Nat.mul_succ,Nat.add_assoc]];exact bU X G F b fun F'=>step d R F'
end
end L2
namespace L2
open PySem PySem.Spec PyProof.Rows Builtin.Str
section
variable{X:Cx}
theorem gn:MtR X "str.lstrip" (fun x xs H Q=>∃z y,x=.str z/\xs=[.str y]/\z.length<=sizeLine/\Q (.str (if stripSame y.cps.contains true false z then z else stripped y.cps.contains true false z)) H):=by
 intro pins s Z H x xs v us Q I rx rs h;obtain⟨z,y,rfl,rfl,hz,q⟩:=h;obtain⟨t,rfl⟩:=(show ∃t,v=Value.str z t from rx);obtain⟨u,rfl,ru⟩:=vals1 rs;obtain⟨t',rfl⟩:=(show ∃t,u=Value.str y t from ru);refine call_gives F.slot_str_lstrip (typeIs_str _ _ _) F.entry_str_lstrip (F.args_str_lstrip_2 _ _) (gives_str_lstrip_chars z y t t') ?_;by_cases c:stripSame y.cps.contains true false z=true
 ·rw[xz c] at q ⊢;exact⟨.str _,H,I,⟨_,rfl⟩,q⟩
 ·rw[yv c] at q ⊢;exact⟨fits_stripped _ _ _ hz,.str _,H,I.tok _,⟨_,rfl⟩,q⟩
end
end L2
namespace L2
open PySem PySem.W PySem.Spec PyProof.Rows
section
variable{κ:Type}[DecidableEq κ]
noncomputable def Fp(kvs:List (κ×V))(k:κ):Option V:=(kvs.find? fun kv=>decide (kv.1=k)).map (·.2)
noncomputable def putK(kvs:List (κ×V))(k:κ)(v:V):List (κ×V):=
 if (kvs.any fun kv=>decide (kv.1=k))=true then kvs.map (fun kv=>if kv.1=k then (kv.1,v) else kv) else kvs++[(k,v)]
theorem FP{p:κ×V}{r:List (κ×V)}{k:κ}(e:p.1=k):Fp (p::r) k=some p.2:=by simp[Fp,ji4,e]
theorem FQ{p:κ×V}{r:List (κ×V)}{k:κ}(e:¬p.1=k):Fp (p::r) k=Fp r k:=by simp[Fp,ji4,e]
theorem Lf(k:κ):∀kvs:List (κ×V),(kvs.any fun kv=>decide (kv.1=k))=(Fp kvs k).isSome
 | []=>rfl
 | p::r=>by
  rw[List.any_cons];by_cases e:p.1=k
  ·simp only[FP e,decide_eq_true e,Bool.true_or,Option.isSome_some]
  ·rw[FQ e,decide_eq_false e,Bool.false_or];exact Lf k r
theorem Xh(k j:κ)(y:V):∀kvs:List (κ×V),Fp (kvs.map fun kv=>if kv.1=k then (kv.1,y) else kv) j=(Fp kvs j).map fun x=>if j=k then y else x
 | []=>rfl
 | p::r=>by
  have ih:=Xh k j y r;rw[xk];by_cases h:p.1=k
  ·rw[xz h];by_cases e:p.1=j
   ·rw[FP (p:=(p.1,y)) e,FP e,Option.map_some,xz (e.symm.trans h)]
   ·rw[FQ (p:=(p.1,y)) e,FQ e,ih]
  ·rw[yv h];by_cases e:p.1=j
   ·rw[FP (p:=p) e,FP e,Option.map_some,yv (fun z=>h (e.trans z))]
   ·rw[FQ (p:=p) e,FQ e,ih]
theorem Uz(k j:κ)(y:V):∀kvs:List (κ×V),Fp kvs k=none->Fp (kvs++[(k,y)]) j=if j=k then some y else Fp kvs j
 | [],_=>by
  by_cases e:k=j
  ·rw[xz e.symm];exact FP (p:=(k,y)) e
  ·rw[yv (fun z=>e z.symm)];exact FQ (p:=(k,y)) e
 | p::r,hn=>by
  rw[jh2];have hk:¬p.1=k:=fun z=>by rw[FP z] at hn;cases hn
  rw[FQ hk] at hn;have ih:=Uz k j y r hn;by_cases e:p.1=j
  ·rw[FP e,FP e,yv (fun z=>hk (e.trans z))]
  ·rw[FQ e,FQ e,ih]
theorem jW(kvs:List (κ×V))(k j:κ)(y:V):Fp (putK kvs k y) j=if j=k then some y else Fp kvs j:=by
 unfold putK;by_cases a:(kvs.any fun kv=>decide (kv.1=k))=true
 ·rw[xz a,Xh];rw[Lf] at a;by_cases e:j=k
  ·obtain⟨x,hx⟩:=jb3.mp a;rw[xz e,e,hx,Option.map_some,xz rfl]
  ·rw[yv e];cases Fp kvs j with
   | none=>rfl
   | some x=>rw[Option.map_some,yv e]
 ·rw[yv a];refine Uz k j y kvs ?_;rw[Lf] at a;cases q:Fp kvs k with
  | none=>rfl
  | some x=>rw[q] at a;exact(a rfl).elim
theorem Jz(kvs:List (κ×V))(k:κ)(v:V):(putK kvs k v).length<=kvs.length+1:=by
 unfold putK;split
 ·rw[jp];lia
 ·rw[qf,qq,jg3];lia
theorem JX.isSome_eq{o:Option V}{u:Option Value}(r:JX o u):o.isSome=u.isSome:=by
 cases o with
 | none=>cases u with
  | none=>rfl
  | some _=>exact(show False from r).elim
 | some _=>cases u with
  | none=>exact(show False from r).elim
  | some _=>rfl
theorem JX.getD{o:Option V}{u:Option Value}{d:V}{d':Value}(r:JX o u)(rd:RelV d d'):RelV (o.getD d) (u.getD d'):=by
 cases o with
 | none=>cases u with
  | none=>exact rd
  | some _=>exact(show False from r).elim
 | some _=>cases u with
  | none=>exact(show False from r).elim
  | some _=>exact r
theorem KV.val{kvs:List (κ×V)}{vs:List (κ×Value)}(r:KV kvs vs)(k:κ):JX (Fp kvs k) (valueAt vs k):=by
 unfold KV at r
 induction r with
 | nil=>exact True.intro
 | @cons p q ps qs h t ih=>
  obtain⟨h1,h2⟩:=h;by_cases e:p.1=k
  ·have e':q.1=k:=h1.symm.trans e;have b:valueAt (q::qs) k=some q.2:=by simp[valueAt,ji4,e']
   rw[FP e,b];exact h2
  ·have e':¬q.1=k:=fun z=>e (h1.trans z);have b:valueAt (q::qs) k=valueAt qs k:=by simp[valueAt,ji4,e']
   rw[FQ e,b];exact ih
theorem KV.any{kvs:List (κ×V)}{vs:List (κ×Value)}(r:KV kvs vs)(k:κ):(kvs.any fun kv=>decide (kv.1=k))=vs.any fun kv=>decide (kv.1=k):=by
 unfold KV at r
 induction r with
 | nil=>rfl
 | cons h t ih=>rw[List.any_cons,List.any_cons,ih,h.1]
theorem KV.repl{kvs:List (κ×V)}{vs:List (κ×Value)}(r:KV kvs vs)(k:κ){y:V}{u:Value}(ry:RelV y u):
 KV (kvs.map fun kv=>if kv.1=k then (kv.1,y) else kv) (vs.map fun kv=>if kv.1=k then (kv.1,u) else kv):=by
 unfold KV at r ⊢
 induction r with
 | nil=>exact .nil
 | @cons p q ps qs h t ih=>
  rw[xk,xk];refine .cons ?_ ih;obtain⟨h1,h2⟩:=h;by_cases e:p.1=k
  ·rw[xz e,xz (h1.symm.trans e)];exact⟨h1,ry⟩
  ·rw[yv e,yv (fun z=>e (h1.trans z))];exact⟨h1,h2⟩
theorem KV.put{kvs:List (κ×V)}{vs:List (κ×Value)}(r:KV kvs vs)(k:κ){y:V}{u:Value}(ry:RelV y u):KV (putK kvs k y) (stored vs k u):=by
 unfold putK stored;rw[r.any k];by_cases e:(vs.any fun kv=>decide (kv.1=k))=true
 ·rw[xz e,xz e];exact r.repl k ry
 ·rw[yv e,yv e];exact Paired.snoc r ⟨rfl,ry⟩
theorem KV.length{kvs:List (κ×V)}{vs:List (κ×Value)}(r:KV kvs vs):kvs.length=vs.length:=Paired.length r
end
theorem Rj{P:Program}{w:World}{k:Key}{u:Value}(r:RelV (kV k) u):(Eg P w).is k u=true:=by
 cases k with
 | inl i=>obtain⟨t,e⟩:=(show ∃t,u=Value.int i t from r);subst e;exact Yj P w i t
 | inr x=>obtain⟨t,e⟩:=(show ∃t,u=Value.str x t from r);subst e;exact Jx P w x t
theorem VM{P:Program}{w:World}:∀{ks:List Key} {us:List Value},Vals (ks.map kV) us->ItemsAre (Eg P w) ks us
 | [],_,r=>by rw[List.map_nil] at r;cases r;exact .nil
 | k::ks,_,r=>by
  rw[xk] at r;cases r with
  | cons h t=>exact .cons (Rj h) (VM t)
noncomputable abbrev KT(H:Hp):List (List Key×V)->List (List Key×Addr×Value)->Prop:=Paired fun p q=>p.1=q.1/\H q.2.1=some (.tup (p.1.map kV))/\RelV p.2 q.2.2
variable{H:Hp}
theorem KT.val{kvs:List (List Key×V)}{xs:List (List Key×Addr×Value)}(r:KT H kvs xs)(k:List Key):JX (Fp kvs k) ((atKey xs k).map (·.2)):=by
 induction r with
 | nil=>exact True.intro
 | @cons p q ps qs h t ih=>
  obtain⟨h1,_,h2⟩:=h;by_cases e:p.1=k
  ·have e':q.1=k:=h1.symm.trans e;have b:atKey (q::qs) k=some q.2:=by simp[atKey,ji4,e']
   rw[FP e,b];exact h2
  ·have e':¬q.1=k:=fun z=>e (h1.trans z);have b:atKey (q::qs) k=atKey qs k:=by simp[atKey,ji4,e']
   rw[FQ e,b];exact ih
theorem KT.repl{kvs:List (List Key×V)}{xs:List (List Key×Addr×Value)}(r:KT H kvs xs)(k:List Key){y:V}{u:Value}(ry:RelV y u):
 KT H (kvs.map fun kv=>if kv.1=k then (kv.1,y) else kv) (xs.map (putAt k u)):=by
 induction r with
 | nil=>exact .nil
 | @cons p q ps qs h t ih=>
  rw[xk,xk];refine .cons ?_ ih;obtain⟨h1,h2,h3⟩:=h;unfold putAt;by_cases e:p.1=k
  ·rw[xz e,xz (h1.symm.trans e)];exact⟨h1,h2,ry⟩
  ·rw[yv e,yv (fun z=>e (h1.trans z))];exact⟨h1,h2,h3⟩
theorem KT.put{kvs:List (List Key×V)}{xs:List (List Key×Addr×Value)}(r:KT H kvs xs)(k:List Key){b:Addr}{y:V}{u:Value}(hb:H b=some (.tup (k.map kV)))(ry:RelV y u):
 KT H (putK kvs k y) (storedH xs k b u):=by
 have e:(kvs.any fun kv=>decide (kv.1=k))=(atKey xs k).isSome:=by
  rw[Lf,(r.val k).isSome_eq,Option.isSome_map]
 unfold putK storedH;rw[e];by_cases q:(atKey xs k).isSome=true
 ·rw[xz q,xz q];exact r.repl k ry
 ·rw[yv q,yv q];exact Paired.snoc r ⟨rfl,hb,ry⟩
theorem KT.keeps{H':Hp}{kvs:List (List Key×V)}{xs:List (List Key×Addr×Value)}(r:KT H kvs xs)(ht:∀b ys,H b=some (.tup ys)->H' b=some (.tup ys)):KT H' kvs xs:=
 Paired.mapP r fun _ _ z=>⟨z.1,ht _ _ z.2.1,z.2.2⟩
section
variable{P:Program}{w:World}{H:Hp}{h:Heap}{a:Addr}
theorem vC{u:HO}(ok:HOk P w H h)(e:Rd H a u):Ef P w H h a u:=e.ok ok
theorem d8{kvs:List (Key×V)}(ok:HOk P w H h)(e:Rd H a (.dK kvs)):kvs.length<=sizeLine/\(a==sysModules)=false/\∃vs,KV kvs vs/\h.DictOf (Eg P w) a vs:=
 show Ef P w H h a (.dK kvs) from vC ok e
theorem ABZ{kvs:List (Key×V)}(ok:HOk P w H h)(e:H a=some (.dK kvs)):kvs.length<=sizeLine/\(a==sysModules)=false/\∃vs,KV kvs vs/\h.DictOf (Eg P w) a vs:=d8 ok (.inl e)
theorem W0{ks:List Key}(ok:HOk P w H h)(e:H a=some (.tup (ks.map kV))):(tupleKind (Eg P w)).is h ks a:=by
 obtain⟨_,its,r,o,h1,h2,n,h3⟩:=(show Ef P w H h a (.tup (ks.map kV)) from ok a _ e);exact⟨o,its.toArray,n,h1,h2,h3,by simpa using VM r⟩
theorem dz{kvs:List (List Key×V)}(ok:HOk P w H h)(e:Rd H a (.dT kvs)):kvs.length<=sizeLine/\(a==sysModules)=false/\
 ∃xs,KT H kvs xs/\h.DictOfH (tupleKind (Eg P w)) a xs:=by
 obtain⟨z,y,xs,r,o,es,ep,h1,h2,h3,h4,h5⟩:=(show Ef P w H h a (.dT kvs) from vC ok e);refine⟨z,y,xs,r,o,es,ep,h1,h2,h3,h4,fun x hx=>?_,h5⟩;have all:∀{l:List (List Key×V)} {m:List (List Key×Addr×Value)},KT H l m->∀x∈m,(tupleKind (Eg P w)).is h x.1 x.2.1:=by
  intro l m q
  induction q with
  | nil=>intro x hx;exact nomatch hx
  | @cons p q ps qs hq t ih=>
   intro x hx;rcases qm.mp hx with e | hx
   ·subst e;exact W0 ok (by rw[<-hq.1];exact hq.2.1)
   ·exact ih x hx
 exact all r x hx
theorem ABY{kvs:List (List Key×V)}(ok:HOk P w H h)(e:H a=some (.dT kvs)):kvs.length<=sizeLine/\(a==sysModules)=false/\
 ∃xs,KT H kvs xs/\h.DictOfH (tupleKind (Eg P w)) a xs:=dz ok (.inl e)
end
noncomputable def Qf(H:Hp)(a:Addr)(y:V)(r:Option V):Prop:=
 (∃kvs k,Rd H a (.dK kvs)/\y=kV k/\r=Fp kvs k)\/∃kvs k b,Rd H a (.dT kvs)/\y=.ref b/\H b=some (.tup (k.map kV))/\r=Fp kvs k
noncomputable def Zm(H:Hp)(a:Addr)(y v:V)(H':Hp):Prop:=
 (∃kvs k,H a=some (.dK kvs)/\y=kV k/\kvs.length<sizeLine/\H'=upd H a (.dK (putK kvs k v)))\/
 ∃kvs k b,H a=some (.dT kvs)/\y=.ref b/\H b=some (.tup (k.map kV))/\kvs.length<sizeLine/\H'=upd H a (.dT (putK kvs k v))
theorem Qf.k{a:Addr}{kvs:List (Key×V)}{k:Key}(e:H a=some (.dK kvs)):Qf H a (kV k) (Fp kvs k):=.inl ⟨kvs,k,.inl e,rfl,rfl⟩
theorem Qf.t{a b:Addr}{kvs:List (List Key×V)}{k:List Key}(e:H a=some (.dT kvs))(eb:H b=some (.tup (k.map kV))):Qf H a (.ref b) (Fp kvs k):=.inr ⟨kvs,k,b,.inl e,rfl,eb,rfl⟩
theorem Zm.k{a:Addr}{kvs:List (Key×V)}{k:Key}{v:V}(e:H a=some (.dK kvs))(hl:kvs.length<sizeLine):Zm H a (kV k) v (upd H a (.dK (putK kvs k v))):=.inl ⟨kvs,k,e,rfl,hl,rfl⟩
theorem Zm.t{a b:Addr}{kvs:List (List Key×V)}{k:List Key}{v:V}(e:H a=some (.dT kvs))(eb:H b=some (.tup (k.map kV)))(hl:kvs.length<sizeLine):
 Zm H a (.ref b) v (upd H a (.dT (putK kvs k v))):=.inr ⟨kvs,k,b,e,rfl,eb,hl,rfl⟩
section
variable{X:Cx}{pins:List (Addr×Obj)}{Z:St}{H:Hp}{s:Shared}{a:Addr}{y v:V}{u r:Value}{o:Option V}{A:Around}{E:Value->Shared->Prop}
theorem Inv.big(I:Inv X pins Z H s):sysModules<s.heap.objs.size:=by
 have h:mainGlobals<s.heap.objs.size:=(I.mod.glob.keeps I.bk).lt;exact Nat.lt_trans (by decide) h
theorem ie{Q:Value->Shared->Prop}(hu:A.units+1<cLine)(I:Inv X pins Z H s)(g:Qf H a y (some v))(ry:RelV y u)(h:∀w' s',Inv X pins Z H s'->RelV v w'->Q w' s'):
 wpAny (model X.prog X.w) A (getItem (.ref a) u) Q E s:=by
 rcases g with ⟨kvs,k,e,ey,l⟩ | ⟨kvs,k,b,e,ey,eb,l⟩
 ·subst ey;obtain⟨z,hd,vs,rel,dd⟩:=d8 I.hok e;obtain⟨w',hw,rw'⟩:=JX.some_of (v:=v) (o:=valueAt vs k) (by rw[l];exact rel.val k);exact wpAny_getItem_of (Rj ry) dd.mapOf hw (h w' _ (I.tok _) rw')
 ·subst ey;cases (show u=Value.ref b from ry);obtain⟨z,hd,xs,rel,dd⟩:=dz I.hok e;obtain⟨w',hw,rw'⟩:=JX.some_of (v:=v) (o:=(atKey xs k).map (·.2)) (by rw[l];exact rel.val k);obtain⟨p,hp,hp2⟩:=ja4.mp hw;refine wpAny_getItem_heap (tupleKind_room_in1 hu) (W0 I.hok eb) dd hp ?_;rw[hp2];exact h w' _ (I.tok _) rw'
theorem uE{Q:Value->Shared->Prop}(hu:A.units+1<cLine)(I:Inv X pins Z H s)(g:Qf H a y o)(ry:RelV y u)(h:∀s',Inv X pins Z H s'->Q (.bool (!o.isSome)) s'):
 wpAny (model X.prog X.w) A (compareOp .NotIn u (.ref a)) Q E s:=by
 rcases g with ⟨kvs,k,e,ey,l⟩ | ⟨kvs,k,b,e,ey,eb,l⟩
 ·subst ey;obtain⟨z,hd,vs,rel,dd⟩:=d8 I.hok e;refine wpAny_notIn_of (Rj ry) hd dd.mapOf ?_;rw[<-(rel.val k).isSome_eq,<-l];exact h _ (I.tok _)
 ·subst ey;cases (show u=Value.ref b from ry);obtain⟨z,hd,xs,rel,dd⟩:=dz I.hok e;refine wpAny_notIn_heap (tupleKind_room_in1 hu) (W0 I.hok eb) hd dd ?_;have q:=(rel.val k).isSome_eq;rw[Option.isSome_map] at q;rw[<-q,<-l];exact h _ (I.tok _)
theorem eG{h':Heap}{t':Nat}{ob:HO}(I:Inv X pins Z H s)(mu:Mut (H a))(hs:Heap.SameBut a s.heap h')(he:∃q,h'.get? a=some q)(new:Ef X.prog X.w (upd H a ob) h' a ob):
 Inv X pins Z (upd H a ob) { s with heap:=h',toks:=t' }:=
 I.write (x:=a) (e:=a) mu (.inl rfl) (fun b q hb z=>(hs.2 b hb).trans z) he new
theorem yw{P:Program}{w:World}{H':Hp}{h':Heap}{kvs:List (Key×V)}{vs:List (Key×Value)}(z:kvs.length<=sizeLine)(hd:(a==sysModules)=false)(rel:KV kvs vs)(dd:h'.DictOf (Eg P w) a vs):
 Ef P w H' h' a (.dK kvs):=⟨z,hd,vs,rel,dd⟩
theorem iZ{H':Hp}{Q:Unit->Shared->Prop}(hu:A.units+1<cLine)(I:Inv X pins Z H s)(g:Zm H a y v H')(ry:RelV y u)(rv:RelV v r)(h:∀s',Inv X pins Z H' s'->Q () s'):
 wpAny (model X.prog X.w) A (setItem (.ref a) u r) Q E s:=by
 rcases g with ⟨kvs,k,e,ey,l,eH⟩ | ⟨kvs,k,b,e,ey,eb,l,eH⟩
 ·subst ey eH;obtain⟨z,hd,vs,rel,dd⟩:=ABZ I.hok e;have hz:vs.length<=sizeLine:=by rw[<-rel.length];exact z
  have hl:(putK kvs k v).length<=sizeLine:=by have:=Jz kvs k v;lia
  refine wpAny_setItem_pairs (hsz:=hz) (Rj ry) dd fun h' dd' hs=>h _ ?_;have he:∃q,h'.get? a=some q:=let ⟨q,_,_,hq,_⟩:=dd';⟨q,hq⟩;exact eG I (by rw[e];exact True.intro) hs he (yw hl hd (rel.put k rv) dd')
 ·subst ey eH;cases (show u=Value.ref b from ry);obtain⟨z,hd,xs,rel,dd⟩:=ABY I.hok e;have hz:xs.length<=sizeLine:=by rw[<-Paired.length rel];exact z
  have hl:(putK kvs k v).length<=sizeLine:=by have:=Jz kvs k v;lia
  refine wpAny_setItem_heap (hsz:=hz) (tupleKind_room_in1 hu) (W0 I.hok eb) dd fun h' dd' hs=>h _ ?_;obtain⟨q,es,ep,hq,h2,h3,h4,_,h5⟩:=dd';refine eG I (by rw[e];exact True.intro) hs ⟨q,hq⟩ ⟨hl,hd,_,(rel.put k eb rv).keeps fun c ys ec=>?_,q,es,ep,hq,h2,h3,h4,h5⟩;rw[Aw (Ij ec e (fun z=>nomatch z))];exact ec
end
section
variable{X:Cx}{pins:List (Addr×Obj)}{Z:St}{H:Hp}{s:Shared}{a:Addr}{kvs:List (Key×V)}{k:Key}{u:Value}{A:Around}{E:Value->Shared->Prop}
end
noncomputable def zU(i:Expr):Prop:=∀ov iv,subscripted i false ov iv=operate [ov,iv] (getItem ov iv)
theorem cP{prog:Program}{w:World}{A:Around}{E:Value->Shared->Prop}{s:Shared}{env:Env}{value slice:Expr}{pos:Pos}{T id:String}{Q:Value->Shared->Prop}
 (hl:typeLookup (.type T) "__getitem__"=pure (some (.builtin id)))(hs:zU slice)
 (h:wpAny (model prog w) A (eval value env) (fun o s₁=>wpAny (model prog w) A (eval slice env) (fun i s₂=>s₂.TypeIs o T/\wpAny (model prog w) A (getItem o i) Q E s₂) E s₁) E s):
 wpAny (model prog w) A (eval (.Subscript value slice pos) env) Q E s:=by
 refine Subscript_ (kq h (fun o s₁ h₁=>kq h₁ (fun i s₂ h₂=>?_) fun _ _ x=>x) fun _ _ x=>x);obtain⟨hT,h₂⟩:=h₂;unfold subscriptTail;refine jv ?_;rw[getitemInPython_of_ne hT.not_modules];refine jv (wpAny_specialOf hT hl ?_);have fin:wpAny (model prog w) A (subscripted slice false o i) (fun r s₃=>wpAny (model prog w) A (letTemporaryGo value o r >>= fun _=>pure r) Q E s₃) E s₂:=by
  rw[hs o i];exact wpAny_operating (kq h₂ (fun r s₃ h₃=>jv (wpAny_letTemporaryGo (xp h₃))) fun _ _ x=>x)
 first
  | exact xp (jv fin)
  | exact jv (xp (jv fin))
  | exact jv fin
theorem Yx{X:Cx}{pins:List (Addr×Obj)}{Z:St}{s:Shared}{a:Addr}{y:V}{o:Option V}(I:Inv X pins Z H s)(g:Qf H a y o):s.TypeIs (.ref a) "dict":=by
 rcases g with ⟨kvs,k,e,_,_⟩ | ⟨kvs,k,b,e,_,_,_⟩
 ·obtain⟨_,_,vs,_,dd⟩:=d8 I.hok e;exact dd.typeIs
 ·obtain⟨_,_,xs,_,dd⟩:=dz I.hok e;exact dd.typeIs
noncomputable def jh(td ty:TE):TE:=fun Z H Q=>td Z H fun x H1=>ty Z H1 fun y H2=>∃a v,x=.ref a/\Qf H2 a y (some v)/\Q v H2
noncomputable def Vt(ty td:TE):TE:=fun Z H Q=>ty Z H fun y H1=>td Z H1 fun x H2=>∃a o,x=.ref a/\Qf H2 a y o/\Q (.bl (!o.isSome)) H2
noncomputable def lG(td ty tv:TE):TS:=fun D Z H=>tv Z H fun v H1=>td Z H1 fun x H2=>ty Z H2 fun y H3=>∃a H4,x=.ref a/\Zm H3 a y v H4/\D.nx Z H4
section
variable{X:Cx}{o i e value:Expr}{pos pos' tpos:Pos}{td ty tv:TE}
theorem dH(hu:X.A.units+1<cLine)(ho:PE X o td)(hi:PE X i ty)(hs:zU i):PE X (.Subscript o i pos) (jh td ty):=by
 intro pins s Z H Q I h;refine cP PySem.F.slot_dict_getitem.lookup hs (thn (ho pins s Z H _ I h) fun u s1 ⟨x,H1,I1,rx,q1⟩=>thn (hi pins s1 Z H1 _ I1 q1) fun iv s2 hZ=>?_);obtain⟨y,H2,I2,ry,a,v,ex,g,q2⟩:=hZ;subst ex;obtain rfl:u=Value.ref a:=rx;exact⟨Yx I2 g,ie hu I2 g ry fun w' s3 I3 rw'=>⟨v,H2,I3,rw',q2⟩⟩
theorem U8(hu:X.A.units+1<cLine)(hi:PE X i ty)(ho:PE X o td):PC X .NotIn i o (Vt ty td):=by
 intro pins s Z H Q I h;refine thn (hi pins s Z H _ I h) fun iv s1 ⟨y,H1,I1,ry,q1⟩=>thn (ho pins s1 Z H1 _ I1 q1) fun u s2 hZ=>?_;obtain⟨x,H2,I2,rx,a,ov,ex,g,q2⟩:=hZ;subst ex;obtain rfl:u=Value.ref a:=rx;exact uE hu I2 g ry fun s3 I3=>⟨.bl (!ov.isSome),H2,I3,rfl,q2⟩
theorem Wb(hu:X.A.units+1<cLine)(ho:PE X o td)(hi:PE X i ty)(hv:PE X value tv)(hs:swapsWith value (some (.Subscript o i pos')) pos.line X.env=pure false):
 PS X (.Assign [.Subscript o i pos'] value pos) (lG td ty tv):=by
 intro pins s Z H D I h;refine wpAny_Assign_Subscript (thn (hv pins s Z H _ I h) fun r s1 ⟨v,H1,I1,rv,q1⟩=>thn (ho pins s1 Z H1 _ I1 q1) fun u s2 ⟨x,H2,I2,rx,q2⟩=>thn (hi pins s2 Z H2 _ I2 q2) fun iv s3 hZ=>?_) hs;obtain⟨y,H3,I3,ry,a,H4,ex,g,q3⟩:=hZ;subst ex;obtain rfl:u=Value.ref a:=rx;exact iZ hu I3 g ry rv fun s4 I4=>⟨Z,H4,I4,q3⟩
end
theorem oE{P:Program}{w:World}(h:Heap)(hb:sysModules<h.objs.size):Ef P w H (h.push { cls:=.type "dict",data:=.dict #[] }) h.objs.size (.dK []):=
 ⟨ka _,beq_eq_false_iff_ne.mpr (Ne.symm (uj hb)),[],.nil,Heap.DictOf.new h⟩
noncomputable def wC:TE:=fun _ H Q=>∀p,H p=none->Q (.ref p) (upd H p (.dK []))
section
variable{X:Cx}{pos:Pos}
theorem Yb:PE X (.Dict [] [] pos) wC:=fun pins s Z H Q I h=>
 wpAny_Dict_empty ⟨.ref s.heap.objs.size,_,I.laid (a:=s.heap.objs.size) (o:=.dK []) (t':=s.toks) (fun _ _ q=>js _ q) (qh _) (oE s.heap I.big),rfl,h _ (I.hok.fresh (qh _))⟩
end
end L2
namespace L2
open PySem PySem.Spec PyProof.Rows
section
variable{X:Cx}{pins:List (Addr×Obj)}{Z:St}{H2:Hp}{s2:Shared}{M xs:List Str}{scope:Scope}{cl:List (Str×Addr)}{C:Addr}{fp:List Addr}{E:XK}{Qe:Value->Shared->Prop}{acc:Value}
end
section
variable{X:Cx}
end
section
variable{prog:Program}{w:World}{A:Around}{E:Value->Shared->Prop}{s:Shared}{z TI TO i1 i2 l1 l2:Addr}{k:Nat}{xs ys:Array Value}{a b:Value}
theorem yP{Q:Option Value->Shared->Prop}(hh:A.handled=none)(D:ZipApart z TI TO i1 i2 l1 l2){x y:Value}(hz:IsZip s.heap z TI TO .none)(hTI:IsPair s.heap TI (.ref i1) (.ref i2))(hTO:IsPair s.heap TO a b)
 (h1:s.heap.IsTupleIter i1 l1 k)(h2:s.heap.IsListIter i2 l2 k)(t1:s.heap.IsTuple l1 xs)(t2:s.heap.IsList l2 ys)(hx:xs[k]?=some x)(hy:ys[k]?=some y)
 (hQ:∀h' tk,IsZip h' z TI TO (rawInt s.heap.objs.size)->IsPair h' TO x y->h'.IsTupleIter i1 l1 (k+1)->h'.IsListIter i2 l2 (k+1)->IsPair h' s.heap.objs.size x y->
  (∀c o,c≠z->c≠TO->c≠i1->c≠i2->s.heap.get? c=some o->h'.get? c=some o)->Q (some (.ref s.heap.objs.size)) { s with heap:=h',toks:=tk }):wpAny (model prog w) A (pyNext (.ref z)) Q E s:=by
 have hT:s.TypeIs (.ref z) "zip":=⟨_,hz,rfl⟩;have lx:k<xs.size:=(Array.getElem?_eq_some_iff.mp hx).1;have ly:k<ys.size:=(Array.getElem?_eq_some_iff.mp hy).1;have D1:=n8 (prog:=prog) (w:=w) (A:=A.in1) hh i1 l1 D.l1i1 xs;have D2:=Draws.list (prog:=prog) (w:=w) (A:=A.in1) hh i2 l2 D.l2i2 ys;unfold pyNext;refine jv (wpAny_attempt (jh1 (name:=Str.ofString "__next__") hT F.slot_zip_next (wpAny_call_entry F.slot_zip_next hT F.entry_zip_next
  (fB (apart2 D) D1 D2 hz hTI hTO ⟨h1,t1⟩ ⟨h2,t2⟩ lx ly fun x' y' h' tk p1 p2 a1 a2 a3 a4 a5 a6=>?_) (F.args_zip_next_1 _))))
 rw[hx] at p1;rw[hy] at p2;cases p1;cases p2;exact xp (hQ h' tk a1 a2 a3.1 a4.1 a5 a6)
theorem yt{Q:Option Value->Shared->Prop}(hh:A.handled=none)(D:ZipApart z TI TO i1 i2 l1 l2)(hz:IsZip s.heap z TI TO .none)(hTI:IsPair s.heap TI (.ref i1) (.ref i2))(hTO:IsPair s.heap TO a b)
 (h1:s.heap.IsTupleIter i1 l1 k)(h2:s.heap.IsListIter i2 l2 k)(t1:s.heap.IsTuple l1 xs)(t2:s.heap.IsList l2 ys)(hk:k=xs.size\/k<xs.size/\k=ys.size)
 (hQ:∀h' tk,(∀c o,c≠z->c≠TO->c≠i1->c≠i2->s.heap.get? c=some o->h'.get? c=some o)->Q none { s with heap:=h',toks:=tk }):wpAny (model prog w) A (pyNext (.ref z)) Q E s:=by
 have hT:s.TypeIs (.ref z) "zip":=⟨_,hz,rfl⟩;have D1:=n8 (prog:=prog) (w:=w) (A:=A.in1) hh i1 l1 D.l1i1 xs;have D2:=Draws.list (prog:=prog) (w:=w) (A:=A.in1) hh i2 l2 D.l2i2 ys;unfold pyNext;refine jv (wpAny_attempt (jh1 (name:=Str.ofString "__next__") hT F.slot_zip_next (wpAny_call_entry F.slot_zip_next hT F.entry_zip_next
  (jO (apart2 D) D1 D2 hz hTI hTO ⟨h1,t1⟩ ⟨h2,t2⟩ hk fun h' tk e q ⟨o,ho,hc⟩=>?_) (F.args_zip_next_1 _))))
 refine jv (wpAny_isInstance (T:="StopIteration") (b:=true) ⟨o,ho,hc⟩ isSubtype_stop ?_);exact xp (hQ _ _ q)
end
noncomputable def uc(K:Fr)(a b:Addr):It:=
 ⟨fun i H=>∃xs ys x y,SqT K H a xs/\SqL K H b ys/\xs[i]?=some x/\ys[i]?=some y,
  fun i H v H'=>∃T x y,H T=none/\v=.ref T/\H'=upd H T (.tup [x,y])/\∀xs ys,SqT K H a xs->SqL K H b ys->xs[i]?=some x/\ys[i]?=some y,
  fun i H=>∃xs ys,SqT K H a xs/\SqL K H b ys/\i=min xs.length ys.length⟩
noncomputable def zR(z TI TO i1 i2 a b:Addr)(i:Nat)(h:Heap):Prop:=
 IsZip h z TI TO .none/\IsPair h TI (.ref i1) (.ref i2)/\(∃p q,IsPair h TO p q)/\h.IsTupleIter i1 a i/\h.IsListIter i2 b i
theorem fG{P:Program}{w:World}{K:Fr}{es:List Expr}{kk:Nat}{pos:Pos}(z TI TO i1 i2 a b:Addr)(D:ZipApart z TI TO i1 i2 a b):
 Turn P w K (.Tuple es kk pos) (uc K a b) [z,TI,TO,i1,i2] z (zR z TI TO i1 i2 a b) where
 mem:=by simp
 obj:=fun i h st c hc=>by
  obtain⟨h1,h2,⟨p,q,h3⟩,⟨o4,e4,_,d4⟩,⟨o5,e5,_,d5⟩⟩:=st;simp only[qm,yb,or_false] at hc;rcases hc with rfl | rfl | rfl | rfl | rfl
  ·exact⟨_,h1,fun v z=>by cases z⟩
  ·exact⟨_,h2,fun v z=>by cases z⟩
  ·exact⟨_,h3,fun v z=>by cases z⟩
  ·exact⟨_,e4,fun v z=>by rw[d4] at z;cases z⟩
  ·exact⟨_,e5,fun v z=>by rw[d5] at z;cases z⟩
 keep:=fun i h h' st k=>by
  obtain⟨h1,h2,⟨p,q,h3⟩,h4,h5⟩:=st;exact⟨k z (by simp) _ h1,k TI (by simp) _ h2,⟨p,q,k TO (by simp) _ h3⟩,IsTupleIter.at' h4 fun o e=>k i1 (by simp) o e,h5.at fun o e=>k i2 (by simp) o e⟩
 item:=by
  intro X hP hw hK hc i pins s Z H E I hf st hg;subst hP hw hK;obtain⟨xs,ys,x,y,qa,qb,ex,ey⟩:=hg;obtain⟨us,ra,pa,_⟩:=I.tuple qa;obtain⟨ws,rb,pb,_⟩:=I.list qb;obtain⟨u,hu,ru⟩:=ra.get ex;obtain⟨v,hv,rv⟩:=rb.get ey;obtain⟨h1,h2,⟨p,q,h3⟩,h4,h5⟩:=st;refine yP (xs:=us.toArray) (ys:=ws.toArray) (I.ok.hd hc) D h1 h2 h3 h4 h5 pa pb.isList (by simpa using hu) (by simpa using hv) fun h' tk a1 a2 a3 a4 a5 a6=>?_;have lt:∀{c o},s.heap.get? c=some o->s.heap.objs.size≠c:=fun e=>Nat.ne_of_gt (zo e);refine⟨.ref s.heap.objs.size,rfl,wpAny_letOwnedTupleGo_zip a1 fun g2 z2 k2=>?_⟩;have hn:H s.heap.objs.size=none:=I.hok.fresh (qh _);have k3:∀c o,c∉[z,TO,i1,i2]->s.heap.get? c=some o->g2.get? c=some o:=fun c o hc e=>by
   simp only[qm,yb,or_false,not_or] at hc;exact k2.extBut c o hc.1 (a6 c o hc.1 hc.2.1 hc.2.2.1 hc.2.2.2 e)
  refine⟨.ref s.heap.objs.size,upd H s.heap.objs.size (.tup [x,y]),I.turnedNew (ch:=[z,TO,i1,i2]) k3 (fun c hc=>hf c ?_) (qh _) ⟨?_,[u,v],.cons ru (.cons rv .nil),⟨_,k2.extBut _ _ (lt h1) a5,rfl,_,rfl⟩⟩,rfl,⟨_,x,y,hn,rfl,rfl,fun xs' ys' qa' qb'=>?_⟩,?_,fun c hc=>?_⟩
  ·simp only[qm,yb,or_false] at hc ⊢;rcases hc with h | h | h | h
   ·exact .inl h
   ·exact .inr (.inr (.inl h))
   ·exact .inr (.inr (.inr (.inl h)))
   ·exact .inr (.inr (.inr (.inr h)))
  ·show 2<=sizeLine;rw[sizeLine_eq];decide
  ·rw[I.tuple_inj qa' qa,I.list_inj qb' qb];exact⟨ex,ey⟩
  ·exact⟨z2,k3 _ _ (by simp[D.TIz,D.TITO,D.TIi1,D.TIi2]) h2,⟨_,_,k2.extBut _ _ D.TOz a2⟩,IsTupleIter.at' a3 fun o e=>k2.extBut _ _ D.i1z e,a4.at fun o e=>k2.extBut _ _ D.i2z e⟩
  ·have hlt:s.heap.objs.size≠c:=by
    simp only[qm,yb,or_false] at hc;obtain⟨o4,e4,_⟩:=h4;obtain⟨o5,e5,_⟩:=h5;rcases hc with rfl | rfl | rfl | rfl | rfl
    ·exact lt h1
    ·exact lt h2
    ·exact lt h3
    ·exact lt e4
    ·exact lt e5
   rw[Aw hlt.symm];exact(hf c hc).1
 done:=by
  intro X hP hw hK hc i pins s Z H E I hf st hg;subst hP hw hK;obtain⟨xs,ys,qa,qb,e⟩:=hg;obtain⟨us,ra,pa,_⟩:=I.tuple qa;obtain⟨ws,rb,pb,_⟩:=I.list qb;have la:=ra.length;have lb:=rb.length;obtain⟨h1,h2,⟨p,q,h3⟩,h4,h5⟩:=st;refine yt (xs:=us.toArray) (ys:=ws.toArray) (I.ok.hd hc) D h1 h2 h3 h4 h5 pa pb.isList (by simp;lia) fun h' tk k=>⟨rfl,I.turnedL (ch:=[z,TO,i1,i2]) (fun c o hc e=>?_) fun c hc=>hf c ?_⟩
  ·simp only[qm,yb,or_false,not_or] at hc;exact k c o hc.1 hc.2.1 hc.2.2.1 hc.2.2.2 e
  simp only[qm,yb,or_false] at hc ⊢;rcases hc with h | h | h | h
  ·exact .inl h
  ·exact .inr (.inr (.inl h))
  ·exact .inr (.inr (.inr (.inl h)))
  ·exact .inr (.inr (.inr (.inr h)))
 self:=fun _ _ _ _ _ st h=>wpAny_pyIter_zip st.1 h
noncomputable abbrev zLL(h:Heap)(a:Addr):Heap:=h.push { cls:=.type "list_iterator",data:=.fields #[.ref a,.int 0 0] }
noncomputable abbrev zL3(h:Heap)(a b:Addr):Heap:=(zLL (zT1 h a) b).push { cls:=.type "tuple",data:=.seq #[.ref h.objs.size,.ref (zT1 h a).objs.size] }
noncomputable abbrev zL4(h:Heap)(a b:Addr):Heap:=(zL3 h a b).push { cls:=.type "tuple",data:=.seq #[.none,.none] }
noncomputable abbrev zL5(h:Heap)(a b:Addr):Heap:=(zL4 h a b).push { cls:=.type "zip",data:=.fields #[.none,.bool false,.bool false,.ref (zLL (zT1 h a) b).objs.size,.ref (zL3 h a b).objs.size] }
theorem ao(l1 l2:Addr)(xs ys:Array Value):
 Meets (Builtin.«zip.__new__» ⟨[.type "zip",.ref l1,.ref l2],[]⟩) (fun _ R s=>s.heap.IsTuple l1 xs/\s.heap.IsList l2 ys/\R (.ok (.ret (.ref (zL4 s.heap l1 l2).objs.size))) { s with heap:=zL5 s.heap l1 l2 }):=
 .of_wp fun prog w A R s h=>by
  obtain⟨hp,g,d,tk,os⟩:=s;obtain⟨t1,t2,h⟩:=h;have hsub:=sub_zip;have hL1:Heap.IsTuple (Shared.heap ⟨hp,g,d,tk,os⟩) l1 xs:=t1;have hL2:Heap.IsList (Shared.heap ⟨hp.push { cls:=.type "tuple_iterator",data:=.fields #[.ref l1,.int 0 0] },g,d,tk,os⟩) l2 ys:=t2.at fun o e=>js _ e
  wp_walk using wpAny_pyIter_tuple hL1,wpAny_pyIter_list hL2
  exact⟨_,rfl,h⟩
theorem iz{prog:Program}{w:World}{A:Around}{E:Value->Shared->Prop}{s:Shared}{l1 l2:Addr}{xs ys:Array Value}{Q:Value->Shared->Prop}(t1:s.heap.IsTuple l1 xs)(t2:s.heap.IsList l2 ys)
 (h:∀h',IsZip h' (s.heap.objs.size+4) (s.heap.objs.size+2) (s.heap.objs.size+3) .none->IsPair h' (s.heap.objs.size+2) (.ref s.heap.objs.size) (.ref (s.heap.objs.size+1))->IsPair h' (s.heap.objs.size+3) .none .none->
  h'.IsTupleIter s.heap.objs.size l1 0->h'.IsListIter (s.heap.objs.size+1) l2 0->(∀c o,s.heap.get? c=some o->h'.get? c=some o)->Q (.ref (s.heap.objs.size+4)) { s with heap:=h' }):
 wpAny (model prog w) A (call (.type "zip") [.ref l1,.ref l2]) Q E s:=by
 refine callType_new F.called_zip (by decide) (F.typeCall_zip_2 _ _) (F.newCall_zip_2 _ _) (fun obj=>F.args_object_init_3 obj _ _) F.entry_zip_new (ao l1 l2 xs ys) ⟨t1,t2,?_⟩;have z1:(zT1 s.heap l1).objs.size=s.heap.objs.size+1:=jf8 ..;have z2:(zLL (zT1 s.heap l1) l2).objs.size=s.heap.objs.size+2:=by rw[jf8,z1]
 have z3:(zL3 s.heap l1 l2).objs.size=s.heap.objs.size+3:=by rw[jf8,z2]
 have z4:(zL4 s.heap l1 l2).objs.size=s.heap.objs.size+4:=by rw[jf8,z3]
 have p1:∀c o,(zL4 s.heap l1 l2).get? c=some o->(zL5 s.heap l1 l2).get? c=some o:=fun c o e=>js _ e;have p2:∀c o,(zL3 s.heap l1 l2).get? c=some o->(zL5 s.heap l1 l2).get? c=some o:=fun c o e=>p1 c o (js _ e);have p3:∀c o,(zLL (zT1 s.heap l1) l2).get? c=some o->(zL5 s.heap l1 l2).get? c=some o:=fun c o e=>p2 c o (js _ e);have p4:∀c o,(zT1 s.heap l1).get? c=some o->(zL5 s.heap l1 l2).get? c=some o:=fun c o e=>p3 c o (js _ e);have g5:(zL5 s.heap l1 l2).get? (zL4 s.heap l1 l2).objs.size=some _:=zw _ rfl;have g4:(zL5 s.heap l1 l2).get? (zL3 s.heap l1 l2).objs.size=some _:=p1 _ _ (zw _ rfl);have g3:(zL5 s.heap l1 l2).get? (zLL (zT1 s.heap l1) l2).objs.size=some _:=p2 _ _ (zw _ rfl);have g2:(zL5 s.heap l1 l2).get? (zT1 s.heap l1).objs.size=some _:=p3 _ _ (zw _ rfl);have g1:(zL5 s.heap l1 l2).get? s.heap.objs.size=some _:=p4 _ _ (zw _ rfl);show _/\_;rw[z2,z3,z4] at g5;rw[z1,z2] at g3;rw[z3] at g4;rw[z1] at g2;rw[z4];exact⟨⟨_,g5,rfl⟩,h _ g5 g3 g4 ⟨_,g1,rfl,rfl⟩ ⟨_,g2,rfl,rfl⟩ fun c o x=>p4 c o (js _ x)⟩
noncomputable def vP(K:Fr)(ta:TA):TI:=fun Z H R=>ta Z H fun vs H1=>∃a b,vs=[.ref a,.ref b]/\(∃xs ys,SqT K H1 a xs/\SqL K H1 b ys)/\R (uc K a b) H1
section
variable{X:Cx}
theorem rO{a b:Expr}{ta:TA}{p pos:Pos}{es:List Expr}{kk:Nat}{tp:Pos}(hg:Gl X "zip")(hm:X.mg "zip"=none)(ha:PA X [a,b] ta)(hs:starEach [a,b] X.env=[(false,eval a X.env),(false,eval b X.env)]:=by rfl)(hs2:starEach [b] X.env=[(false,eval b X.env)]:=by rfl):
 PI X (.Tuple es kk tp) (.Call (.Name "zip" p) [a,b] [] pos) (vP X.K ta):=by
 intro pins s Z H R I h;refine Call_ (G8 I hg hm boot_zip (ui (thn (ha pos pins s Z H _ I h) fun us s1 ⟨vs,H1,I1,r1,q1⟩=>?_) (by rw[hs,hs2]) (by rw[hs2];rfl)));obtain⟨x,y,e,⟨xs,ys,qa,qb⟩,q⟩:=q1;subst e;obtain⟨ia,ra,pa,_⟩:=I1.tuple qa;obtain⟨ib,rb,pb,_⟩:=I1.list qb;cases r1 with
 | cons r rr=>
  cases rr with
  | cons r' rr=>
   cases rr;cases (show _=Value.ref x from r);cases (show _=Value.ref y from r');have l1:x<s1.heap.objs.size:=by obtain⟨o,eo,_⟩:=id pa;exact zo eo
   have l2:y<s1.heap.objs.size:=by obtain⟨o,eo,_⟩:=pb.isList;exact zo eo
   refine iz pa pb.isList fun h' hz hTI hTO hi1 hi2 hk=>?_;refine wpAny_pyIter_zip hz ?_;refine⟨_,_,_,_,H1,rfl,I1.kept (t':=s1.toks) fun c o e=>hk c o e,fG _ _ _ _ _ x y (jP l1 l2),⟨hz,hTI,⟨_,_,hTO⟩,hi1,hi2⟩,fun c hc=>?_,q⟩;have hcs:s1.heap.objs.size<=c:=by
    simp only[qm,yb,or_false] at hc;rcases hc with rfl | rfl | rfl | rfl | rfl
    ·exact vn _ _
    ·exact vn _ _
    ·exact vn _ _
    ·exact qh _
    ·exact vn _ _
   exact I1.fpOk hcs (I1.hok.fresh hcs)
end
theorem qx{K:Fr}{ta:TA}{Z:St}{H:Hp}{R:It->Hp->Prop}(h:ta Z H fun vs H1=>∃a b,vs=[.ref a,.ref b]/\(∃xs ys,SqT K H1 a xs/\SqL K H1 b ys)/\R (uc K a b) H1):vP K ta Z H R:=h
noncomputable def KD(P:Program)(w:World)(K:Fr)(a:Addr)(kvs:List (Key×V)):Prop:=
 (a==sysModules)=false/\∀h:Heap,K.In h->∃vs,KV kvs vs/\h.DictOf (Eg P w) a vs
noncomputable def esK(p:Params)(l:List (Str×Tok×Addr)):List DictEntry:=l.map fun x=>⟨PyData.keyHash p x.1,.str x.1 x.2.1,.ref x.2.2⟩
theorem dI(P:Program)(w:World)(p:Params):∀l:List (Str×Tok×Addr),Pairs (Eg P w) (esK p l) (l.map fun x=>(Sum.inr x.1,Value.ref x.2.2))
 | []=>.nil
 | x::l=>.cons (Jx P w x.1 x.2.1) rfl (dI P w p l)
theorem ABS:∀l:List (Str×Tok×Addr),KV (κ:=Key) (l.map fun x=>(Sum.inr x.1,V.ref x.2.2)) (l.map fun x=>(Sum.inr x.1,Value.ref x.2.2))
 | []=>.nil
 | x::l=>.cons ⟨rfl,rfl⟩ (ABS l)
theorem vM{P:Program}{w:World}{K:Fr}{a:Addr}{n:Nat}(l:List (Str×Tok×Addr))(e:K.lookup a=some ⟨.type "dict",none,.dict (esK w.params l).toArray n,#[]⟩)(nd:(l.map (·.1)).Nodup)(hs:(a==sysModules)=false):
 KD P w K a (l.map fun x=>(Sum.inr x.1,V.ref x.2.2)):=
 ⟨hs,fun h X=>⟨_,ABS l,_,_,_,X _ _ e,⟨rfl,rfl,rfl⟩,rfl,fun d hd=>by
  have hd:d∈esK w.params l:=by simpa using hd
  obtain⟨x,hx,rfl⟩:=yk.mp hd;exact⟨.inr x.1,Jx P w x.1 x.2.1,rfl⟩,by simpa using dI P w w.params l,by
   rw[vi];exact List.pairwise_map.mpr ((List.pairwise_map.mp nd).imp fun h z=>h (Sum.inr.inj z))⟩⟩
noncomputable def Z1(P:Program)(w:World)(K:Fr)(td ty:TE):TE:=fun Z H Q=>td Z H fun x H1=>ty Z H1 fun y H2=>∃a kvs k v,x=.ref a/\KD P w K a kvs/\y=kV k/\Fp kvs k=some v/\Q v H2
noncomputable def cN(neg:Bool)(P:Program)(w:World)(K:Fr)(ty td:TE):TE:=fun Z H Q=>ty Z H fun y H1=>td Z H1 fun x H2=>∃a kvs k,x=.ref a/\KD P w K a kvs/\y=kV k/\Q (.bl (if neg then !(Fp kvs k).isSome else (Fp kvs k).isSome)) H2
section
variable{X:Cx}{o i e:Expr}{pos:Pos}{td ty tf:TE}
theorem RZ(ho:PE X o td)(hi:PE X i ty)(hs:zU i):PE X (.Subscript o i pos) (Z1 X.prog X.w X.K td ty):=by
 intro pins s Z H Q I h;refine cP PySem.F.slot_dict_getitem.lookup hs (thn (ho pins s Z H _ I h) fun u s1 ⟨x,H1,I1,rx,q1⟩=>thn (hi pins s1 Z H1 _ I1 q1) fun iv s2 hZ=>?_);obtain⟨y,H2,I2,ry,a,kvs,k,v,ex,kd,ey,l,q2⟩:=hZ;subst ex ey;obtain rfl:u=Value.ref a:=rx;obtain⟨vs,rel,dd⟩:=kd.2 _ I2.kIn;obtain⟨w',hw,rw'⟩:=JX.some_of (v:=v) (o:=valueAt vs k) (by rw[<-l];exact rel.val k);exact⟨dd.typeIs,wpAny_getItem_of (Rj ry) dd.mapOf hw ⟨v,H2,I2.tok _,rw',q2⟩⟩
theorem rW(hi:PE X i ty)(ho:PE X o td):PC X .In i o (cN false X.prog X.w X.K ty td):=by
 intro pins s Z H Q I h;refine thn (hi pins s Z H _ I h) fun iv s1 ⟨y,H1,I1,ry,q1⟩=>thn (ho pins s1 Z H1 _ I1 q1) fun u s2 hZ=>?_;obtain⟨x,H2,I2,rx,a,kvs,k,ex,kd,ey,q2⟩:=hZ;subst ex ey;obtain rfl:u=Value.ref a:=rx;obtain⟨vs,rel,dd⟩:=kd.2 _ I2.kIn;refine wpAny_in_of (Rj ry) kd.1 dd.mapOf ?_;rw[<-(rel.val k).isSome_eq];exact⟨.bl _,H2,I2.tok _,rfl,q2⟩
theorem aW(hi:PE X i ty)(ho:PE X o td):PC X .NotIn i o (cN true X.prog X.w X.K ty td):=by
 intro pins s Z H Q I h;refine thn (hi pins s Z H _ I h) fun iv s1 ⟨y,H1,I1,ry,q1⟩=>thn (ho pins s1 Z H1 _ I1 q1) fun u s2 hZ=>?_;obtain⟨x,H2,I2,rx,a,kvs,k,ex,kd,ey,q2⟩:=hZ;subst ex ey;obtain rfl:u=Value.ref a:=rx;obtain⟨vs,rel,dd⟩:=kd.2 _ I2.kIn;refine wpAny_notIn_of (Rj ry) kd.1 dd.mapOf ?_;rw[<-(rel.val k).isSome_eq];exact⟨.bl _,H2,I2.tok _,rfl,q2⟩
theorem ABL:PE X e (fun _ _ _=>False):=fun _ _ _ _ _ _ h=>h.elim
end
section
variable{prog:Program}{w:World}{A:Around}{E:Value->Shared->Prop}{s:Shared}
end
section
open PySem.Builtin PySem.Builtin.Str
theorem Ma(x:Str)(c L:Nat):∀(n k free:Nat) (acc:Array Nat),k+n=x.length+1->free<=k->acc.size<=L->
 (forIn (List.range' k n) (acc,free) (StrLaws.occBody x ⟨#[c]⟩ x.length L)).run.fst.toList=acc.toList++(plc c k ((cps x).drop k)).take (L-acc.size)
 | 0,k,free,acc,h,_,_=>by
  rw[uk (by rw[Ke];lia)];show acc.toList=acc.toList++List.take _ [];rw[List.take_nil,ya]
 | n+1,k,free,acc,h,hf,ha=>by
  rw[List.range'_succ,List.forIn_cons];have one:(⟨#[c]⟩:Str).length=1:=rfl;by_cases full:acc.size=L
  ·have ih:=Ma x c L n (k+1) free acc (by lia) (by lia) ha;unfold StrLaws.occBody;rw[yv fun y=>by have:acc.size<L:=y.1.1.1;lia,show L-acc.size=0 by lia,List.take_zero,ya];rw[show L-acc.size=0 by lia,List.take_zero,ya] at ih;exact ih
  by_cases z:(cps x)[k]?=some c
  ·have kl:k<(cps x).length:=(xb.mp z).1;have hs:=(StrLaws.subAt_one x c k).mpr z;have ed:(cps x).drop k=c::(cps x).drop (k+1):=by
    rw[ja6 kl,(xb.mp z).2]
   have ih:=Ma x c L n (k+1) (k+1) (acc.push k) (by lia) (qh _) (by rw[Array.size_push];lia);unfold StrLaws.occBody;rw[xz ⟨⟨⟨by show acc.size<L;lia,hf⟩,hs.1⟩,hs.2⟩,ed];unfold plc;rw[xz rfl,show L-acc.size=(L-(acc.push k).size)+1 by rw[Array.size_push];lia,List.take_succ_cons];have e2:acc.toList++k::(plc c (k+1) ((cps x).drop (k+1))).take (L-(acc.push k).size)=(acc.push k).toList++(plc c (k+1) ((cps x).drop (k+1))).take (L-(acc.push k).size):=by
    rw[Array.toList_push,ke];rfl
   rw[e2];exact ih
  ·have hs:¬(k+(⟨#[c]⟩:Str).length<=x.length/\subAt x ⟨#[c]⟩ k=true):=fun y=>z ((StrLaws.subAt_one x c k).mp y);have ih:=Ma x c L n (k+1) free acc (by lia) (by lia) ha;have ep:plc c k ((cps x).drop k)=plc c (k+1) ((cps x).drop (k+1)):=by
    by_cases kl:k<(cps x).length
    ·rw[ja6 kl];have:(cps x)[k]≠c:=fun y=>z (by rw[qv kl,y]);show(if (cps x)[k]=c then _ else _)=_;rw[yv this]
    ·rw[uk (by lia),uk (by lia)];rfl
   unfold StrLaws.occBody;rw[yv fun y=>hs ⟨y.1.2,y.2⟩,ep];exact ih
theorem We(c:Nat):∀(p l:List Nat) (k:Nat),c∉p->plc c k (p++c::l)=(k+p.length)::plc c (k+p.length+1) l
 | [],l,k,_=>by show(if c=c then _ else _)=_;rw[xz rfl];rfl
 | a::p,l,k,h=>by
  have ne:a≠c:=fun z=>h (by rw[z];exact qk);show(if a=c then _ else plc c (k+1) (p++c::l))=_;rw[yv ne,We c p l (k+1) fun z=>h (qr _ z),qq];rw[show k+1+p.length=k+(p.length+1) by lia]
noncomputable def rK:V->List V->Hp->VK->Prop:=fun x xs H Q=>∃(z:Str) (c:Nat) (A B C:List Nat),x=.str z/\xs=[.str ⟨#[c]⟩,.int 2]/\c<256/\cps z=A++c::(B++c::C)/\c∉A/\c∉B/\z.length<=1000000/\∀l,H l=none->Q (.ref l) (upd H l (.lst [.str ⟨A.toArray⟩,.str ⟨B.toArray⟩,.str ⟨C.toArray⟩]))
theorem gj{X:Cx}:MtR X "str.split" rK:=by
 intro pins s Z H x xs v us Q I rx rs h;obtain⟨z,c,A,B,C,rfl,rfl,hc,ez,hA,hB,hz,q⟩:=h;obtain⟨t,rfl⟩:=(show ∃t,v=Value.str z t from rx);cases rs with
 | cons ru rs=>
  obtain⟨t',rfl⟩:=(show ∃t,_=Value.str ⟨#[c]⟩ t from ru);obtain⟨u,rfl,ru2⟩:=vals1 rs;obtain⟨t2,rfl⟩:=(show ∃t,u=Value.int 2 t from ru2);have zl:z.length=A.length+(B.length+(C.length+1)+1):=by rw[<-Ke,ez];simp
  have sl:z.length<=sizeLine:=zv hz (by decide);have k1:PySem.Builtin.Str.strKind (⟨#[c]⟩:Str)=1:=by
   unfold PySem.Builtin.Str.strKind;simp[hc]
  have k0:1<=PySem.Builtin.Str.strKind z:=by
   unfold PySem.Builtin.Str.strKind
   repeat' split
   all_goals lia
  have h1:(decide (z.length<(⟨#[c]⟩:Str).length)||decide (PySem.Builtin.Str.strKind z<PySem.Builtin.Str.strKind ⟨#[c]⟩))=false:=by
   rw[k1,Bool.or_eq_false_iff];exact⟨decide_eq_false (by show ¬z.length<1;lia),decide_eq_false (by lia)⟩
  have eo:occurrences z ⟨#[c]⟩ 0 z.length (limitOf z 2)=[A.length,A.length+1+B.length]:=by
   rw[show limitOf z 2=2 from rfl,StrLaws.occ_eq];have:=Ma z c 2 (z.length+1) 0 0 #[] (by lia) (qh _) (ka _);rw[List.drop_zero,ez,We c A _ 0 hA,We c B _ _ hB] at this;simpa using this
  have ep:partsBetween z (occurrences z ⟨#[c]⟩ 0 z.length (limitOf z 2)) (⟨#[c]⟩:Str).length=[⟨A.toArray⟩,⟨B.toArray⟩,⟨C.toArray⟩]:=by
   rw[eo];show[strSub z 0 A.length,strSub z (A.length+1) (A.length+1+B.length),strSub z (A.length+1+B.length+1) z.length]=_;have e1:strSub z 0 A.length=⟨A.toArray⟩:=Qy (jf0.mp (by
    rw[StrLaws.strSub_toList,show z.cps.toList=_ from ez,List.drop_zero,Nat.sub_zero,List.take_left'];rfl))
   have e2:strSub z (A.length+1) (A.length+1+B.length)=⟨B.toArray⟩:=Qy (jf0.mp (by
    rw[StrLaws.strSub_toList,show z.cps.toList=_ from ez,show A++c::(B++c::C)=(A++[c])++(B++c::C) by simp,List.drop_left' (by simp),show A.length+1+B.length-(A.length+1)=B.length by lia,List.take_left'];rfl))
   have e3:strSub z (A.length+1+B.length+1) z.length=⟨C.toArray⟩:=Qy (jf0.mp (by
    rw[StrLaws.strSub_toList,show z.cps.toList=_ from ez,show A++c::(B++c::C)=(A++c::(B++[c]))++C by simp,List.drop_left' (by simp;lia),yy (by lia)]))
   rw[e1,e2,e3]
  refine call_meets F.slot_str_split (typeIs_str _ _ _) F.entry_str_split (F.args_str_split_3 _ _ _) (meets_str_split_sep_max z ⟨#[c]⟩ 2 t t' t2 (by decide) h1 rfl (by rw[eo];rfl) sl (by rw[ep];show 3<=sizeLine;decide)) ?_;rw[ep];exact⟨.ref _,_,I.laid (a:=s.heap.objs.size) (o:=.lst [.str ⟨A.toArray⟩,.str ⟨B.toArray⟩,.str ⟨C.toArray⟩]) (fun _ _ e=>js _ e) (qh _) ⟨by show 3<=sizeLine;decide,strsFrom s.toks [⟨A.toArray⟩,⟨B.toArray⟩,⟨C.toArray⟩],0,Vv [⟨A.toArray⟩,⟨B.toArray⟩,⟨C.toArray⟩] _,zw _ rfl⟩,rfl,q _ I.fresh⟩
end
end L2
namespace L2
open PySem PySem.Spec PyProof.Rows PySem.W
section
variable{X:Cx}{o:Expr}{to:TE}{apos cpos:Pos}
end
end L2
namespace L2
open PySem PySem.Spec PyProof.Rows
noncomputable def KY(mg:Str->Option Value)(L:List (Str×Sp))(tf:TE)(t:TA):TE:=fun Z H Q=>tf Z H fun v H1=>∃f x sp,v=.ref f/\(x,sp)∈L/\mg x=some (.ref f)/\t Z H1 fun vs H2=>sp vs H2 Q E0
section
variable{X:Cx}{o i e:Expr}{pos:Pos}{tf:TE}
theorem mG{k:Nat}{L:List (Str×Sp)}{es:List Expr}{t:TA}{p:Pos}(CV:HF X.prog X.w X.K X.mg X.base k L)(hr:Do k X.A)(hf:PE X (.Subscript o i p) tf)(ha:PA X (e::es) t)
 (he:starEach (e::es) X.env=(false,eval e X.env)::starEach es X.env:=by rfl)(hpl:(backTo pos (starEach es X.env)).any (·.1)=false:=by rfl):
 PE X (.Call (.Subscript o i p) (e::es) [] pos) (KY X.mg L tf t):=by
 intro pins s Z H Q I h;show wpAny _ _ (do callWith pos (<-eval (.Subscript o i p) X.env) [] (backTo pos (starEach (e::es) X.env)) (backToKw pos (keywordEach [] X.env))) _ _ _;refine jv (thn (hf pins s Z H _ I h) fun u s1 hZ=>?_);obtain⟨v,H1,I1,rv,f,y,sp,ev,hm,hmg,q1⟩:=hZ;subst ev;obtain rfl:u=Value.ref f:=rv;obtain⟨ps,C⟩:=CV.get hm;obtain⟨f',fd,F,b,kp,m⟩:=C.ex;have ef:f'=f:=by
  rw[hmg] at m;injection m with m;injection m with m;exact m.symm
 subst ef;refine jd4 (h₀:=X.base) I1.ok.mod.kin kp (thn (ha pos pins s1 Z _ _ I1 q1) fun us s2 ⟨vs,H2,I2,r,q⟩=>⟨I2.kIn,?_⟩) he hpl;dsimp only at q;have hl:us.length=ps.length:=by rw[<-r.length];exact F.len _ _ _ _ q
 have hb:=b s2 us I2.kIn (by rw[ya];exact hl);rw[ya] at hb;show wpAny _ _ (call (.ref f') us) _ _ _;refine wpAny_call (codeAny_mono (F.run X.A X.stack s2 H2 ⟨us,[]⟩ us vs Q _ hr I2.env0 hb r q) fun z s' hq=>?_);cases z with
 | error e=>exact False.elim hq
 | ok fl=>
  cases fl with
  | ret u=>exact I2.after hq
  | next=>exact False.elim hq
  | brk=>exact False.elim hq
  | cont=>exact False.elim hq
end
noncomputable def ABt(K:Fr)(g n q:Str)(st:Stmt)(ds:Array Value):Prop:=∃f fd,PySem.W.nsIn K mainGlobals g=some (some (.ref f))/\KQ K n q st f fd ds
noncomputable def zV(K:Fr)(C:Addr)(x n q:Str)(st:Stmt)(ds:Array Value):Prop:=∃f fd,PySem.W.findIn K (.ref C) x=some (some (.ref f))/\KQ K n q st f fd ds/\PySem.W.typeIn K (.ref f)=some (.type "function")
noncomputable def ABu(K:Fr)(C:Addr)(x n q:Str)(st:Stmt)(ds:Array Value):Prop:=∃f fd,PySem.W.findCls K (.ref C) (.type "type") x=some (.val (.ref f))/\KQ K n q st f fd ds
noncomputable abbrev Xd(n q:Str)(st:Stmt)(ps:List Str)(dv:List Value)(ds:Array Value)(m:Nat):Prop:=∀(T:Addr) (kV doc pm:Value) (an:Option Addr) (cdv ct:Value) (us:List Value),us.length=m->
 ∃k:Option (Array Value)->Sem (List (Str×Value)),bindArgs (PySem.W.fnOf n q (Er st) (DW st) (BP st) (.ref T) kV doc pm an cdv ct) ⟨us,[]⟩=seqItems? (.ref T) >>= k/\k (some ds)=pure (ps.zip (us++dv))
section
variable{K:Fr}{g n q:Str}{C f T:Addr}{st:Stmt}{oc to:Value}{od an td:Option Addr}{osl ts:Array (Option Value)}{kV doc pm cdv ct:Value}{ds:Array Value}{tn:Nat}
theorem tZ(a:PySem.W.nsIn K mainGlobals g=some (some (.ref f)))(l:K.lookup f=some ⟨oc,od,.func (PySem.W.fnOf n q (Er st) (DW st) (BP st) (.ref T) kV doc pm an cdv ct),osl⟩)
 (c:PySem.W.codeIn K cdv q=true)(k:PySem.W.keepIn K (.ref f)=true)(t:K.lookup T=some ⟨to,td,.seq ds tn,ts⟩):ABt K g n q st ds:=⟨f,_,a,W6 l c k t rfl⟩
theorem tY(a:PySem.W.findIn K (.ref C) g=some (some (.ref f)))(l:K.lookup f=some ⟨oc,od,.func (PySem.W.fnOf n q (Er st) (DW st) (BP st) (.ref T) kV doc pm an cdv ct),osl⟩)
 (c:PySem.W.codeIn K cdv q=true)(k:PySem.W.keepIn K (.ref f)=true)(t:K.lookup T=some ⟨to,td,.seq ds tn,ts⟩)(u:PySem.W.typeIn K (.ref f)=some (.type "function")):zV K C g n q st ds:=⟨f,_,a,W6 l c k t rfl,u⟩
theorem tu(a:PySem.W.findCls K (.ref C) (.type "type") g=some (.val (.ref f)))(l:K.lookup f=some ⟨oc,od,.func (PySem.W.fnOf n q (Er st) (DW st) (BP st) (.ref T) kV doc pm an cdv ct),osl⟩)
 (c:PySem.W.codeIn K cdv q=true)(k:PySem.W.keepIn K (.ref f)=true)(t:K.lookup T=some ⟨to,td,.seq ds tn,ts⟩):ABu K C g n q st ds:=⟨f,_,a,W6 l c k t rfl⟩
end
section
variable{P:Program}{w:World}{K:Fr}{h:Heap}{mg:Str->Option Value}{base:Heap}{g n q:Str}{C:Addr}{st:Stmt}{ps:List Str}{k:Nat}{sp:Sp}{ds:Array Value}{CX:CXT}{x:Str}
theorem uI(X:K.In h)(G:h.Ns mainGlobals mg)(Q:ABt K g n q st ds)(b:Xd n q st ps [] ds ps.length)(ok:∀{f:Addr} {fd:FuncData} {ds:Array Value},KQ K n q st f fd ds->Et P w K mg base CX0 k f fd ps sp):Cal P w K mg base k g ps sp:=by
 obtain⟨f,fd,a,F⟩:=Q;exact⟨⟨f,fd,ok F,F.bindsD _ rfl b,F.kp,jg9 X G a⟩⟩
theorem Sg(X:K.In h)(G:h.Ns mainGlobals mg)(mk:PySem.W.makesIn K C=true)(kp:PySem.W.keepIn K (.ref C)=true)(nC:PySem.W.nsIn K mainGlobals x=some (some (.ref C)))(Q:zV K C "__init__" n q st ds)(b:Xd n q st ps [] ds ps.length)
 (ok:∀{f:Addr} {fd:FuncData} {ds:Array Value},KQ K n q st f fd ds->Et P w K mg base CX k f fd ps sp):jN P w K mg base CX k x C ps sp:=by
 obtain⟨f,fd,a,F,u⟩:=Q;exact⟨⟨f,fd,ok F,F.bindsD _ rfl b,⟨mk,a,ja5.mpr u,kp⟩,jg9 X G nC⟩⟩
theorem jD{dv:List Value}{dvs:List V}(m:Nat)(hm:m+dv.length=ps.length)(X:K.In h)(G:h.Ns mainGlobals mg)(mk:PySem.W.makesIn K C=true)(kp:PySem.W.keepIn K (.ref C)=true)(nC:PySem.W.nsIn K mainGlobals x=some (some (.ref C)))(Q:zV K C "__init__" n q st ds)(b:Xd n q st ps dv ds m)
 (r:Vals dvs dv)(ok:∀{f:Addr} {fd:FuncData} {ds:Array Value},KQ K n q st f fd ds->Et P w K mg base CX k f fd ps sp):pG P w K mg base CX k x C ps dvs sp:=by
 obtain⟨f,fd,a,F,u⟩:=Q;exact⟨⟨f,fd,_,ok F,F.bindsD _ hm b,r,⟨mk,a,ja5.mpr u,kp⟩,jg9 X G nC⟩⟩
theorem oO(X:K.In h)(G:h.Ns mainGlobals mg)(nC:PySem.W.nsIn K mainGlobals x=some (some (.ref C)))(bsp:PySem.W.specialIn K (.ref C) "__getattribute__"=some (some (.builtin "type.__getattribute__")))(brd:PySem.W.readsIn K C (.type "type")=true)(Q:ABu K C "__init__" n q st ds)(b:Xd n q st ps [] ds ps.length)
 (ok:∀{f:Addr} {fd:FuncData} {ds:Array Value},KQ K n q st f fd ds->Et P w K mg base CX0 k f fd ps sp):zW P w K mg base k x ps sp:=by
 obtain⟨f,fd,a,F⟩:=Q;exact⟨⟨f,C,fd,ok F,F.bindsD _ rfl b,⟨jg9 X G nC,bsp,brd,a,F.kp⟩⟩⟩
end
variable{X:Cx}{x:Str}{p q pos:Pos}{j:Int}{kd:Nat}
theorem pxT(i:Nat)(hN:X.N[i]?=some x:=by rfl)(hv:Vis X.env.scope x:=by first | exact Or.inl rfl | exact Or.inr (Or.inl rfl) | exact Or.inr (Or.inr rfl))(hd:(x==("__debug__":Str))=false:=by decide)
 (hcd:(x==("__classdict__":Str))=false:=by decide):PE X (.Subscript (.Name x p) (.Constant (.int j) kd q) pos) (tOp (rM X.K) (Lh i) (tC (.int j))):=CT Ho (pv i hN hv hd hcd) Af (fun _ _=>rfl)
theorem pxL(i:Nat)(hN:X.N[i]?=some x:=by rfl)(hv:Vis X.env.scope x:=by first | exact Or.inl rfl | exact Or.inr (Or.inl rfl) | exact Or.inr (Or.inr rfl))(hd:(x==("__debug__":Str))=false:=by decide)
 (hcd:(x==("__classdict__":Str))=false:=by decide):PE X (.Subscript (.Name x p) (.Constant (.int j) kd q) pos) (tOp (rN X.K) (Lh i) (tC (.int j))):=CT Ck (pv i hN hv hd hcd) Af (fun _ _=>rfl)
end L2
local macro_rules | `(tactic| walk_at"rd0")=> `(tactic| first | (with_reducible first | refine L2.xQ ?_ | refine L2.xR ?_ | refine L2.xm ?_ | refine L2.xY ?_ | refine L2.rA ?_ | refine L2.rD ?_ | refine L2.AAp ?_) | ((with_reducible refine' L2.K5 ?ev ?_);(case ev=>exact rfl)) | (with_reducible first | refine L2.ACT ?_ | refine L2.AAn ?_ | refine L2.qy ?_ | refine L2.ACU ?_ | refine L2.xV ?_ | refine L2.xn ?_ | refine L2.AAo ?_ | refine L2.rH ?_ | refine L2.xU ?_ | refine L2.lN ?_ | refine L2.rG ?_ | refine L2.AAv ?_ | refine L2.Ge ?_ | refine L2.rE ?_ | refine L2.xO ?_ | refine L2.xW ?_ | refine L2.xj ?_ | refine L2.lK ?_ | refine L2.xZ ?_ | refine L2.qz ?_ | refine L2.rB ?_ | refine L2.lJ ?_ | refine L2.AAr ?_ | refine L2.xX ?_ | refine L2.lH ?_ | refine L2.q9 ?_ | refine L2.gP ?_ | refine L2.xP ?_ | refine L2.rC ?_ | refine L2.xT ?_ | refine L2.lM ?_))
local macro_rules | `(tactic| walk_at"rdD")=> `(tactic| (refine' (?fw:L2.Vw _ _) ?pw ?xw;(case pw=>intro h;walk_at"rd0";(repeat walk_at"rd0");exact h);(case fw=>exact fun _ x=>x)))
local macro_rules | `(tactic| walk_at"rd1")=> `(tactic| first | walk_at"rdD" | (with_reducible first | refine L2.AAt ?_ | refine L2.ACS ?_) | ((with_reducible refine' L2.AAu ?es ?_);(case es=>exact rfl)) | ((with_reducible refine' L2.AAq ?es ?_);(case es=>exact rfl)) | (with_reducible first | refine L2.cZ ?_ | refine L2.xf ?_ | refine L2.lQ ?_) | ((with_reducible refine' L2.DQ ?ec ?_);(case ec=>first | ((with_reducible show L2.ABx _ _);exact⟨by decide,by decide,by decide⟩) | ((with_reducible show L2.pI _ _);exact L2.Fb (by decide) (by decide)) | (show (0:Int)<_;first | decide | lia | exact L2.pow2_pos _))))
local macro_rules | `(tactic| symm)=> `(tactic| repeat walk_at"rd1")
local macro_rules | `(tactic| walk_at"fm")=> `(tactic| (repeat (first | exact List.forall_mem_nil _ | refine List.forall_mem_cons.mpr ⟨by with_unfolding_all rfl,?_⟩)))
local macro_rules | `(tactic| walk_at"f")=> `(tactic| ((with_reducible refine L2.Nq ?_);(with_reducible first | refine L2.Jp ?_ | refine L2.vD ?_ | refine L2.WY ?_ | refine L2.cY ?_ | refine L2.Qm ?_)))
local macro_rules | `(tactic| ac_nf)=> `(tactic| (repeat (first | walk_at"rd1" | (with_reducible first | refine L2.Hz ?_ | refine L2.JC ?_))))
local macro_rules | `(tactic| walk_at"b0")=> `(tactic| (intro _ _ _ _ _ _ us hl;have h:us=[]:=jb7.mp hl;subst h;rfl))
local macro_rules | `(tactic| walk_at"b1")=> `(tactic| (intro _ _ _ _ _ _ us hl;obtain⟨_,h⟩:=L2.ACd hl;subst h;rfl))
local macro_rules | `(tactic| walk_at"b2")=> `(tactic| (intro _ _ _ _ _ _ us hl;obtain⟨_,_,h⟩:=L2.ACc hl;subst h;rfl))
local macro_rules | `(tactic| walk_at"b3")=> `(tactic| (intro _ _ _ _ _ _ us hl;obtain⟨_,_,_,h⟩:=L2.yW hl;subst h;rfl))
local macro_rules | `(tactic| walk_at"b4")=> `(tactic| (intro _ _ _ _ _ _ us hl;obtain⟨_,_,_,_,h⟩:=L2.ABR hl;subst h;rfl))
local macro_rules | `(tactic| walk_at"b5")=> `(tactic| (intro _ _ _ _ _ _ us hl;obtain⟨_,_,_,_,_,h⟩:=L2.yV hl;subst h;rfl))
local macro_rules | `(tactic| walk_at"b6")=> `(tactic| (intro _ _ _ _ _ _ us hl;obtain⟨_,_,_,_,_,_,h⟩:=L2.ACb hl;subst h;rfl))
local macro_rules | `(tactic| walk_at"b7")=> `(tactic| (intro _ _ _ _ _ _ us hl;obtain⟨_,_,_,_,_,_,_,h⟩:=L2.ABQ hl;subst h;rfl))
local macro_rules | `(tactic| walk_at"b8")=> `(tactic| (intro _ _ _ _ _ _ us hl;obtain⟨_,_,_,_,_,_,_,_,h⟩:=L2.ACa hl;subst h;rfl))
namespace Fw
inductive Ex2{T0 T1:Type}(p:T0->T1->Prop):Prop where
 | i (x0:T0) (x1:T1) (h:p x0 x1):Ex2 p
inductive Ex3{T0 T1 T2:Type}(p:T0->T1->T2->Prop):Prop where
 | i (x0:T0) (x1:T1) (x2:T2) (h:p x0 x1 x2):Ex3 p
inductive Ex4{T0 T1 T2 T3:Type}(p:T0->T1->T2->T3->Prop):Prop where
 | i (x0:T0) (x1:T1) (x2:T2) (x3:T3) (h:p x0 x1 x2 x3):Ex4 p
inductive Ex5{T0 T1 T2 T3 T4:Type}(p:T0->T1->T2->T3->T4->Prop):Prop where
 | i (x0:T0) (x1:T1) (x2:T2) (x3:T3) (x4:T4) (h:p x0 x1 x2 x3 x4):Ex5 p
inductive Ex6{T0 T1 T2 T3 T4 T5:Type}(p:T0->T1->T2->T3->T4->T5->Prop):Prop where
 | i (x0:T0) (x1:T1) (x2:T2) (x3:T3) (x4:T4) (x5:T5) (h:p x0 x1 x2 x3 x4 x5):Ex6 p
inductive Ex7{T0 T1 T2 T3 T4 T5 T6:Type}(p:T0->T1->T2->T3->T4->T5->T6->Prop):Prop where
 | i (x0:T0) (x1:T1) (x2:T2) (x3:T3) (x4:T4) (x5:T5) (x6:T6) (h:p x0 x1 x2 x3 x4 x5 x6):Ex7 p
inductive Ex8{T0 T1 T2 T3 T4 T5 T6 T7:Type}(p:T0->T1->T2->T3->T4->T5->T6->T7->Prop):Prop where
 | i (x0:T0) (x1:T1) (x2:T2) (x3:T3) (x4:T4) (x5:T5) (x6:T6) (x7:T7) (h:p x0 x1 x2 x3 x4 x5 x6 x7):Ex8 p
inductive Ex9{T0 T1 T2 T3 T4 T5 T6 T7 T8:Type}(p:T0->T1->T2->T3->T4->T5->T6->T7->T8->Prop):Prop where
 | i (x0:T0) (x1:T1) (x2:T2) (x3:T3) (x4:T4) (x5:T5) (x6:T6) (x7:T7) (x8:T8) (h:p x0 x1 x2 x3 x4 x5 x6 x7 x8):Ex9 p
inductive ABw{T0 T1 T2 T3 T4 T5 T6 T7 T8 T9:Type}(p:T0->T1->T2->T3->T4->T5->T6->T7->T8->T9->Prop):Prop where
 | i (x0:T0) (x1:T1) (x2:T2) (x3:T3) (x4:T4) (x5:T5) (x6:T6) (x7:T7) (x8:T8) (x9:T9) (h:p x0 x1 x2 x3 x4 x5 x6 x7 x8 x9):ABw p
inductive ABv{T0 T1 T2 T3 T4 T5 T6 T7 T8 T9 T10:Type}(p:T0->T1->T2->T3->T4->T5->T6->T7->T8->T9->T10->Prop):Prop where
 | i (x0:T0) (x1:T1) (x2:T2) (x3:T3) (x4:T4) (x5:T5) (x6:T6) (x7:T7) (x8:T8) (x9:T9) (x10:T10) (h:p x0 x1 x2 x3 x4 x5 x6 x7 x8 x9 x10):ABv p
inductive An3(p0 p1 p2:Prop):Prop where
 | i (h0:p0) (h1:p1) (h2:p2):An3 p0 p1 p2
inductive An4(p0 p1 p2 p3:Prop):Prop where
 | i (h0:p0) (h1:p1) (h2:p2) (h3:p3):An4 p0 p1 p2 p3
inductive An5(p0 p1 p2 p3 p4:Prop):Prop where
 | i (h0:p0) (h1:p1) (h2:p2) (h3:p3) (h4:p4):An5 p0 p1 p2 p3 p4
inductive An6(p0 p1 p2 p3 p4 p5:Prop):Prop where
 | i (h0:p0) (h1:p1) (h2:p2) (h3:p3) (h4:p4) (h5:p5):An6 p0 p1 p2 p3 p4 p5
inductive An7(p0 p1 p2 p3 p4 p5 p6:Prop):Prop where
 | i (h0:p0) (h1:p1) (h2:p2) (h3:p3) (h4:p4) (h5:p5) (h6:p6):An7 p0 p1 p2 p3 p4 p5 p6
inductive An8(p0 p1 p2 p3 p4 p5 p6 p7:Prop):Prop where
 | i (h0:p0) (h1:p1) (h2:p2) (h3:p3) (h4:p4) (h5:p5) (h6:p6) (h7:p7):An8 p0 p1 p2 p3 p4 p5 p6 p7
inductive An9(p0 p1 p2 p3 p4 p5 p6 p7 p8:Prop):Prop where
 | i (h0:p0) (h1:p1) (h2:p2) (h3:p3) (h4:p4) (h5:p5) (h6:p6) (h7:p7) (h8:p8):An9 p0 p1 p2 p3 p4 p5 p6 p7 p8
inductive uf(p0 p1 p2 p3 p4 p5 p6 p7 p8 p9:Prop):Prop where
 | i (h0:p0) (h1:p1) (h2:p2) (h3:p3) (h4:p4) (h5:p5) (h6:p6) (h7:p7) (h8:p8) (h9:p9):uf p0 p1 p2 p3 p4 p5 p6 p7 p8 p9
inductive zY(p0 p1 p2 p3 p4 p5 p6 p7 p8 p9 p10:Prop):Prop where
 | i (h0:p0) (h1:p1) (h2:p2) (h3:p3) (h4:p4) (h5:p5) (h6:p6) (h7:p7) (h8:p8) (h9:p9) (h10:p10):zY p0 p1 p2 p3 p4 p5 p6 p7 p8 p9 p10
theorem LR(r d:Int)(hd:d≠0):0<=r.fmod d*d/\(r.fmod d).natAbs<d.natAbs:=by
 rcases(by lia:0<d\/d<0) with h | h
 ·have a:=Int.fmod_nonneg_of_pos r h;have b:=Int.fmod_lt_of_pos r h;exact⟨jh5 a (je1 h),by lia⟩
 ·have e:r.fmod d= -((-r).fmod (-d)):=by
   rw[Int.fmod_def,Int.fmod_def,Int.neg_fdiv_neg,Int.neg_mul];lia
  have a:=Int.fmod_nonneg_of_pos (-r) (b:= -d) (by lia);have b:=Int.fmod_lt_of_pos (-r) (b:= -d) (by lia);rw[e];generalize (-r).fmod (-d)=z at*
  refine⟨?_,by lia⟩;have:=jh5 a (show 0<= -d by lia);rw[Int.neg_mul];rw[Int.mul_neg] at this;lia
structure EqI(a b u v r u' v' r':Int):Prop where
 e1:u*a+v*b=r
 e2:u'*a+v'*b=r'
 g:Int.gcd r r'=Int.gcd a b
 ph:(u=1/\v=0/\r=a/\u'=0/\v'=1/\r'=b)\/
  (b≠0/\r≠0/\0<=r'*r/\r.natAbs<=b.natAbs/\r'.natAbs<=b.natAbs/\u'.natAbs*r.natAbs+u.natAbs*r'.natAbs<=b.natAbs/\u.natAbs<=b.natAbs+1)
theorem EqI.start(a b:Int):EqI a b 1 0 a 0 1 b:=⟨by lia,by lia,rfl,.inl ⟨rfl,rfl,rfl,rfl,rfl,rfl⟩⟩
theorem Jw(u q x:Int):(u-q*x).natAbs<=u.natAbs+q.natAbs*x.natAbs:=by
 have h:=Int.natAbs_sub_le u (q*x);rw[Int.natAbs_mul] at h;exact h
theorem Q7{r d:Int}(hd:d≠0)(hs:0<=d*r):(r-r.fdiv d*d).natAbs+(r.fdiv d).natAbs*d.natAbs=r.natAbs:=by
 have e:r.fmod d+r.fdiv d*d=r:=Int.fmod_add_fdiv_mul r d;have e2:r-r.fdiv d*d=r.fmod d:=by lia
 rw[e2,<-Int.natAbs_mul];have fs:=LR r d hd;rcases(by lia:0<d\/d<0) with h | h
 ·have r0:0<=r:=by
   rcases(by lia:0<=r\/r<0) with z | z
   ·exact z
   ·have:=Int.mul_neg_of_pos_of_neg h z;lia
  have q0:0<=r.fdiv d:=Int.fdiv_nonneg r0 (je1 h);have a:=Int.fmod_nonneg_of_pos r h;have p:=jh5 q0 (je1 h);lia
 ·have r0:r<=0:=by
   rcases(by lia:r<=0\/0<r) with z | z
   ·exact z
   ·have:=Int.mul_neg_of_neg_of_pos h z;lia
  have q0:0<=r.fdiv d:=Int.fdiv_nonneg_of_nonpos_of_nonpos r0 (je1 h);have a:r.fmod d<=0:=by
   rcases(by lia:r.fmod d<=0\/0<r.fmod d) with z | z
   ·exact z
   ·have:=Int.mul_neg_of_pos_of_neg z h;lia
  have p:=jh5 q0 (show 0<= -d by lia);rw[Int.mul_neg] at p;lia
variable{a:Int}
theorem EqI.step{b u v r u' v' r':Int}(I:EqI a b u v r u' v' r')(h:r'≠0):
 EqI a b u' v' r' (u-r.fdiv r'*u') (v-r.fdiv r'*v') (r-r.fdiv r'*r')/\(r-r.fdiv r'*r').natAbs<r'.natAbs:=by
 have e:r.fmod r'+r.fdiv r'*r'=r:=Int.fmod_add_fdiv_mul r r';have e2:r-r.fdiv r'*r'=r.fmod r':=by lia
 have fs:=LR r r' h;refine⟨⟨I.e2,?_,?_,?_⟩,by rw[e2];exact fs.2⟩
 ·have:=I.e1;have:=I.e2
  grind
 ·rw[Int.gcd_sub_mul_right_right,Int.gcd_comm];exact I.g
 ·right;rcases I.ph with ⟨h1,h2,h3,h4,h5,h6⟩ | ⟨hb,hr,hs,l1,l2,l3,l4⟩
  ·subst h1 h2 h3 h4 h5 h6;refine⟨h,h,by rw[e2];exact fs.1,qh _,by rw[e2];lia,?_,by simp⟩;simp
  ·have q:=Q7 h hs;refine⟨hb,h,by rw[e2];exact fs.1,l2,by rw[e2];lia,?_,?_⟩
   ·have m:=Jw u (r.fdiv r') u';generalize (r-r.fdiv r'*r').natAbs=A at*
    generalize (u-r.fdiv r'*u').natAbs=B at*
    generalize (r.fdiv r').natAbs=C at*
    have k1:B*r'.natAbs<=(u.natAbs+C*u'.natAbs)*r'.natAbs:=Nat.mul_le_mul_right _ m;have k2:(u.natAbs+C*u'.natAbs)*r'.natAbs+u'.natAbs*A=u.natAbs*r'.natAbs+u'.natAbs*(A+C*r'.natAbs):=by grind
    rw[q] at k2;lia
   ·have:u'.natAbs*1<=u'.natAbs*r.natAbs:=jg8 _ (by lia);lia
theorem v_bound{b u v r:Int}(hb:b≠0)(e:u*a+v*b=r)(l1:r.natAbs<=b.natAbs)(l4:u.natAbs<=b.natAbs+1):v.natAbs<=1+2*a.natAbs:=by
 have e1:v*b=r-u*a:=by lia
 have h:=Jw r u a;rw[<-e1,Int.natAbs_mul] at h;have hb':0<b.natAbs:=by lia
 have k:u.natAbs*a.natAbs<=(b.natAbs+1)*a.natAbs:=Nat.mul_le_mul_right _ l4;have k2:a.natAbs*1<=a.natAbs*b.natAbs:=jg8 _ hb';have k3:v.natAbs*b.natAbs<=(1+2*a.natAbs)*b.natAbs:=by grind
 exact Nat.le_of_mul_le_mul_right k3 hb'
theorem EqI.bounds{b u v r u' v' r':Int}(I:EqI a b u v r u' v' r'):
 u.natAbs<=b.natAbs+1/\v.natAbs<=1+2*a.natAbs/\u'.natAbs<=b.natAbs+1/\v'.natAbs<=1+2*a.natAbs/\r.natAbs<=a.natAbs+b.natAbs/\r'.natAbs<=b.natAbs:=by
 rcases I.ph with ⟨h1,h2,h3,h4,h5,h6⟩ | ⟨hb,hr,hs,l1,l2,l3,l4⟩
 ·subst h1 h2 h3 h4 h5 h6;refine⟨by simp,by simp,by simp,by simp,by lia,by lia⟩
 ·have:u'.natAbs*1<=u'.natAbs*r.natAbs:=jg8 _ (by lia);have lu:u'.natAbs<=b.natAbs+1:=by lia
  exact⟨l4,v_bound hb I.e1 l1 l4,lu,v_bound hb I.e2 l2 lu,by lia,l2⟩
theorem aP{r d:Int}(hd:d≠0):(r.fdiv d).natAbs<=r.natAbs+1:=by
 have e:r.fmod d+r.fdiv d*d=r:=Int.fmod_add_fdiv_mul r d;have fs:=(LR r d hd).2;have h:(r.fdiv d*d).natAbs<=r.natAbs+(r.fmod d).natAbs:=by lia
 rw[Int.natAbs_mul] at h;have d1:1<=d.natAbs:=by lia
 generalize (r.fdiv d).natAbs=x at*
 generalize d.natAbs=y at*
 generalize r.natAbs=z at*
 rcases(by lia:x<=1\/2<=x) with c | c
 ·lia
 ·obtain⟨k,rfl⟩:∃k,x=k+1:=⟨x-1,by lia⟩;have:(k+1)*y=k*y+y:=Nat.succ_mul k y;have:k*1<=k*y:=jg8 k d1;lia
structure Eqn(a b u v g:Int):Prop where
 eq:u*a+v*b=g
 gd:g=(Int.gcd a b:Int)
 bu:u.natAbs<=b.natAbs+1
 bv:v.natAbs<=1+2*a.natAbs
theorem EqI.done{b u v r u' v':Int}(I:EqI a b u v r u' v' 0):(r<0->Eqn a b (-u) (-v) (-r))/\(¬r<0->Eqn a b u v r):=by
 have g:=I.g;rw[Int.gcd_zero_right] at g;have B:=I.bounds;refine⟨fun h=>⟨?_,by lia,by lia,by lia⟩,fun h=>⟨I.e1,by lia,B.1,B.2.1⟩⟩;have:=I.e1;rw[Int.neg_mul,Int.neg_mul];lia
theorem Qs{b:Int}(ha:0<a):0<(Int.gcd a b:Int):=by
 have:Int.gcd a b≠0:=fun z=>by
  have:=Int.eq_zero_of_gcd_eq_zero_left z;lia
 lia
theorem nO{b:Int}(ha:0<a):(Int.gcd a b:Int)<=a:=Int.le_of_dvd ha (ji8 ..)
noncomputable def Bx(a b:Int):Int:=a/(Int.gcd a b:Int)*b
theorem Br{b:Int}(ha:0<a)(hb:0<b):
 0<Bx a b/\a∣Bx a b/\b∣Bx a b/\Bx a b*(Int.gcd a b:Int)=a*b/\(∀t,a∣t->b∣t->Bx a b∣t)/\Bx a b=(Int.lcm a b:Int):=by
 have gp:=Qs (b:=b) ha;obtain⟨x,hx⟩:(Int.gcd a b:Int)∣a:=ji8 ..;obtain⟨y,hy⟩:(Int.gcd a b:Int)∣b:=Int.gcd_dvd_right ..;have e1:a/(Int.gcd a b:Int)=x:=by
  have gne:(Int.gcd a b:Int)≠0:=by lia
  generalize hg:(Int.gcd a b:Int)=g at*
  rw[hx];exact Int.mul_ediv_cancel_left x gne
 have e:Bx a b=x*b:=by unfold Bx;rw[e1]
 have pr:Bx a b*(Int.gcd a b:Int)=a*b:=by rw[e];conv=>rhs;rw[hx]
                                          grind
 have pl:(Int.lcm a b:Int)*(Int.gcd a b:Int)=a*b:=by
  have h:=Int.gcd_mul_lcm a b;have h2:((Int.gcd a b*Int.lcm a b:Nat):Int)=((a.natAbs*b.natAbs:Nat):Int):=by rw[h]
  rw[ji2,ji2,Int.natAbs_of_nonneg (je1 ha),Int.natAbs_of_nonneg (je1 hb)] at h2;rw[Int.mul_comm];exact h2
 have el:Bx a b=(Int.lcm a b:Int):=Int.eq_of_mul_eq_mul_right (by lia:(Int.gcd a b:Int)≠0) (pr.trans pl.symm);refine⟨?_,?_,?_,pr,?_,el⟩
 ·have:0<Bx a b*(Int.gcd a b:Int):=by rw[pr];exact Int.mul_pos ha hb
  exact Int.pos_of_mul_pos_left this gp
 ·rw[el];exact Int.dvd_lcm_left ..
 ·rw[el];exact Int.dvd_lcm_right ..
 ·intro t h1 h2;rw[el];exact Int.coe_lcm_dvd h1 h2
theorem VG{b:Int}(ha:0<a)(hb:0<b):Bx a b=Bx b a:=by
 rw[(Br ha hb).2.2.2.2.2,(Br hb ha).2.2.2.2.2,Int.lcm_comm]
theorem dX{b:Int}(ha:0<a)(hb:0<b):Bx a b<=a*b:=by
 have f:=Br ha hb;have gp:=Qs (b:=b) ha;have h:Bx a b*1<=Bx a b*(Int.gcd a b:Int):=jd5 (by lia) (je1 f.1);rw[f.2.2.2.1] at h;lia
noncomputable def On(n:Int)(b:Nat)(d:Int):Bool:=b.testBit (d%n).toNat
theorem ABN(b k:Nat):decide (((b:Nat):Int)/2^k%2=1)=b.testBit k:=by
 rw[Nat.testBit_eq_decide_div_mod_eq];have e:((b:Nat):Int)/2^k%2=((b/2^k%2:Nat):Int):=by
  rw[Qb,ji9,ji3];rfl
 rw[e,vv];simp only[decide_eq_true_eq];lia
theorem Gb(b k:Nat):((b:Nat):Int)/2^k=((b >>> k:Nat):Int):=by
 rw[ua,ji9,ji3];rfl
theorem Q5(b k:Nat):((b:Nat):Int)*2^k=((b <<< k:Nat):Int):=by
 rw[Nat.shiftLeft_eq,ji2,ji3];rfl
theorem iU(k:Nat):(1:Int)*2^k-1=((2^k-1:Nat):Int):=by
 have:0<2^k:=kx k;rw[Int.natCast_sub (by lia),ji3];simp
theorem lX(k:Nat):(1:Int)*2^k=((2^k:Nat):Int):=by
 rw[ji3];simp
variable{b c:Nat}
theorem oZ{w:Nat}(hb:b<2^w)(hc:c<2^w)(h:∀i,i<w->b.testBit i=c.testBit i):b=c:=by
 refine vb fun i=>?_;by_cases hi:i<w
 ·exact h i hi
 ·have p:2^w<=2^i:=vk (by decide) (by lia);rw[jh7 (by lia),jh7 (by lia)]
theorem high{n i:Nat}(hb:b<2^n)(h:n<=i):b.testBit i=false:=by
 have p:2^n<=2^i:=vk (by decide) h;exact jh7 (by lia)
theorem GZ(c w:Nat):c &&& (2^w-1)<2^w:=by
 rw[Nat.and_two_pow_sub_one_eq_mod];exact ji6 _ (kx w)
theorem Es(c w i:Nat)(h:i<w):(c &&& (2^w-1)).testBit i=c.testBit i:=by
 rw[Qr,Nat.testBit_two_pow_sub_one];simp[h]
noncomputable def lat(n b s:Nat):Nat:=((b <<< s) ||| (b >>> (n-s))) &&& (2^n-1)
theorem JL(n b s:Nat):lat n b s<2^n:=GZ _ _
theorem tG{n s i:Nat}(hb:b<2^n)(hs:s<n)(hi:i<n):(lat n b s).testBit i=b.testBit ((i+n-s)%n):=by
 unfold lat;rw[Es _ _ _ hi,jb6,Nat.testBit_shiftLeft,kr];by_cases h:s<=i
 ·have e:(i+n-s)%n=i-s:=by
   have:i+n-s=i-s+n:=by lia
   rw[this,Nat.add_mod_right,jc3 (by lia)]
  rw[e,high hb (show n<=n-s+i by lia)];simp[h]
 ·have e:(i+n-s)%n=n-s+i:=by
   rw[jc3 (by lia)];lia
  rw[e];simp[h]
theorem idx{n d num:Int}(hn:0<n):(((d%n).toNat+n.toNat-(num%n).toNat)%n.toNat)=((d-num)%n).toNat:=by
 have h1:=qg d (show n≠0 by lia);have h2:=qc d hn;have h3:=qg num (show n≠0 by lia);have h4:=qc num hn;have e:(d-num)%n=(d%n+n-num%n)%n:=by
  rw[Int.sub_emod,Int.sub_emod (d%n+n),jh8,Int.emod_emod,Int.emod_emod]
 have h5:=qg (d%n+n-num%n) (show n≠0 by lia);rw[e];have k:(((d%n).toNat+n.toNat-(num%n).toNat:Nat):Int)=d%n+n-num%n:=by lia
 have k2:(n.toNat:Int)=n:=by lia
 have:((((d%n).toNat+n.toNat-(num%n).toNat)%n.toNat:Nat):Int)=(d%n+n-num%n)%n:=by
  rw[Qb,k,k2]
 lia
theorem bD{n:Int}{num d:Int}(hn:0<n)(hb:b<2^n.toNat):On n (lat n.toNat b (num%n).toNat) d=On n b (d-num):=by
 unfold On;have h1:=qg d (show n≠0 by lia);have h2:=qc d hn;have h3:=qg num (show n≠0 by lia);have h4:=qc num hn;rw[tG hb (by lia) (by lia),idx hn]
structure Ez(n b w c:Nat):Prop where
 lt:c<2^w
 bit:∀i,i<w->c.testBit i=b.testBit (i%n)
theorem Ez.start{n:Nat}(h:b<2^n):Ez n b n b:=⟨h,fun i hi=>by rw[jc3 hi]⟩
theorem Ez.dbl{n w:Nat}(S:Ez n b w c)(hd:n∣w):Ez n b (w*2) (c ||| (c <<< w)):=by
 have e:2^(w*2)=2^w*2^w:=by rw[Nat.mul_two,Nat.pow_add]
 refine⟨?_,fun i hi=>?_⟩
 ·refine Nat.or_lt_two_pow (xh S.lt (vk (by decide) (by lia))) ?_;rw[Nat.shiftLeft_eq,e];exact Nat.mul_lt_mul_of_pos_right S.lt (kx w)
 ·rw[jb6,Nat.testBit_shiftLeft];by_cases h:i<w
  ·rw[S.bit i h];simp[Nat.not_le.mpr h]
  ·rw[high S.lt (by lia),S.bit (i-w) (by lia)];obtain⟨k,rfl⟩:=hd;have e2:i=(i-n*k)+n*k:=by lia
   have e3:i%n=(i-n*k)%n:=by conv=>lhs;rw[e2,Nat.add_mul_mod_self_left]
   rw[e3];simp;intro z;lia
variable{z:Nat}
theorem Ez.cut{n w:Nat}(S:Ez n b w c)(h:z<=w):Ez n b z (c &&& (2^z-1)):=
 ⟨GZ _ _,fun i hi=>by rw[Es _ _ _ hi,S.bit i (by lia)]⟩
theorem Ez.on{n m:Int}(hn:0<n)(hm:0<m)(hd:n∣m)(S:Ez n.toNat b m.toNat c)(d:Int):On m c d=On n b d:=by
 unfold On;have h1:=qg d (show m≠0 by lia);have h2:=qc d hm;rw[S.bit _ (by lia)]
 congr 1
 have e:(d%m)%n=d%n:=ja1 d hd;have h3:=qg d (show n≠0 by lia);have k:(((d%m).toNat%n.toNat:Nat):Int)=d%m%n:=by
  rw[Qb];have a1:((d%m).toNat:Int)=d%m:=by lia
  have a2:(n.toNat:Int)=n:=by lia
  rw[a1,a2]
 rw[e] at k;lia
noncomputable def hit(n:Int)(ds:List Int)(d:Int):Bool:=ds.any fun x=>decide ((d-x)%n=0)
structure RB(n:Int)(ds:List Int)(b:Nat):Prop where
 lt:b<2^n.toNat
 bit:∀d,On n b d=hit n ds d
theorem RB.nil(n:Int):RB n [] 0:=⟨kx _,fun d=>by unfold On hit;simp⟩
theorem Ga{n d x:Int}(hn:0<n):(d-x)%n=0<->d%n=x%n:=by
 rw[Int.sub_emod];have h1:=qg d (show n≠0 by lia);have h2:=qc d hn;have h3:=qg x (show n≠0 by lia);have h4:=qc x hn;constructor
 ·intro h;have:=jg5 h;obtain⟨k,hk⟩:=this;have:k=0:=by
   rcases Int.lt_trichotomy k 0 with z | z | z
   ·have:n*k<=n*(-1):=jd5 (by lia) (by lia);lia
   ·exact z
   ·have:n*1<=n*k:=jd5 (by lia) (by lia);lia
  subst this;lia
 ·intro h;rw[h];simp
theorem RB.snoc{n:Int}{ds:List Int}{x:Int}(hn:0<n)(h:RB n ds b):RB n (ds++[x]) (b ||| 2^(x%n).toNat):=by
 have h3:=qg x (show n≠0 by lia);have h4:=qc x hn;refine⟨Nat.or_lt_two_pow h.lt (Nat.pow_lt_pow_right (by decide) (by lia)),fun d=>?_⟩;have h1:=qg d (show n≠0 by lia);have hb:=h.bit d;unfold On hit at*
 rw[jb6,hb,List.any_append,Nat.testBit_two_pow]
 congr 1
 rw[List.any_cons,List.any_nil,Bool.or_false,vv,decide_eq_true_eq,decide_eq_true_eq,Ga hn];lia
noncomputable def Prm(r:Nat):Prop:=2<=r/\∀d,d∣r->d=1\/d=r
theorem Prm.euclid{r a:Nat}(h:Prm r)(hd:r∣a*b):r∣a\/r∣b:=by
 rcases h.2 _ (jc2 r a) with g | g
 ·exact .inr (Nat.Coprime.dvd_of_dvd_mul_left g hd)
 ·left;have:=jc7 r a
  rwa [g] at this
theorem Rq:∀(k q:Nat),q<=k->2<=q->∃r,Prm r/\r∣q
 | 0,q,h,h2=>by lia
 | k+1,q,h,h2=>by
  by_cases c:∃d,d∣q/\d≠1/\d≠q
  ·obtain⟨d,hd,h1,hq⟩:=c;have d0:d≠0:=fun z=>by subst z;have:=Nat.eq_zero_of_zero_dvd hd;lia
   have dl:=vc (by lia) hd;obtain⟨r,hr,hrd⟩:=Rq k d (by lia) (by lia);exact⟨r,hr,Nat.dvd_trans hrd hd⟩
  ·refine⟨q,⟨h2,fun d hd=>?_⟩,Nat.dvd_refl q⟩;by_cases h1:d=1
   ·exact .inl h1
   ·by_cases hq:d=q
    ·exact .inr hq
    ·exact absurd ⟨d,hd,h1,hq⟩ c
structure PI0(n:Nat)(ps:List Nat)(l f:Nat):Prop where
 l0:0<l
 ln:l<=n
 f2:2<=f
 low:∀q,2<=q->q∣l->f<=q
 all:∀r,Prm r->r∣n->r∈ps\/r∣l
 mem:∀p∈ps,2<=p/\p<=n
theorem PI0.start{n:Nat}(h:0<n):PI0 n [] n 2:=⟨h,qh _,by lia,fun q h _=>h,fun r _ h=>.inr h,fun p hp=>by cases hp⟩
theorem PI0.app{n:Nat}{ps:List Nat}{l f:Nat}(h:PI0 n ps l f)(hf:f∣l):PI0 n (ps++[f]) l f:=
 ⟨h.l0,h.ln,h.f2,h.low,fun r hr hd=>(h.all r hr hd).imp (fun z=>jg0 _ z) id,fun p hp=>by
  rcases vx.mp hp with z | z
  ·exact h.mem p z
  ·have e:p=f:=by simpa using z
   subst e;exact⟨h.f2,zv (vc h.l0 hf) h.ln⟩⟩
theorem PI0.div{n:Nat}{ps:List Nat}{l f:Nat}(h:PI0 n ps l f)(hf:f∣l)(hm:f∈ps):PI0 n ps (l/f) f/\l/f<l:=by
 obtain⟨k,rfl⟩:=hf;have f0:0<f:=by have:=h.f2;lia
 have e:f*k/f=k:=jg7 k f0;have k0:0<k:=Nat.pos_of_mul_pos_left h.l0;have kl:k<f*k:=by
  have:=Nat.mul_le_mul_right k h.f2;lia
 rw[e];refine⟨⟨k0,by have:=h.ln;lia,h.f2,fun q h2 hq=>h.low q h2 (Nat.dvd_mul_left_of_dvd hq f),fun r hr hd=>?_,h.mem⟩,kl⟩;rcases h.all r hr hd with z | z
 ·exact .inl z
 ·rcases hr.euclid z with y | y
  ·have:f<=r:=h.low r hr.1 z;have:r<=f:=vc f0 y;have:r=f:=by lia
   subst this;exact .inl hm
  ·exact .inr y
theorem PI0.next{n:Nat}{ps:List Nat}{l f:Nat}(h:PI0 n ps l f)(hf:¬f∣l):PI0 n ps l (f+1):=
 ⟨h.l0,h.ln,by have:=h.f2;lia,fun q h2 hq=>by
  have:=h.low q h2 hq;have:q≠f:=fun z=>hf (z ▸ hq);lia,h.all,h.mem⟩
structure o7(n:Nat)(ps:List Nat):Prop where
 all:∀r,Prm r->r∣n->r∈ps
 mem:∀p∈ps,2<=p/\p<=n
theorem PI0.one{n:Nat}{ps:List Nat}{l f:Nat}(h:PI0 n ps l f)(e:¬1<l):o7 n ps:=
 ⟨fun r hr hd=>by
  rcases h.all r hr hd with z | z
  ·exact z
  ·have:=vc h.l0 z;have:=hr.1;lia,h.mem⟩
theorem PI0.fin{n:Nat}{ps:List Nat}{l f:Nat}(h:PI0 n ps l f)(hf:¬f*f<=l)(e:1<l):o7 n (ps++[l]):=
 ⟨fun r hr hd=>by
  rcases h.all r hr hd with z | z
  ·exact jg0 _ z
  ·refine xy _ ?_;obtain⟨k,hk⟩:=z;have k0:0<k:=by
    rcases ji0 k with z | z
    ·subst z;simp at hk;lia
    ·exact z
   have hk1:k=1:=by
    by_cases c:k=1
    ·exact c
    ·exfalso;have a:=h.low k (by lia) ⟨r,by rw[hk,Nat.mul_comm]⟩;have b:=h.low r hr.1 ⟨k,hk⟩;have:=Nat.mul_le_mul b a;lia
   subst hk1;simp at hk;simp[hk],fun p hp=>by
  rcases vx.mp hp with z | z
  ·exact h.mem p z
  ·have e:p=l:=by simpa using z
   subst e;exact⟨by lia,h.ln⟩⟩
structure Per(z c t:Nat):Prop where
 t0:0<t
 dv:t∣z
 bit:∀i j,i<z->j<z->i%t=j%t->c.testBit i=c.testBit j
theorem Per.mul{t u:Nat}(h:Per z c t)(u0:0<u)(h1:t∣u)(h2:u∣z):Per z c u:=⟨u0,h2,fun i j hi hj e=>h.bit i j hi hj (by
 obtain⟨k,rfl⟩:=h1;have a:=jf4 i t k;have b:=jf4 j t k;rw[<-a,<-b,e])⟩
theorem Per.of_shift{s:Nat}(s0:0<s)(hd:s∣z)(h:∀i,i+s<z->c.testBit i=c.testBit (i+s)):Per z c s:=by
 have up:∀k i,i+s*k<z->c.testBit i=c.testBit (i+s*k):=by
  intro k
  induction k with
  | zero=>intro i _;simp
  | succ k ih=>
   intro i hi;rw[Nat.mul_succ] at hi ⊢;rw[ih i (by lia),h (i+s*k) (by lia),Nat.add_assoc]
 have red:∀i,i<z->c.testBit i=c.testBit (i%s):=fun i hi=>by
  have e:=Nat.mod_add_div i s;have:=up (i/s) (i%s) (by lia);rw[e] at this;exact this.symm
 exact⟨s0,hd,fun i j hi hj e=>by rw[red i hi,red j hj,e]⟩
theorem Per.shift{s:Nat}(h:Per z c s):∀i,i+s<z->c.testBit i=c.testBit (i+s):=fun i hi=>h.bit i (i+s) (by lia) hi (by rw[Nat.add_mod_right])
theorem jL{s:Nat}(hc:c<2^z)(s0:0<s)(hd:s∣z)(z0:0<z):(c >>> s=c &&& (2^(z-s)-1))<->Per z c s:=by
 have sz:=vc z0 hd;constructor
 ·intro h;refine Per.of_shift s0 hd fun i hi=>?_;have:=xo (fun x=>x.testBit i) h;simp only[kr] at this;rw[Es _ _ _ (by lia)] at this;rw[<-this,Nat.add_comm]
 ·intro h;refine vb fun i=>?_;rw[kr];by_cases hi:i<z-s
  ·rw[Es _ _ _ hi,h.shift i (by lia),Nat.add_comm]
  ·rw[high hc (by lia),high (GZ c (z-s)) (by lia)]
theorem Per.strt{s:Nat}(h:Per z c s)(hc:c<2^z)(z0:0<z):Ez s (c &&& (2^s-1)) z c:=⟨hc,fun i hi=>by
 have l:=ji6 i h.t0;have sz:=vc z0 h.dv;rw[Es _ _ _ l];exact h.bit i (i%s) hi (by lia) (by rw[Nat.mod_mod])⟩
theorem Ez.comp{s c' n:Nat}(h:Ez s c' z c)(g:Ez z c n b)(hd:s∣z)(z0:0<z):Ez s c' n b:=⟨g.lt,fun i hi=>by
 rw[g.bit i hi,h.bit _ (ji6 i z0)];obtain⟨k,rfl⟩:=hd;rw[jf4]⟩
theorem Per.up{s c' t:Nat}(h:Ez s c' z c)(hd:s∣z)(s0:0<s)(g:Per s c' t):Per z c t:=by
 have hts:t∣s:=g.dv;refine⟨g.t0,Nat.dvd_trans hts hd,fun i j hi hj e=>?_⟩;rw[h.bit i hi,h.bit j hj];refine g.bit _ _ (ji6 i s0) (ji6 j s0) ?_;obtain⟨k,rfl⟩:=hts;rw[jf4,jf4,e]
noncomputable def Tight(z c p:Nat):Prop:=¬(p∣z/\Per z c (z/p))
theorem Tight.keep{s c' p:Nat}(h:Ez s c' z c)(hd:s∣z)(s0:0<s)(z0:0<z)(p0:0<p)(g:Tight z c p):Tight s c' p:=fun⟨h1,h2⟩=>by
 refine g ⟨Nat.dvd_trans h1 hd,?_⟩;have a:=Per.up h hd s0 h2;obtain⟨k,rfl⟩:=h1;obtain⟨m,rfl⟩:=hd;have e1:p*k/p=k:=jg7 k p0;have e2:p*k*m/p=k*m:=by rw[Nat.mul_assoc,jg7 _ p0]
 rw[e1] at a;rw[e2];have km:0<k*m:=by
  rcases ji0 (k*m) with z | z
  ·rw[Nat.mul_assoc,z] at z0;simp at z0
  ·exact z
 exact a.mul km ⟨m,rfl⟩ ⟨p,by rw[Nat.mul_assoc,Nat.mul_comm]⟩
structure Lst(n b z c:Nat):Prop where
 z0:0<z
 dv:z∣n
 lt:c<2^z
 st:Ez z c n b
 min:∀s,s<z->¬Per z c s
theorem Lst.of{n:Nat}{ps:List Nat}(P:o7 n ps)(n0:0<n)(z0:0<z)(dv:z∣n)(lt:c<2^z)(st:Ez z c n b)(t:∀p∈ps,Tight z c p):Lst n b z c:=by
 refine⟨z0,dv,lt,st,fun s hs hp=>?_⟩;obtain⟨k,hk⟩:=hp.dv;have s0:=hp.t0;have k2:2<=k:=by
  rcases(by lia:k=0\/k=1\/2<=k) with z | z | z
  ·subst z;simp at hk;lia
  ·subst z;simp at hk;lia
  ·exact z
 obtain⟨r,hr,⟨m,hm⟩⟩:=Rq k k (qh _) k2;have rz:r∣z:=⟨s*m,by rw[hk,hm,Nat.mul_left_comm]⟩;refine t r (P.all r hr (Nat.dvd_trans rz dv)) ⟨rz,?_⟩;have r0:0<r:=by have:=hr.1;lia
 have e:z/r=s*m:=by rw[hk,hm,Nat.mul_left_comm,jg7 _ r0]
 rw[e];have sm:0<s*m:=by
  rcases ji0 (s*m) with q | q
  ·rw[hk,hm,Nat.mul_left_comm,q] at z0;simp at z0
  ·exact q
 exact hp.mul sm ⟨m,rfl⟩ ⟨r,by rw[hk,hm,Nat.mul_left_comm,Nat.mul_comm]⟩
noncomputable def Fold(z b m c:Nat):Prop:=∀i,c.testBit i=true<->∃k,k<m/\b.testBit (i+k*z)=true
theorem Fold.start(z b:Nat):Fold z b 1 b:=fun i=>⟨fun h=>⟨0,by lia,by simpa using h⟩,fun⟨k,hk,h⟩=>by
 have:k=0:=by lia
 subst this;simpa using h⟩
theorem Fold.dbl{m:Nat}(F:Fold z b m c):Fold z b (m*2) (c ||| (c >>> (m*z))):=fun i=>by
 rw[jb6,kr,ji1,F i,F (m*z+i)];constructor
 ·rintro(⟨k,hk,h⟩ | ⟨k,hk,h⟩)
  ·exact⟨k,by lia,h⟩
  ·refine⟨m+k,by lia,?_⟩;rw[Nat.add_mul]
   rwa [show m*z+i+k*z=i+(m*z+k*z) by lia] at h
 ·rintro⟨k,hk,h⟩;by_cases c1:k<m
  ·exact .inl ⟨k,c1,h⟩
  ·refine .inr ⟨k-m,by lia,?_⟩;obtain⟨j,rfl⟩:∃j,k=m+j:=⟨k-m,by lia⟩;rw[show m+j-m=j by lia];rw[Nat.add_mul] at h
   rwa [show i+(m*z+j*z)=m*z+i+j*z by lia] at h
theorem Fold.done{m n r:Nat}(F:Fold z b m c)(hb:b<2^n)(hm:n<=m*z)(hz:0<z)(hr:r<z):
 (c &&& (2^z-1)).testBit r=true<->∃k,r+k*z<n/\b.testBit (r+k*z)=true:=by
 rw[Es _ _ _ hr,F r];constructor
 ·rintro⟨k,hk,h⟩;refine⟨k,?_,h⟩;rcases Nat.lt_or_ge (r+k*z) n with g | g
  ·exact g
  ·rw[high hb g] at h;cases h
 ·rintro⟨k,hk,h⟩;refine⟨k,?_,h⟩;have:k*z<m*z:=by lia
  exact Nat.lt_of_mul_lt_mul_right this
noncomputable def cnt(b:Nat):Nat->Nat
 | 0=>0
 | k+1=>cnt b k+(if b.testBit k then 1 else 0)
theorem Y0(b:Nat):∀k,cnt b (k+1)=b%2+cnt (b/2) k
 | 0=>by
  simp only[cnt,jj1];have:=Nat.mod_two_eq_zero_or_one b;rcases this with h | h<;>simp[h]
 | k+1=>by
  have ih:=Y0 b k;rw[cnt,ih];show b%2+cnt (b/2) k+_=b%2+(cnt (b/2) k+_);rw[jd9];lia
noncomputable def CC(n:Int)(b:Nat)(d:Int):Int:=d/n*(cnt b n.toNat:Int)+(cnt b (d%n).toNat:Int)
theorem nZ(c d:Nat):(2*c) &&& (2*d+1)=2*(c &&& d):=by
 refine vb fun i=>?_;cases i with
 | zero=>rw[Qr];simp[jj1]
 | succ i=>
  rw[Qr,jd9,jd9,jd9,show 2*c/2=c by lia,show(2*d+1)/2=d by lia,show 2*(c &&& d)/2=c &&& d by lia,Qr]
theorem sI(c:Nat):(2*c+1) &&& (2*c)=2*c:=by
 refine vb fun i=>?_;cases i with
 | zero=>rw[Qr];simp[jj1]
 | succ i=>
  rw[Qr,jd9,jd9,show 2*c/2=c by lia,show(2*c+1)/2=c by lia,Bool.and_self]
theorem Wz:∀(k b:Nat),b.testBit k=true->(∀i,i<k->b.testBit i=false)->(b &&& (b-1))+2^k=b
 | 0,b,h,_=>by
  rw[jj1,decide_eq_true_eq] at h;obtain⟨c,rfl⟩:∃c,b=2*c+1:=⟨b/2,by lia⟩;rw[show 2*c+1-1=2*c by lia,sI]
 | k+1,b,h,g=>by
  have g0:=g 0 (by lia);rw[jj1,decide_eq_false_iff_not] at g0;obtain⟨c,rfl⟩:∃c,b=2*c:=⟨b/2,by lia⟩;rw[jd9,show 2*c/2=c by lia] at h;have c0:c≠0:=by
   rintro rfl;rw[jb0] at h;exact Bool.noConfusion h
  have ih:=Wz k c h fun i hi=>by
   have:=g (i+1) (by lia)
   rwa [jd9,show 2*c/2=c by lia] at this
  rw[show 2*c-1=2*(c-1)+1 by lia,nZ,Nat.pow_succ];lia
theorem mY(h:b≠0):∃k,b.testBit k=true/\∀i,i<k->b.testBit i=false:=by
 obtain⟨j,hj⟩:=Nat.exists_testBit_of_ne_zero h;have:∀n j,j<=n->b.testBit j=true->∃k,b.testBit k=true/\∀i,i<k->b.testBit i=false:=by
  intro n
  induction n with
  | zero=>
   intro j hj hb;exact⟨j,hb,fun i hi=>by lia⟩
  | succ n ih=>
   intro j hj hb;by_cases c:∃i,i<j/\b.testBit i=true
   ·obtain⟨i,hi,hb'⟩:=c;exact ih i (by lia) hb'
   ·exact⟨j,hb,fun i hi=>by
     cases e:b.testBit i with
     | false=>rfl
     | true=>exact absurd ⟨i,hi,e⟩ c⟩
 exact this j j (qh _) hj
theorem Yl(k:Nat):(2^k).log2=k:=by
 have h0:(2:Nat)^k≠0:=by have:=kx k;lia
 exact Nat.log2_two_pow
noncomputable def Kq(w:Nat):List Nat->Nat
 | []=>0
 | a::l=>a+2^w*Kq w l
noncomputable def fsum:List Nat->Nat
 | []=>0
 | a::l=>a+fsum l
noncomputable def Dg(w f s:Nat):Prop:=∃l:List Nat,(∀a∈l,a<=w)/\f=Kq w l/\s=fsum l
theorem Dg.nil{w:Nat}:Dg w 0 0:=⟨[],(fun _ h=>nomatch h),rfl,rfl⟩
theorem Dg.cons{w a f s:Nat}(h:a<=w)(g:Dg w f s):Dg w (a+2^w*f) (a+s):=by
 obtain⟨l,h1,rfl,rfl⟩:=g;exact⟨a::l,fun x hx=>(qm.mp hx).elim (fun e=>e ▸ h) (h1 x),rfl,rfl⟩
noncomputable def Ev(w f e:Nat):Prop:=∀i,e.testBit i=(f.testBit i&&decide (i%(2*w)<w))
theorem VN{w:Nat}:∀l:List Nat,Kq w l=0->fsum l=0
 | [],_=>rfl
 | a::l,e=>by
  have e:a+2^w*Kq w l=0:=e;have e1:a=0:=by lia
  have e2:2^w*Kq w l=0:=by lia
  have p:=kx w;rcases Nat.mul_eq_zero.mp e2 with z | z
  ·lia
  ·show a+fsum l=0;rw[e1,VN l z]
theorem Dg.last{w f s:Nat}(h:Dg w f s)(hl:f<2^w):f=s:=by
 obtain⟨l,_,rfl,rfl⟩:=h;cases l with
 | nil=>rfl
 | cons a l=>
  have hl:a+2^w*Kq w l<2^w:=hl;have z:Kq w l=0:=by
   rcases ji0 (Kq w l) with z | z
   ·exact z
   ·have:=Nat.le_mul_of_pos_right (2^w) z;lia
  show a+2^w*Kq w l=a+fsum l;rw[VN l z,z];simp
theorem Vl{w a h:Nat}(ha:a<2^w)(i:Nat):(a+2^w*h).testBit i=if i<w then a.testBit i else h.testBit (i-w):=by
 rw[Nat.add_comm,Nat.testBit_two_pow_mul_add h ha]
theorem Ev.peel{w a h e:Nat}(w0:0<w)(ha:a<2^w)(H:Ev w (a+2^w*h) e):e=a+2^(2*w)*(e/2^(2*w))/\Ev w (h/2^w) (e/2^(2*w)):=by
 have e1:e%2^(2*w)=a:=by
  refine vb fun i=>?_;rw[jc0,H i,Vl ha];by_cases c:i<w
  ·rw[xz c,jc3 (by lia)];simp[c,show i<2*w by lia]
  ·rw[yv c];have:a.testBit i=false:=jh7 (xh ha (vk (by decide) (by lia)));rw[this];by_cases c2:i<2*w
   ·rw[jc3 c2];simp[c]
   ·simp[c2]
 refine⟨?_,fun i=>?_⟩
 ·have:=Nat.mod_add_div e (2^(2*w));rw[e1] at this;exact this.symm
 ·rw[<-ua,<-ua,kr,kr,H,Vl ha,yv (by lia),show 2*w+i-w=w+i by lia,Nat.add_mod_left]
theorem vW{w:Nat}(w0:0<w):∀l:List Nat,(∀a∈l,a<=w)->∀e1 e2,Ev w (Kq w l) e1->Ev w (Kq w l/2^w) e2->Dg (2*w) (e1+e2) (fsum l)/\e1+e2<=Kq w l
 | [],_,e1,e2,h1,h2=>by
  have z:∀e,Ev w 0 e->e=0:=fun e he=>vb fun i=>by rw[he i,jb0];rfl
  have h2:Ev w (0/2^w) e2:=h2;rw[Nat.zero_div] at h2;rw[z e1 h1,z e2 h2];exact⟨.nil,qh _⟩
 | [a],ha,e1,e2,h1,h2=>by
  have ha:=ha a qk;have h1:Ev w (a+2^w*0) e1:=h1;have h2:Ev w ((a+2^w*0)/2^w) e2:=h2;show Dg (2*w) (e1+e2) (a+0)/\e1+e2<=a+2^w*0;have al:a<2^w:=ub ha Nat.lt_two_pow_self;have z:∀e,Ev w 0 e->e=0:=fun e he=>vb fun i=>by rw[he i,jb0];rfl
  obtain⟨p1,p2⟩:=h1.peel w0 al;rw[Nat.zero_div] at p2;have p3:=z _ p2;rw[Nat.mul_zero,Nat.add_zero,Nat.div_eq_of_lt al] at h2;have p4:=z _ h2;rw[p3,Nat.mul_zero,Nat.add_zero] at p1;rw[p1,p4,Nat.mul_zero];refine⟨?_,by lia⟩;have:=Dg.cons (w:=2*w) (a:=a) (by lia) (.nil)
  rwa [Nat.mul_zero] at this
 | a::b::l,hl,e1,e2,h1,h2=>by
  have ha:=hl a qk;have hb:=hl b (qr _ qk);have hg:∀x∈l,x<=w:=fun x hx=>hl x (qr _ (qr _ hx));have h1:Ev w (a+2^w*(b+2^w*Kq w l)) e1:=h1;have h2:Ev w ((a+2^w*(b+2^w*Kq w l))/2^w) e2:=h2;have ih:=vW w0 l hg;show Dg (2*w) (e1+e2) (a+(b+fsum l))/\e1+e2<=a+2^w*(b+2^w*Kq w l);generalize Kq w l=g at*
  generalize fsum l=s at*
  have al:a<2^w:=ub ha Nat.lt_two_pow_self;have bl:b<2^w:=ub hb Nat.lt_two_pow_self;have p:=kx w;have d1:(a+2^w*(b+2^w*g))/2^w=b+2^w*g:=by rw[Nat.add_mul_div_left _ _ p,Nat.div_eq_of_lt al,Nat.zero_add]
  have d2:(b+2^w*g)/2^w=g:=by rw[Nat.add_mul_div_left _ _ p,Nat.div_eq_of_lt bl,Nat.zero_add]
  rw[d1] at h2;obtain⟨p1,p2⟩:=h1.peel w0 al;obtain⟨p3,p4⟩:=h2.peel w0 bl;rw[d2] at p2;obtain⟨i1,i2⟩:=ih _ _ p2 p4;have:=Dg.cons (w:=2*w) (a:=a+b) (by lia) i1;refine⟨?_,?_⟩
  ·rw[p1,p3];rw[Nat.mul_add] at this;have e:a+2^(2*w)*(e1/2^(2*w))+(b+2^(2*w)*(e2/2^(2*w)))=a+b+(2^(2*w)*(e1/2^(2*w))+2^(2*w)*(e2/2^(2*w))):=by lia
   rw[e,<-Nat.add_assoc a b s];exact this
  ·have m:=jg8 (2^(2*w)) i2;rw[Nat.mul_add] at m;have q1:b<=2^w*b:=Nat.le_mul_of_pos_left b p;have q2:2^w*(2^w*g)=2^(2*w)*g:=by rw[<-Nat.mul_assoc,<-Nat.pow_add,Nat.two_mul]
   rw[Nat.mul_add,q2];lia
theorem Dg.pair{w f s:Nat}(w0:0<w)(h:Dg w f s){e1 e2:Nat}(h1:Ev w f e1)(h2:Ev w (f/2^w) e2):Dg (2*w) (e1+e2) s/\e1+e2<=f:=by
 obtain⟨l,hl,rfl,rfl⟩:=h;exact vW w0 l hl e1 e2 h1 h2
theorem Dg.start:∀(n b:Nat),b<2^n->Dg 1 b (cnt b n)
 | 0,b,h=>by
  have:b=0:=by simp at h;exact h
  subst this;exact .nil
 | n+1,b,h=>by
  have:=Dg.cons (w:=1) (a:=b%2) (by lia) (Dg.start n (b/2) (by rw[Nat.pow_succ] at h;lia));rw[Y0]
  rwa [Nat.pow_one,Nat.mod_add_div] at this
theorem Y4:∀{k:Nat},(∀i,i<k->b.testBit i=c.testBit i)->cnt b k=cnt c k
 | 0,_=>rfl
 | k+1,h=>by
  rw[cnt,cnt,Y4 (fun i hi=>h i (by lia)),h k (by lia)]
theorem oN(b:Nat):∀k,cnt b k<=k
 | 0=>qh _
 | k+1=>by
  have:=oN b k;rw[cnt];split<;>lia
noncomputable def pc(b j:Nat):Nat:=b/2^(256*j)%2^256
theorem Rc(b j i:Nat):(pc b j).testBit i=(decide (i<256)&&b.testBit (256*j+i)):=by
 unfold pc;rw[jc0,<-ua,kr]
theorem ABM(b j:Nat):pc b j<2^256:=ji6 _ (kx _)
theorem mK(b p:Nat):pc (b ||| 2^p) (p/256)=pc b (p/256) ||| 2^(p%256):=by
 refine vb fun i=>?_;rw[Rc,jb6,jb6,Rc,Nat.testBit_two_pow,Nat.testBit_two_pow];by_cases c:i<256
 ·have:(p=256*(p/256)+i)=(p%256=i):=propext ⟨fun h=>by lia,fun h=>by lia⟩;simp[c,this]
 ·have:¬p%256=i:=by lia
  simp[c,this]
theorem mJ{p j:Nat}(h:j≠p/256):pc (b ||| 2^p) j=pc b j:=by
 refine vb fun i=>?_;rw[Rc,jb6,Rc,Nat.testBit_two_pow];by_cases c:i<256
 ·have:¬p=256*j+i:=by lia
  simp[c,this]
 ·simp[c]
theorem rT(b m:Nat):b%2^(256*m) ||| (pc b m <<< (256*m))=b%2^(256*(m+1)):=by
 refine vb fun i=>?_;rw[jb6,Nat.testBit_shiftLeft,jc0,jc0,Rc];by_cases c:i<256*m
 ·simp[c,show ¬256*m<=i by lia,show i<256*(m+1) by lia]
 ·by_cases c2:i<256*(m+1)
  ·simp[c,c2,show 256*m<=i by lia,show i-256*m<256 by lia,show 256*m+(i-256*m)=i by lia]
  ·simp[c,c2,show ¬i-256*m<256 by lia]
structure Rw(on:Int->Bool)(rw:List Int):Prop where
 srt:rw.Pairwise (· < ·)
 all:∀r∈rw,on r=true
 cov:∀r,on r=true->(∃x∈rw,x<=r)->(∃y∈rw,r<=y)->r∈rw
theorem lR{l:List Int}(h:l.Pairwise (· < ·)){i j:Nat}{x y:Int}(hij:i<j)(hx:l[i]?=some x)(hy:l[j]?=some y):x<y:=by
 obtain⟨hi,rfl⟩:=xb.mp hx;obtain⟨hj,rfl⟩:=xb.mp hy;exact List.pairwise_iff_getElem.mp h i j hi hj hij
theorem Rw.gap{on:Int->Bool}{rw:List Int}(h:Rw on rw){p:Nat}{x y r:Int}(hx:rw[p]?=some x)(hy:rw[p+1]?=some y)(h1:x<r)(h2:r<y):on r=false:=by
 cases e:on r with
 | false=>rfl
 | true=>
  have m:=h.cov r e ⟨x,zh hx,by lia⟩ ⟨y,zh hy,by lia⟩;obtain⟨j,hj⟩:=List.mem_iff_getElem?.mp m;rcases Nat.lt_trichotomy j p with z | z | z
  ·have:=lR h.srt z hj hx;lia
  ·subst z;rw[hj] at hx;injection hx with hx;lia
  ·rcases Nat.lt_trichotomy j (p+1) with w | w | w
   ·lia
   ·subst w;rw[hj] at hy;injection hy with hy;lia
   ·have:=lR h.srt w hy hj;lia
structure Nb(on:Int->Bool)(a d c:Int):Prop where
 oa:on a=true
 ad:a<=d
 na:∀r,a<r->r<=d->on r=false
 oc:on c=true
 dc:d<=c
 nc:∀r,d<=r->r<c->on r=false
theorem Rw.nb{on:Int->Bool}{rw:List Int}(h:Rw on rw){p:Nat}{x y d:Int}(hx:rw[p]?=some x)(hy:rw[p+1]?=some y)(h1:x<d)(h2:d<=y):Nb on (if y=d then d else x) d y:=by
 have ox:=h.all x (zh hx);have oy:=h.all y (zh hy);by_cases c:y=d
 ·rw[xz c];subst c;exact⟨oy,Int.le_refl _,fun r z1 z2=>by lia,oy,Int.le_refl _,fun r z1 z2=>by lia⟩
 ·rw[yv c];exact⟨ox,by lia,fun r z1 z2=>h.gap hx hy z1 (by lia),oy,h2,fun r z1 z2=>h.gap hx hy (by lia) z2⟩
noncomputable def ACw(on1 on2:Int->Bool)(d:Int):Prop:=∃r,on1 r=true/\r<=d/\∀s,on2 s=true->r<s->d<s
noncomputable def Kth(n1:Int)(b1:Nat)(n2:Int)(b2:Nat)(k d:Int):Prop:=On n1 b1 d=true/\∃b e,On n2 b2 b=true/\On n2 b2 e=true/\b<=d/\d<e/\(∀r,b<r->r<e->On n2 b2 r=false)/\(0<k->CC n1 b1 (d+1)-CC n1 b1 b=k)/\(k<0->CC n1 b1 e-CC n1 b1 d= -k)
theorem zX{n:Int}(hn:0<n)(d j:Int):CC n b (d+n*j)=CC n b d+j*(cnt b n.toNat:Int):=by
 unfold CC;rw[Int.add_mul_ediv_left _ _ (by lia),je8,Int.add_mul];lia
theorem ue{n:Int}:CC n b 0=0:=by
 unfold CC;rw[Int.zero_ediv,Int.zero_emod];show 0*_+((cnt b 0:Nat):Int)=0;rw[Int.zero_mul];rfl
structure Dn(n:Int)(b:Nat)(ds:List Int):Prop where
 len:(ds.length:Int)=(cnt b n.toNat:Int)
 at':∀(j:Nat) (x:Int),ds[j]?=some x->On n b x=true/\CC n b x=(j:Int)/\0<=x/\x<n
noncomputable def J4(n:Int)(ds:List Int)(P:Int):Int:=P/(ds.length:Int)*n+(ds[(P%(ds.length:Int)).toNat]?).getD 0
theorem Dn.day{n:Int}{ds:List Int}(hn:0<n)(D:Dn n b ds)(h:0<ds.length)(P:Int):On n b (J4 n ds P)=true/\CC n b (J4 n ds P)=P:=by
 have m0:=qg P (show (ds.length:Int)≠0 by lia);have m1:=qc P (show (0:Int)<(ds.length:Int) by lia);have hl:(P%(ds.length:Int)).toNat<ds.length:=by lia
 obtain⟨x,hx⟩:∃x,ds[(P%(ds.length:Int)).toNat]?=some x:=⟨_,qv hl⟩;obtain⟨a1,a2,a3,a4⟩:=D.at' _ _ hx;have e:J4 n ds P=x+n*(P/(ds.length:Int)):=by
  unfold J4;rw[hx,Int.mul_comm];show _+x=_;lia
 have p:=Int.mul_ediv_add_emod P (ds.length:Int);rw[e];constructor
 ·unfold On at a1 ⊢
  rwa [je8]
 ·rw[zX hn,a2,<-D.len,Int.mul_comm];lia
noncomputable abbrev Tm:=Int×Int×Int×Int
structure OkT(t:Tm):Prop where
 sg:t.1=1\/t.1= -1
 n0:1<=t.2.2.2
 n1:t.2.2.2<=1000
 a0:0<=t.2.1
 a1:t.2.1<=t.2.2.2
 b0:0<=t.2.2.1
 b1:t.2.2.1<t.2.2.2
noncomputable def onT(t:Tm)(k:Int):Bool:=decide (t.2.2.2<=(t.2.1*k+t.2.2.1)%t.2.2.2+t.2.1)
noncomputable def ctT(t:Tm)(k:Int):Int:=(t.2.1*k+t.2.2.1)/t.2.2.2
noncomputable def SU(ts:List Tm)(k:Int):Int:=(ts.map fun t=>t.1*ctT t k).sum
noncomputable def UP(base:Int)(ts:List Tm)(k:Int):Int:=base*k+SU ts k
noncomputable def ONS(ts:List Tm)(k:Int):Int:=((ts.filter fun t=>onT t k).map fun t=>t.1).sum
noncomputable def AT(base:Int)(ts:List Tm)(k:Int):Int:=base+ONS ts k
noncomputable def falls(ts:List Tm):Int:=((ts.filter fun t=>decide (t.1= -1)).length:Int)
theorem uG{t:Tm}(h:OkT t)(k:Int):ctT t (k+1)=ctT t k+(if onT t k=true then 1 else 0):=by
 unfold ctT onT;obtain⟨s,a,b,n⟩:=t;have n0:=h.n0;have a0:=h.a0;have a1:=h.a1;dsimp only at n0 a0 a1 ⊢;have e:a*(k+1)+b=a*k+b+a:=by rw[Int.mul_add,Int.mul_one];lia
 rw[e];generalize a*k+b=y;have q:=Int.mul_ediv_add_emod y n;have r0:=qg y (show n≠0 by lia);have r1:=qc y (show 0<n by lia);by_cases c:n<=y%n+a
 ·rw[decide_eq_true c,xz rfl];have h:y+a=n*(y/n+1)+(y%n+a-n):=by rw[Int.mul_add,Int.mul_one];lia
  conv=>lhs;rw[h]
  rw[Int.mul_add_ediv_left _ _ (by lia),jh6 (a:=y%n+a-n) (b:=n) (by lia) (by lia)];lia
 ·rw[decide_eq_false c,yv ze];have h:y+a=n*(y/n)+(y%n+a):=by lia
  conv=>lhs;rw[h]
  rw[Int.mul_add_ediv_left _ _ (by lia),jh6 (a:=y%n+a) (b:=n) (by lia) (by lia)]
theorem uF{t:Tm}(h:OkT t):ctT t 0=0:=by
 unfold ctT;rw[Int.mul_zero,Int.zero_add];exact jh6 h.b0 h.b1
theorem eY:∀{ts:List Tm} (_:∀t∈ts,OkT t) (k:Int),SU ts (k+1)=SU ts k+ONS ts k
 | [],_,k=>rfl
 | t::ts,h,k=>by
  have ih:=eY (ts:=ts) (fun x hx=>h x (qr _ hx)) k;have s:=uG (h t qk) k;unfold SU ONS at*
  rw[xk,xk,jb8,jb8,ih,s,jh3];by_cases c:onT t k=true
  ·rw[xz c,xz c,xk,jb8,Int.mul_add,Int.mul_one];lia
  ·rw[yv c,yv c,Int.add_zero];lia
theorem eX:∀{ts:List Tm} (_:∀t∈ts,OkT t),SU ts 0=0
 | [],_=>rfl
 | t::ts,h=>by
  have ih:=eX (ts:=ts) (fun x hx=>h x (qr _ hx));unfold SU at*
  rw[xk,jb8,ih,uF (h t qk)];simp
theorem Xa:∀{ts:List Tm} (_:∀t∈ts,OkT t) (k:Int),-falls ts<=ONS ts k
 | [],_,k=>by show(-((0:Nat):Int))<=0;lia
 | t::ts,h,k=>by
  have ih:=Xa (ts:=ts) (fun x hx=>h x (qr _ hx)) k;have sg:=(h t qk).sg;unfold falls ONS at*
  rw[jh3,jh3];by_cases c:onT t k=true
  ·rw[xz c,xk,jb8];rcases sg with z | z
   ·rw[yv (by rw[decide_eq_true_eq];lia)];lia
   ·rw[xz (decide_eq_true z),qq];lia
  ·rw[yv c];split
   ·rw[qq];lia
   ·lia
variable{base:Int}{ts:List Tm}
theorem uW(h:∀t∈ts,OkT t)(k:Int):UP base ts (k+1)=UP base ts k+AT base ts k:=by
 unfold UP AT;rw[eY h,Int.mul_add,Int.mul_one];lia
theorem uV(h:∀t∈ts,OkT t):UP base ts 0=0:=by
 unfold UP;rw[eX h,Int.mul_zero];rfl
theorem uX(h:∀t∈ts,OkT t)(hf:falls ts<=base){j k:Int}(jk:j<=k):UP base ts j<=UP base ts k:=by
 have:∀m:Nat,UP base ts j<=UP base ts (j+(m:Int)):=by
  intro m
  induction m with
  | zero=>simp
  | succ m ih=>
   have e:=uW (base:=base) h (j+(m:Int));have l:=Xa h (j+(m:Int));unfold AT at e;rw[show j+((m+1:Nat):Int)=j+(m:Int)+1 by lia,e];lia
 have:=this (k-j).toNat
 rwa [show j+((k-j).toNat:Int)=k by lia] at this
noncomputable def PER(ts:List Tm):Int:=ts.foldl (fun p t=>Bx p t.2.2.2) 1
theorem zT(h:∀t∈ts,OkT t)(hf:falls ts<base){P:Int}(P0:0<P):0<UP base ts P:=by
 have m:=uX h (Int.le_refl (falls ts)) (show (0:Int)<=P by lia);rw[uV h] at m;unfold UP at*
 have:(falls ts+1)*P<=base*P:=jd0 (by lia) (by lia);rw[Int.add_mul,Int.one_mul] at this;lia
theorem ug(h:∀t∈ts,OkT t)(k:Int):ONS ts k<=(ts.length:Int):=by
 unfold ONS
 induction ts with
 | nil=>exact Int.le_refl 0
 | cons t ts ih=>
  have i:=ih fun x hx=>h x (qr _ hx);have sg:=(h t qk).sg;rw[jh3,qq];split
  ·rw[xk,jb8];lia
  ·lia
theorem jo:∀{ls:List Int},(∀n∈ls,0<=n/\n<=1000)->0<=ls.sum/\ls.sum<=1000*(ls.length:Int)
 | [],_=>by simp
 | a::ls,h=>by
  have i:=jo (ls:=ls) fun n hn=>h n (qr _ hn);have:=h a qk;rw[jb8,qq];lia
noncomputable def Xc(ls:List Int)(lp:Int)(ts:List Tm)(y:Int):List Int:=ls.set (lp-1).toNat (ls.getD (lp-1).toNat 0+ONS ts y)
structure Je(ls:List Int)(lp:Int)(ts:List Tm):Prop where
 l0:1<=ls.length
 l1:ls.length<=20
 m:∀n∈ls,0<=n/\n<=1000
 p0:1<=lp
 p1:lp<=(ls.length:Int)
 f0:falls ts<=ls.getD (lp-1).toNat 0
 f1:falls ts<ls.sum
 ok:∀t∈ts,OkT t
 few:ts.length<=6
theorem Je.sum{ls:List Int}{lp:Int}(g:Je ls lp ts):0<=ls.sum/\ls.sum<=20000:=by
 have:=jo g.m;have:=g.l1;lia
theorem getD_mem'{ls:List Int}{i:Nat}(h:i<ls.length):ls.getD i 0∈ls:=by
 rw[List.getD_eq_getElem?_getD,qv h];exact jd6 h
theorem o9{ls:List Int}{lp:Int}(g:Je ls lp ts)(y:Int):∀n∈Xc ls lp ts y,0<=n/\n<=1006:=by
 intro n hn;have p0:=g.p0;have p1:=g.p1;unfold Xc at hn;rcases List.mem_or_eq_of_mem_set hn with z | z
 ·have:=g.m n z;lia
 ·have:=g.m _ (getD_mem' (ls:=ls) (i:=(lp-1).toNat) (by lia));have l:=Xa g.ok y;have u:=ug g.ok y;have:=g.few;have:=g.f0;lia
theorem pC{ls:List Int}{lp:Int}{y:Int}:(Xc ls lp ts y).length=ls.length:=by
 unfold Xc;rw[List.length_set]
theorem dC{p L:Nat}{f:Nat->Bool}(h:∀i,i+p<L->f i=f (i+p)):∀(k j:Nat),j<=k->j<L->f j=f (j%p)
 | 0,j,hk,_=>by
  have:j=0:=by lia
  subst this;rw[Nat.zero_mod]
 | k+1,j,hk,hj=>by
  by_cases c:j<p
  ·rw[jc3 c]
  ·by_cases p0:p=0
   ·subst p0;rw[Nat.mod_zero]
   ·have e:=h (j-p) (by lia);rw[Nat.sub_add_cancel (by lia)] at e;have e2:j%p=(j-p)%p:=Nat.mod_eq_sub_mod (by lia);rw[<-e,dC h k (j-p) (by lia) (by lia),e2]
theorem dj:∀(k p q:Nat) (f:Nat->Bool),p+q<=k->0<p->0<q->(∀i,i+p<p+q-Nat.gcd p q->f i=f (i+p))->(∀i,i+q<p+q-Nat.gcd p q->f i=f (i+q))->
 ∀j,j<p+q-Nat.gcd p q->f j=f (j%Nat.gcd p q):=by
 intro k
 induction k with
 | zero=>intro p q f hk p0 q0;lia
 | succ k ih=>
  have main:∀(p q:Nat) (f:Nat->Bool),p+q<=k+1->0<p->p<q->(∀i,i+p<p+q-Nat.gcd p q->f i=f (i+p))->(∀i,i+q<p+q-Nat.gcd p q->f i=f (i+q))->
   ∀j,j<p+q-Nat.gcd p q->f j=f (j%Nat.gcd p q):=by
   intro p q f hk p0 pq hp hq j hj;have eg:Nat.gcd p (q-p)=Nat.gcd p q:=by
    have:q=(q-p)+p:=by lia
    conv=>rhs;rw[this,Nat.gcd_add_self_right]
   have gp:Nat.gcd p q∣p:=jc2 p q;have gr:Nat.gcd p q∣q-p:=by rw[<-eg];exact jc7 p (q-p)
   have gl:=vc p0 gp;have gl2:=vc (show 0<q-p by lia) gr;have e1:p+(q-p)-Nat.gcd p q=q-Nat.gcd p q:=by lia
   have:=ih p (q-p) f (by lia) p0 (by lia) (fun i hi=>by
    rw[eg,e1] at hi;exact hp i (by lia)) (fun i hi=>by
    rw[eg,e1] at hi;have a:=hq i (by lia);have b:=hp (i+(q-p)) (by lia);rw[a,b]
    congr 1
    lia)
   rw[eg,e1] at this;rw[dC hp j j (qh _) hj,this (j%p) (by have:=ji6 j p0;lia),Nat.mod_mod_of_dvd j gp]
  intro p q f hk p0 q0 hp hq j hj;rcases Nat.lt_trichotomy p q with c | c | c
  ·exact main p q f hk p0 c hp hq j hj
  ·subst c;rw[Nat.gcd_self] at hj ⊢;rw[jc3 (by lia)]
  ·rw[Nat.gcd_comm] at hp hq hj ⊢;rw[Nat.add_comm p q] at hp hq hj;exact main q p f (by lia) q0 c hq hp j hj
theorem On.turn{n:Int}(b:Nat){d e:Int}(h:d%n=e%n):On n b d=On n b e:=by unfold On;rw[h]
theorem nP{p q:Nat}(p0:0<p)(q0:0<q){b c:Nat}{d:Int}(h:∀i:Nat,i<p+q-Nat.gcd p q->On (p:Int) b (d+i)=On (q:Int) c (d+i))(e:Int):On (p:Int) b e=On (q:Int) c e:=by
 have gp:Nat.gcd p q∣p:=jc2 p q;have gq:Nat.gcd p q∣q:=jc7 p q;have g0:0<Nat.gcd p q:=jb9 q p0;have gl:=vc p0 gp;have gl2:=vc q0 gq;have P:∀i:Nat,On (p:Int) b (d+(i:Nat))=On (p:Int) b (d+((i+p:Nat):Int)):=fun i=>On.turn b (by
  rw[jg1,<-Int.add_assoc,jh8])
 have Q:∀i:Nat,On (q:Int) c (d+(i:Nat))=On (q:Int) c (d+((i+q:Nat):Int)):=fun i=>On.turn c (by
  rw[jg1,<-Int.add_assoc,jh8])
 have key:=dj (p+q) p q (fun i=>On (p:Int) b (d+(i:Nat))) (qh _) p0 q0 (fun i _=>P i) (fun i hi=>by
  show On (p:Int) b (d+(i:Nat))=On (p:Int) b (d+((i+q:Nat):Int));rw[h i (by lia),h (i+q) hi];exact Q i)
 have k1:=qg (e-d) (show (p:Int)≠0 by lia);have k2:=qc (e-d) (show (0:Int)<(p:Int) by lia);have k3:=qg (e-d) (show (q:Int)≠0 by lia);have k4:=qc (e-d) (show (0:Int)<(q:Int) by lia);have a1:On (p:Int) b e=On (p:Int) b (d+(((e-d)%(p:Int)).toNat:Nat)):=On.turn b (by
  rw[Jn k1,Int.add_emod_emod]
  congr 1
  lia)
 have a2:On (q:Int) c e=On (q:Int) c (d+(((e-d)%(q:Int)).toNat:Nat)):=On.turn c (by
  rw[Jn k3,Int.add_emod_emod]
  congr 1
  lia)
 have m1:=key ((e-d)%(p:Int)).toNat (by lia);have m2:=key ((e-d)%(q:Int)).toNat (by lia);have n1:((e-d)%(p:Int)).toNat%Nat.gcd p q=((e-d)%(q:Int)).toNat%Nat.gcd p q:=by
  have x1:((((e-d)%(p:Int)).toNat%Nat.gcd p q:Nat):Int)=(e-d)%(Nat.gcd p q:Int):=by
   rw[Qb,Jn k1,ja1 _ (Zp.mpr gp)]
  have x2:((((e-d)%(q:Int)).toNat%Nat.gcd p q:Nat):Int)=(e-d)%(Nat.gcd p q:Int):=by
   rw[Qb,Jn k3,ja1 _ (Zp.mpr gq)]
  lia
 have m1':On (p:Int) b (d+(((e-d)%(p:Int)).toNat:Nat))=On (p:Int) b (d+((((e-d)%(p:Int)).toNat%Nat.gcd p q:Nat):Int)):=m1;have m2':On (p:Int) b (d+(((e-d)%(q:Int)).toNat:Nat))=On (p:Int) b (d+((((e-d)%(q:Int)).toNat%Nat.gcd p q:Nat):Int)):=m2;rw[a1,a2,<-h _ (by lia),m1',m2',n1]
theorem Wn{n i:Nat}(h:i<n):On (n:Int) b (i:Int)=b.testBit i:=by
 unfold On;rw[jc5 (by lia) (by lia),zk]
theorem Lst.on{n:Nat}(L:Lst n b z c)(n0:0<n)(e:Int):On (n:Int) b e=On (z:Int) c e:=by
 have:=L.z0;exact Ez.on (n:=(z:Int)) (m:=(n:Int)) (by lia) (by lia) (Zp.mpr L.dv) (by rw[zk,zk];exact L.st) e
theorem Lst.tight{n n' b' z' c':Nat}(L:Lst n b z c)(L':Lst n' b' z' c')(h:∀e:Int,On (z:Int) c e=On (z':Int) c' e):z∣z':=by
 have z0:=L.z0;have z0':=L'.z0;have gz:Nat.gcd z z'∣z:=jc2 z z';have g0:0<Nat.gcd z z':=jb9 z' z0;have gl:=vc z0 gz;have gl2:=vc z0' (jc7 z z');have key:=dj (z+z') z z' (fun i=>On (z:Int) c (i:Nat)) (qh _) z0 z0' (fun i _=>On.turn c (by
  rw[jg1,jh8])) (fun i hi=>by
  show On (z:Int) c (i:Nat)=On (z:Int) c ((i+z':Nat):Int);rw[h,h];exact On.turn c' (by rw[jg1,jh8]))
 have per:Per z c (Nat.gcd z z'):=⟨g0,gz,fun i j hi hj e=>by
  have a:On (z:Int) c (i:Nat)=On (z:Int) c ((i%Nat.gcd z z':Nat):Int):=key i (by lia);have b:On (z:Int) c (j:Nat)=On (z:Int) c ((j%Nat.gcd z z':Nat):Int):=key j (by lia);rw[Wn hi] at a;rw[Wn hj] at b;rw[a,b,e]⟩
 have ge:Nat.gcd z z'=z:=by
  rcases Nat.lt_or_ge (Nat.gcd z z') z with y | y
  ·exact absurd per (L.min _ y)
  ·lia
 rw[<-ge];exact jc7 z z'
theorem Lst.same{n n' b' z' c':Nat}(L:Lst n b z c)(L':Lst n' b' z' c')(h:∀e:Int,On (z:Int) c e=On (z':Int) c' e):z=z'/\c=c':=by
 have e:z=z':=Nat.dvd_antisymm (L.tight L' h) (L'.tight L fun e=>(h e).symm);subst e;refine⟨rfl,oZ L.lt L'.lt fun i hi=>?_⟩;have:=h (i:Nat)
 rwa [Wn hi,Wn hi] at this
theorem bez:∀a b:Nat,∃u v:Int,u*(a:Int)+v*(b:Int)=((Nat.gcd a b:Nat):Int):=by
 intro a b
 induction a,b using Nat.gcd.induction with
 | H0 n=>exact⟨0,1,by rw[Nat.gcd_zero_left];lia⟩
 | H1 m n hm ih=>
  obtain⟨u,v,e⟩:=ih;refine⟨v-u*((n/m:Nat):Int),u,?_⟩;rw[Nat.gcd_rec,<-e];have h:(n:Int)=(m:Int)*((n/m:Nat):Int)+((n%m:Nat):Int):=by
   rw[<-ji2,<-jg1,Nat.div_add_mod]
  generalize ((n/m:Nat):Int)=k at*
  generalize ((n%m:Nat):Int)=r at*
  rw[h,Int.sub_mul,Int.mul_add,<-Int.mul_assoc,Int.mul_right_comm u k (m:Int),];lia
noncomputable def Meets(n b m c:Nat):Prop:=∃i j,i<n/\j<m/\b.testBit i=true/\c.testBit j=true/\i%Nat.gcd n m=j%Nat.gcd n m
theorem Meets.day{n m:Nat}(n0:0<n)(m0:0<m)(h:Meets n b m c):∃x:Int,On (n:Int) b x=true/\On (m:Int) c x=true:=by
 obtain⟨i,j,hi,hj,hb,hc,e⟩:=h;obtain⟨u,v,E⟩:=bez n m;have g0:0<Nat.gcd n m:=jb9 m n0;obtain⟨k,hk⟩:((Nat.gcd n m:Nat):Int)∣(j:Int)-(i:Int):=by
  apply jg5;rw[Int.sub_emod,<-Qb,<-Qb,e,Int.sub_self,Int.zero_emod]
 have x1:(i:Int)+(n:Int)*(u*k)=(j:Int)+(m:Int)*(-(v*k)):=by
  have:(j:Int)=(i:Int)+(u*(n:Int)+v*(m:Int))*k:=by rw[E];lia
  rw[this,Int.add_mul,Int.mul_neg,Int.mul_comm u (n:Int),Int.mul_comm v (m:Int),Int.mul_assoc,Int.mul_assoc];lia
 refine⟨(i:Int)+(n:Int)*(u*k),?_,?_⟩
 ·unfold On;rw[je8,jc5 (by lia) (by lia),zk];exact hb
 ·rw[x1];unfold On;rw[je8,jc5 (by lia) (by lia),zk];exact hc
theorem Meets.of{n m:Nat}(n0:0<n)(m0:0<m){x:Int}(h1:On (n:Int) b x=true)(h2:On (m:Int) c x=true):Meets n b m c:=by
 have k1:=qg x (show (n:Int)≠0 by lia);have k2:=qc x (show (0:Int)<(n:Int) by lia);have k3:=qg x (show (m:Int)≠0 by lia);have k4:=qc x (show (0:Int)<(m:Int) by lia);refine⟨(x%(n:Int)).toNat,(x%(m:Int)).toNat,by lia,by lia,h1,h2,?_⟩;have a1:((((x%(n:Int)).toNat%Nat.gcd n m:Nat)):Int)=x%((Nat.gcd n m:Nat):Int):=by
  rw[Qb,Jn k1,ja1 _ (Zp.mpr (jc2 n m))]
 have a2:((((x%(m:Int)).toNat%Nat.gcd n m:Nat)):Int)=x%((Nat.gcd n m:Nat):Int):=by
  rw[Qb,Jn k3,ja1 _ (Zp.mpr (jc7 n m))]
 lia
structure Fst(n b m c:Nat)(d e:Int):Prop where
 ge:d<=e
 lt:e<d+Bx (n:Int) (m:Int)
 on1:On (n:Int) b e=true
 on2:On (m:Int) c e=true
 no:∀x,d<=x->x<e->¬(On (n:Int) b x=true/\On (m:Int) c x=true)
theorem Yg{n:Nat}{x y:Int}(h:(n:Int)∣x-y):On (n:Int) b x=On (n:Int) b y:=by
 unfold On;rw[(ja1 x (Int.dvd_refl _)).symm,ja1 x (Int.dvd_refl _),Int.emod_eq_emod_iff_emod_sub_eq_zero.mpr (je0 h)]
theorem jK{n m:Nat}(n0:0<n)(m0:0<m){d x:Int}(h1:On (n:Int) b x=true)(h2:On (m:Int) c x=true):
 ∃y,d<=y/\y<d+Bx (n:Int) (m:Int)/\On (n:Int) b y=true/\On (m:Int) c y=true:=by
 have f:=Br (a:=(n:Int)) (b:=(m:Int)) (by lia) (by lia);have k1:=qg (x-d) (show Bx (n:Int) (m:Int)≠0 by lia);have k2:=qc (x-d) f.1;have dv:Bx (n:Int) (m:Int)∣d+(x-d)%Bx (n:Int) (m:Int)-x:=by
  have:=Int.mul_ediv_add_emod (x-d) (Bx (n:Int) (m:Int));exact⟨-((x-d)/Bx (n:Int) (m:Int)),by rw[Int.mul_neg];lia⟩
 refine⟨d+(x-d)%Bx (n:Int) (m:Int),by lia,by lia,?_,?_⟩
 ·rw[Yg (Int.dvd_trans f.2.1 dv)];exact h1
 ·rw[Yg (Int.dvd_trans f.2.2.1 dv)];exact h2
structure Nx(on:Int->Bool)(r r':Int):Prop where
 o1:on r=true
 o2:on r'=true
 lt:r<r'
 no:∀x,r<x->x<r'->on x=false
theorem Nx.le{on:Int->Bool}{r r' x:Int}(h:Nx on r r')(hx:on x=true)(l:x<r'):x<=r:=by
 by_cases c:x<=r
 ·exact c
 ·have:=h.no x (by lia) l;rw[hx] at this;cases this
noncomputable def Hu(z:Int)(ds:List Int):List Int:=ds.drop 1++(ds.take 1).map (· +z)
noncomputable def mids(z:Int)(ds:List Int):List Int:=List.zipWith (fun x y=>(x+y)/2+1) ds (Hu z ds)
theorem bx(z:Int)(ds:List Int):(Hu z ds).length=ds.length:=by
 unfold Hu;rw[qf,ja8,jp,jd7];lia
noncomputable abbrev Wd:=List Nat
noncomputable def kL:Wd:=[40]
noncomputable def kR:Wd:=[41]
noncomputable def opd(p:Wd):Wd:=p.dropWhile (· ==40)
noncomputable def core(p:Wd):Wd:=((opd p).reverse.dropWhile (· ==41)).reverse
noncomputable def HJ(p:Wd):List Wd:=List.replicate (p.length-(opd p).length) kL++[core p]++List.replicate ((opd p).length-(core p).length) kR
theorem Ny(p:Wd):(opd p).length<=p.length:=(List.dropWhile_sublist _).length_le
theorem Qt(p:Wd):(core p).length<=(opd p).length:=by
 unfold core;rw[List.length_reverse];have:=(List.dropWhile_sublist (· ==41) (l:=(opd p).reverse)).length_le
 rwa [List.length_reverse] at this
noncomputable def jn:List Wd->Wd
 | []=>[]
 | [w]=>w
 | w::y::r=>w++32::jn (y::r)
noncomputable def bA:List Wd->List Wd
 | []=>[]
 | p::r=>(40::p)::r
noncomputable def bB:List Wd->List Wd
 | []=>[]
 | [p]=>[p++[41]]
 | p::q::r=>p::bB (q::r)
theorem JM{w:Wd}{r:List Wd}(h:r≠[]):jn (w::r)=w++32::jn r:=by
 cases r with
 | nil=>exact absurd rfl h
 | cons y r=>rfl
theorem m8:∀{ps qs:List Wd},ps≠[]->qs≠[]->jn (ps++qs)=jn ps++32::jn qs
 | [],_,h,_=>absurd rfl h
 | [w],qs,_,h=>by rw[List.singleton_append,JM h];rfl
 | w::y::r,qs,_,h=>by
  rw[jh2,JM (by simp),m8 (by simp) h];show _=(w++32::jn (y::r))++_;simp
theorem ABT{ps:List Wd}(h:ps≠[]):jn (bA ps)=40::jn ps:=by
 match ps,h with
 | [w],_=>rfl
 | w::y::r,_=>rfl
theorem vO:∀{ps:List Wd},ps≠[]->jn (bB ps)=jn ps++[41]
 | [],h=>absurd rfl h
 | [w],_=>rfl
 | w::y::r,_=>by
  have ih:=vO (ps:=y::r) (by simp);have ne:bB (y::r)≠[]:=by cases r<;>simp[bB]
  show jn (w::bB (y::r))=_;rw[JM ne,ih];show _=(w++32::jn (y::r))++[41];simp
theorem jr:∀{w:Wd} {ws:List Wd},(∀p∈w::ws,32∉p)->L2.spl 32 (jn (w::ws))=w::ws
 | w,[],h=>L2.Vy 32 w (h w qk)
 | w,y::r,h=>by
  show L2.spl 32 (w++32::jn (y::r))=_;rw[L2.Qi 32 w _ (h w qk),jr fun p hp=>h p (qr _ hp)]
theorem Mx{ps:List Wd}(h:ps≠[]):bA ps≠[]:=by cases ps<;>simp_all [bA]
theorem Vq{ps:List Wd}(h:ps≠[]):bB ps≠[]:=by
 match ps,h with
 | [w],_=>simp[bB]
 | w::y::r,_=>simp[bB]
theorem oh:∀(ps:List Wd) {qs:List Wd},qs≠[]->bB (ps++qs)=ps++bB qs
 | [],_,_=>rfl
 | [p],q::r,_=>rfl
 | p::y::r,qs,h=>by
  have:=oh (y::r) h;rw[jh2] at this ⊢;show bB (p::y::(r++qs))=_;show p::bB (y::(r++qs))=_;rw[this];rfl
theorem MK(p:Wd):opd (40::p)=opd p:=by simp[opd,jb1]
theorem Gs(p:Wd):core (40::p)=core p:=by unfold core;rw[MK]
theorem Wj{p q:Wd}(h:opd p≠[]):opd (p++q)=opd p++q:=by
 unfold opd at*
 induction p with
 | nil=>exact absurd rfl h
 | cons a p ih=>
  by_cases e:a=40
  ·subst e;simp only[jh2,jb1,beq_self_eq_true,if_true] at*
   exact ih h
  ·simp[jb1,e]
theorem Kg{p:Wd}(h:opd p≠[]):core (p++[41])=core p:=by
 unfold core;rw[Wj h,List.reverse_append];simp[jb1]
theorem J6{p:Wd}(h:core p≠[]):opd p≠[]:=fun e=>h (by unfold core;rw[e];rfl)
theorem U6(p:Wd):HJ (40::p)=kL::HJ p:=by
 have:=Ny p;unfold HJ;rw[MK,Gs,qq,Nat.succ_sub this,Zl];rfl
theorem U5{p:Wd}(h:core p≠[]):HJ (p++[41])=HJ p++[kR]:=by
 have h2:=J6 h;have:=Qt p;unfold HJ;rw[Kg h2,Wj h2,qf,qf,show p.length+[41].length-((opd p).length+[41].length)=p.length-(opd p).length by simp,show(opd p).length+[41].length-(core p).length=(opd p).length-(core p).length+1 by simp;lia,List.replicate_succ'];simp
theorem OJ{p:Wd}(h1:p.head?≠some 40)(h2:p.getLast?≠some 41):core p=p:=by
 have e1:opd p=p:=by
  cases p with
  | nil=>rfl
  | cons a r=>
   have:a≠40:=fun e=>h1 (by rw[e];rfl);simp[opd,jb1,this]
 unfold core;rw[e1];cases e:p.reverse with
 | nil=>rw[List.dropWhile_nil];rw[List.reverse_eq_nil_iff.mp e];rfl
 | cons a r=>
  have:a≠41:=fun z=>h2 (by rw[List.getLast?_eq_head?_reverse,e,z];rfl);have e2:(a::r).dropWhile (· ==41)=a::r:=by simp[jb1,this]
  rw[e2,<-e,List.reverse_reverse]
theorem gQ{p:Wd}(h1:p.head?≠some 40)(h2:p.getLast?≠some 41):HJ p=[p]:=by
 have e1:opd p=p:=by
  cases p with
  | nil=>rfl
  | cons a r=>
   have:a≠40:=fun e=>h1 (by rw[e];rfl);simp[opd,jb1,this]
 unfold HJ;rw[OJ h1 h2,e1];simp
theorem dO{ps:List Wd}(h:ps≠[]):∃l p,ps=l++[p]:=⟨ps.dropLast,ps.getLast h,(List.dropLast_concat_getLast h).symm⟩
theorem eQ{l:List Wd}{p:Wd}:bB (l++[p])=l++[p++[41]]:=oh l (by simp)
noncomputable def tks(ps:List Wd):List Wd:=ps.flatMap HJ
theorem jd{w:Wd}{ps:List Wd}(h:HJ w=[w]):tks (w::ps)=w::tks ps:=by
 unfold tks;rw[Zs,h];rfl
theorem pQ(ps qs:List Wd):tks (ps++qs)=tks ps++tks qs:=jg6
theorem jc{ps:List Wd}(ne:ps≠[])(co:∀p∈ps,core p≠[]):tks (bB (bA ps))=kL::(tks ps++[kR]):=by
 match ps,ne with
 | [f],_=>
  show HJ ((40::f)++[41])++[]=kL::((HJ f++[])++[kR]);rw[U5 (by rw[Gs];exact co f qk),U6];simp
 | f::y::r,_=>
  obtain⟨l,p,e⟩:=dO (ps:=y::r) (by simp);have E:bB (bA (f::y::r))=(40::f)::(l++[p++[41]]):=by
   show(40::f)::bB (y::r)=_;rw[e,eQ]
  rw[E,e];unfold tks;rw[Zs,jg6,Zs,List.flatMap_nil,Zs,jg6,Zs,List.flatMap_nil,U6,U5 (co p (by rw[e];simp))];simp
theorem Z3{ps:List Wd}(ne:ps≠[])(bl:∀p∈ps,32∉p):L2.spl 32 (jn ps)=ps:=by
 cases ps with
 | nil=>exact absurd rfl ne
 | cons w ws=>exact jr bl
theorem Xe{ws:List Wd}{q:Wd}(h:q∈bB (bA ws))(ne:ws≠[]):∃w∈ws,q=w\/q=40::w\/q=w++[41]\/q=40::w++[41]:=by
 have A:∀q∈bA ws,∃w∈ws,q=w\/q=40::w:=fun q hq=>by
  cases ws with
  | nil=>exact absurd rfl ne
  | cons f r=>
   rcases qm.mp hq with z | z
   ·exact⟨f,qk,.inr z⟩
   ·exact⟨q,qr _ z,.inl rfl⟩
 obtain⟨l,p,e⟩:=dO (Mx ne);rw[e] at A;rw[e,eQ] at h;rcases vx.mp h with z | z
 ·obtain⟨w,hw,h⟩:=A q (jg0 _ z);exact⟨w,hw,h.elim .inl fun h=>.inr (.inl h)⟩
 ·obtain⟨w,hw,h⟩:=A p (xy _ qk);rw[vj.mp z];rcases h with h | h
  ·exact⟨w,hw,.inr (.inr (.inl (by rw[h])))⟩
  ·exact⟨w,hw,.inr (.inr (.inr (by rw[h])))⟩
theorem W2(h:c≠32):∀{ws:List Wd},c∈jn ws->∃w∈ws,c∈w
 | [],m=>(nomatch m)
 | [w],m=>⟨w,qk,m⟩
 | w::x::r,m=>by
  rw[JM (by simp)] at m;rcases vx.mp m with m | m
  ·exact⟨w,qk,m⟩
  ·rcases qm.mp m with m | m
   ·exact absurd m h
   ·obtain⟨y,hy,z⟩:=W2 h m;exact⟨y,qr _ hy,z⟩
end Fw
namespace Fw
open PySem L2 PyProof.Rows
noncomputable def top(i:Nat):Stmt:=PySem.Challenge.pw_feastwheel_k97_whole_by_remainders.main.body.getD i (.Pass ⟨0,0,0,0⟩)
noncomputable abbrev gJ:Stmt:=top 19
noncomputable abbrev UW:Stmt:=top 20
noncomputable abbrev YJ:Stmt:=top 21
noncomputable abbrev UJ:Stmt:=top 22
noncomputable abbrev X8:Stmt:=top 24
noncomputable abbrev K4:Stmt:=top 33
noncomputable abbrev gK:Stmt:=top 34
noncomputable abbrev aH:Stmt:=top 35
noncomputable abbrev lE:Stmt:=top 36
noncomputable abbrev Lk:Stmt:=top 42
noncomputable abbrev Z7:Stmt:=top 43
noncomputable abbrev gM:Stmt:=top 44
noncomputable abbrev xH:Stmt:=top 45
noncomputable abbrev YK:Stmt:=top 47
noncomputable abbrev gO:Stmt:=top 48
noncomputable abbrev X4:Stmt:=top 49
noncomputable abbrev YB:Stmt:=top 50
noncomputable abbrev Ub:Stmt:=top 51
noncomputable abbrev ql:Stmt:=top 52
noncomputable abbrev Ua:Stmt:=top 53
noncomputable abbrev xM:Stmt:=top 54
noncomputable abbrev lC:Stmt:=top 55
noncomputable abbrev lA:Stmt:=top 56
noncomputable abbrev f9:Stmt:=top 57
noncomputable abbrev WF:Stmt:=top 58
noncomputable abbrev qp:Stmt:=top 59
noncomputable abbrev lB:Stmt:=top 60
noncomputable abbrev aA:Stmt:=top 62
noncomputable abbrev gC:Stmt:=top 64
noncomputable abbrev WN:Stmt:=top 65
noncomputable abbrev aF:Stmt:=top 66
noncomputable abbrev gA:Stmt:=top 73
noncomputable abbrev V8:Stmt:=top 74
noncomputable abbrev gH:Stmt:=top 75
noncomputable abbrev RG:Stmt:=top 76
noncomputable abbrev NT:Stmt:=top 77
noncomputable abbrev YC:Stmt:=top 78
noncomputable abbrev GC:Stmt:=inClass (top 79) 0
noncomputable abbrev WT:Stmt:=inClass (top 79) 1
noncomputable abbrev RM:Stmt:=inClass (top 79) 2
noncomputable abbrev Ni:Stmt:=inClass (top 79) 3
noncomputable abbrev Py:Stmt:=top 86
noncomputable abbrev Gd:Stmt:=inClass (top 87) 0
noncomputable abbrev Ng:Stmt:=inClass (top 87) 1
noncomputable abbrev Uc:Stmt:=inClass (top 87) 3
noncomputable abbrev YQ:Stmt:=inClass (top 87) 4
noncomputable abbrev Q9:Stmt:=top 91
noncomputable abbrev X5:Stmt:=top 92
noncomputable abbrev V9:Stmt:=top 93
noncomputable abbrev Z8:Stmt:=top 94
noncomputable abbrev X7:Stmt:=top 95
noncomputable abbrev Pz:Stmt:=top 96
noncomputable abbrev Ls:Stmt:=inClass (top 98) 0
noncomputable abbrev RJ:Stmt:=top 102
noncomputable abbrev s_same:Stmt:=top 103
noncomputable abbrev NZ:Stmt:=top 104
noncomputable abbrev YL:Stmt:=top 105
noncomputable abbrev Z9:Stmt:=top 106
noncomputable abbrev gD:Stmt:=top 107
noncomputable abbrev kj:Stmt:=top 108
noncomputable abbrev Px:Stmt:=top 110
noncomputable abbrev QB:Stmt:=top 111
noncomputable abbrev RK:Stmt:=top 112
noncomputable abbrev WQ:Stmt:=top 113
noncomputable abbrev aG:Stmt:=top 115
noncomputable abbrev xF:Stmt:=top 116
noncomputable abbrev qj:Stmt:=top 117
noncomputable abbrev xG:Stmt:=top 118
noncomputable abbrev RD:Stmt:=top 119
noncomputable abbrev xJ:Stmt:=top 120
noncomputable abbrev AAk:Stmt:=top 121
noncomputable abbrev qt:Stmt:=top 122
noncomputable abbrev G7:Stmt:=inClass (top 124) 0
noncomputable abbrev Nh:Stmt:=inClass (top 124) 1
noncomputable abbrev Jm:Stmt:=inClass (top 124) 3
noncomputable abbrev RQ:Stmt:=inClass (top 125) 0
noncomputable abbrev Ug:Stmt:=inClass (top 126) 0
noncomputable abbrev YM:Stmt:=top 127
noncomputable abbrev QG:Stmt:=inClass (top 128) 0
noncomputable abbrev Tv:Stmt:=top 129
noncomputable abbrev WP:Stmt:=top 130
noncomputable abbrev Gp:Stmt:=inClass (top 131) 0
noncomputable abbrev RL:Stmt:=inClass (top 132) 0
noncomputable abbrev QJ:Stmt:=inClass (top 133) 0
noncomputable abbrev Lr:Stmt:=inClass (top 134) 0
noncomputable abbrev RP:Stmt:=inClass (top 135) 0
noncomputable abbrev Lp:Stmt:=inClass (top 136) 0
noncomputable abbrev Nj:Stmt:=inClass (top 137) 0
noncomputable abbrev QC:Stmt:=inClass (top 138) 0
noncomputable abbrev Nf:Stmt:=inClass (top 139) 0
noncomputable abbrev QF:Stmt:=inClass (top 140) 0
noncomputable abbrev QD:Stmt:=inClass (top 141) 0
noncomputable abbrev RN:Stmt:=inClass (top 142) 0
noncomputable abbrev Nk:Stmt:=inClass (top 143) 0
noncomputable abbrev Lq:Stmt:=inClass (top 147) 0
noncomputable abbrev Ue:Stmt:=inClass (top 147) 1
noncomputable abbrev Ud:Stmt:=inClass (top 147) 2
noncomputable abbrev Z6:Stmt:=top 148
noncomputable abbrev Xy:Stmt:=top 149
noncomputable abbrev UG:Stmt:=top 150
noncomputable abbrev Tz:Stmt:=top 151
noncomputable abbrev Xz:Stmt:=top 152
noncomputable abbrev X3:Stmt:=top 153
noncomputable abbrev G6:Stmt:=top 154
noncomputable abbrev Iw:Stmt:=top 155
noncomputable abbrev Jl:Stmt:=top 156
noncomputable abbrev Ia:Stmt:=top 157
noncomputable abbrev Jk:Stmt:=top 158
noncomputable abbrev YF:Stmt:=top 159
noncomputable abbrev YD:Stmt:=top 160
noncomputable abbrev aB:Stmt:=top 161
noncomputable abbrev X6:Stmt:=top 162
noncomputable abbrev gB:Stmt:=top 172
noncomputable abbrev Xv:Stmt:=top 178
noncomputable abbrev Xw:Stmt:=top 179
noncomputable abbrev WD:Stmt:=top 180
noncomputable abbrev Xx:Stmt:=top 181
noncomputable abbrev Tw:Stmt:=top 182
noncomputable abbrev Q8:Stmt:=top 187
noncomputable abbrev gF:Stmt:=top 188
noncomputable abbrev YG:Stmt:=top 189
noncomputable abbrev UL:Stmt:=top 190
noncomputable abbrev xK:Stmt:=top 191
noncomputable abbrev QH:Stmt:=inClass (top 192) 0
noncomputable abbrev aJ:Stmt:=inClass (top 192) 1
noncomputable abbrev UV:Stmt:=top 194
noncomputable abbrev UT:Stmt:=top 195
noncomputable abbrev aD:Stmt:=top 196
noncomputable abbrev YH:Stmt:=top 197
noncomputable abbrev aC:Stmt:=top 198
noncomputable abbrev WL:Stmt:=top 199
noncomputable abbrev WK:Stmt:=top 200
noncomputable abbrev cV:Stmt:=top 201
noncomputable def kY(K:Fr):Sp:=fun vs H Q _=>Ex3 fun(a:Addr) (ns:List Int) (k:Int)=>An5 (vs=[.ref a,.int k]) (SqL K H a (ns.map V.int)) (0<=k) (ns.length<=63) (Q (.int (ns.getD k.toNat 0)) H)
variable{K:Fr}{a:Addr}{H:Hp}{Q:VK}
theorem KZ{ns:List Int}{k:Int}{E:XK}(hS:SqL K H a (ns.map V.int))(hl:ns.length<=63)(hk:0<=k)(h:Q (.int (ns.getD k.toNat 0)) H):kY K ([.ref a,.int k]++[]) H Q E:=⟨a,ns,k,rfl,hS,hk,hl,h⟩
theorem eV{ns:List Int}{k:Int}(h0:0<=k)(h:k<(ns.length:Int)):atI (ns.map V.int) k=some (.int (ns.getD k.toNat 0)):=by
 have hk:k.toNat<ns.length:=by lia
 have ek:k=((k.toNat:Nat):Int):=by lia
 have q:atI (ns.map V.int) ((k.toNat:Nat):Int)=some (.int ns[k.toNat]):=DX (by rw[xc,qv hk]<;>rfl);rw[<-ek] at q;rw[q];simp[List.getD,hk]
theorem p40:(10:Int)^(40:Int).toNat=10000000000000000000000000000000000000000:=by decide
theorem p39:(10:Int)^(39:Int).toNat=1000000000000000000000000000000000000000:=by decide
theorem Zc{x:Int}(h1: -1000000000000000000000000000000000000000000000000000000000000<=x)(h2:x<=1000000000000000000000000000000000000000000000000000000000000):Bt 200 x:=by
 unfold Bt;have:(2:Nat)^200=1606938044258990275541962092341162602522202993782792835301376:=by decide
 lia
theorem HH{a b:V}:([a,b]:List V).length<=sizeLine:=by show 2<=sizeLine;decide
variable{y:V}
theorem at0{x:V}:atI [x,y] 0=some x:=rfl
theorem at1{x:V}:atI [x,y] 1=some y:=rfl
local macro_rules | `(tactic| nofun)=> `(tactic| (repeat (first | walk_at"rd1" | ((with_reducible refine' Fw.KZ ?hc1 ?hc2 ?hc3 ?_);(case hc1=>assumption);(case hc2=>assumption);(case hc3=>decide)) | with_reducible refine Fw.rd_whole ?_)))
noncomputable def jx:Sp:=fun vs H Q _=>∃n:Int,An3 (vs=[.int n]) (1<=n) (Q .non H)
noncomputable def ACN:Sp:=fun vs H Q _=>Ex2 fun(a b:Int)=>An4 (vs=[.int a,.int b]) (Bt 500 a) (Bt 500 b) (∀(p:Addr) (u v g:Int) (H':Hp),Ax H H'->H' p=some (.tup [.int u,.int v,.int g])->Eqn a b u v g->Q (.ref p) H')
noncomputable def fW:Sp:=fun vs H Q _=>Ex2 fun(a b:Int)=>An4 (vs=[.int a,.int b]) (Bt 500 a) (Bt 500 b) (∀H',Ax H H'->Q (.int (Int.gcd a b:Int)) H')
noncomputable def kW:Sp:=fun vs H Q _=>Ex2 fun(a b:Int)=>An6 (vs=[.int a,.int b]) (0<a) (0<b) (Bt 500 a) (Bt 500 b) (∀H',Ax H H'->Q (.int (Bx a b)) H')
theorem zP{x z:V}:atI [x,y,z] 0=some x:=rfl
theorem zO{x z:V}:atI [x,y,z] 1=some y:=rfl
theorem Zf{x z:V}:atI [x,y,z] 2=some z:=rfl
theorem three{a b c:V}:([a,b,c]:List V).length<=sizeLine:=by show 3<=sizeLine;decide
theorem two{a b:V}:([a,b]:List V).length<=sizeLine:=by show 2<=sizeLine;decide
variable{m:Nat}
theorem eO{k:Nat}{x y:Int}(h:Bt k y)(l:x.natAbs<=4*y.natAbs+4)(hk:k+4<=m):Bt m x:=by
 unfold Bt at*
 have p:2^(k+4)<=2^m:=vk (by decide) hk;have e:2^(k+4)=2^k*16:=by rw[Nat.pow_add]
 lia
theorem zG{k:Nat}{x y z:Int}(h:Bt k y)(h':Bt k z)(l:x.natAbs<=y.natAbs+z.natAbs+4)(hk:k+4<=m):Bt m x:=by
 unfold Bt at*
 have p:2^(k+4)<=2^m:=vk (by decide) hk;have e:2^(k+4)=2^k*16:=by rw[Nat.pow_add]
 lia
theorem Bh{k:Nat}{x:Int}(h0:0<=x)(h1:x<18446744073709551616)(hk:64<=k):Bt k x:=Bt.mono (k:=64) (by unfold Bt;lia) hk
noncomputable def wZ:Sp:=fun vs H Q _=>∃n:Int,An4 (vs=[.int n]) (0<=n) (n<=1000000) (Q (.int ((2^n.toNat-1:Nat):Int)) H)
noncomputable def AAV(K:Fr):Sp:=fun vs H Q _=>Ex4 fun(a:Addr) (n d:Int) (b:Nat)=>An4 (vs=[.ref a,.int d]) (SqT K H a [.int n,.int (b:Int)]) (0<n) (Q (.bl (On n b d)) H)
variable{b:Nat}
theorem JW{n:Nat}(h:b<2^n):Bt n (b:Int):=by unfold Bt;rw[jf2];exact h
theorem yM(b k:Nat):decide (V.int (((b:Nat):Int)/2^k%2)=V.int 1)=b.testBit k:=by
 rw[<-ABN,vv];simp
theorem bt1:Bt 1 1:=by unfold Bt;decide
variable{c:Nat}
theorem eq2{n:Int}(h:b=c):Yu [V.int n,V.int (b:Int)] [V.int n,V.int (c:Int)]=true:=by
 subst h;show((n==n)&&(((b:Int)==(b:Int))&&true))=true;simp
variable{d:Int}
theorem oY{k:Nat}{n:Int}(h:Bt k d)(hn:0<n):Bt k (d/n):=by
 refine h.le ?_;rcases Int.lt_or_le d 0 with c | c
 ·have h1:d/n<0:=Int.ediv_neg_of_neg_of_pos c hn;have h2:d<=d/n:=(Int.le_ediv_iff_mul_le hn).mpr (by
   have:=Int.mul_le_mul_of_nonpos_left (show d<=0 by lia) (show 1<=n by lia);lia)
  lia
 ·have h1:0<=d/n:=Int.ediv_nonneg c (by lia);have h2:d/n<=d:=ji7 n c;lia
noncomputable def fL:Sp:=fun vs H Q _=>∃n:Int,An3 (vs=[.int n]) (n<=150000) (Q .non H)
noncomputable def fX(K:Fr):Sp:=fun vs H Q _=>Ex4 fun(a:Addr) (n z:Int) (b:Nat)=>An8 (vs=[.ref a,.int z]) (SqT K H a [.int n,.int (b:Int)]) (0<n) (n<=300000) (b<2^n.toNat) (0<z) (z<=150000) (∀c:Nat,Ez n.toNat b z.toNat c->Q (.int (c:Int)) H)
theorem uT(b k:Nat):decide (V.int (Builtin.bitAnd ((b:Int)/2^k) 1)=V.int 1)=b.testBit k:=by
 rw[Gb,show(1:Int)=((1:Nat):Int) from rfl,Ca,Nat.and_one_is_mod,<-yM]
 congr 1
 rw[Gb];have e:(((b >>> k:Nat):Int)%2)=((b >>> k%2:Nat):Int):=by lia
 rw[e];rfl
noncomputable def Ra(b k:Nat):List V:=(List.range k).map fun j=>V.int ((pc b j:Nat):Int)
theorem Lz(b k:Nat):(Ra b k).length=k:=by unfold Ra;simp
theorem MF{k j:Nat}(h:j<k):(Ra b k)[j]?=some (V.int ((pc b j:Nat):Int)):=by
 unfold Ra;rw[xc,List.getElem?_range h];rfl
theorem gY(k:Nat):(List.replicate k [V.int 0]).flatten=Ra 0 k:=by
 unfold Ra;have:(fun j=>V.int ((pc 0 j:Nat):Int))=fun _=>V.int 0:=by
  funext j
  unfold pc;simp
 rw[this,List.map_const',uu]
 induction k with
 | zero=>rfl
 | succ k ih=>rw[Zl,jg2,ih,Zl];rfl
theorem mH{k p:Nat}(h:p/256<k):(Ra b k).set (p/256) (V.int ((pc b (p/256) ||| 2^(p%256):Nat):Int))=Ra (b ||| 2^p) k:=by
 refine List.ext_getElem? fun j=>?_;rw[List.getElem?_set];by_cases hj:j<k
 ·rw[MF hj];by_cases c:p/256=j
  ·rw[xz c,xz (by rw[Lz];lia)];subst c;rw[MF hj,mK]
  ·rw[yv c,MF hj,mJ (Ne.symm c)]
 ·have e:∀b,(Ra b k)[j]?=none:=fun b=>jd1 (by rw[Lz];lia);rw[yv (by lia),e,e]
noncomputable def fM(K:Fr):Sp:=fun vs H Q _=>Ex3 fun(a:Addr) (ds:List Int) (n:Int)=>An5 (vs=[.int n,.ref a]) (SqL K H a (ds.map V.int)) (0<n) (n<=150000) (∀(p:Addr) (b:Nat) (H':Hp),Ax H H'->H' p=some (.tup [.int n,.int (b:Int)])->RB n ds b->Q (.ref p) H')
theorem rJ{n:Int}(hn:0<n)(hb:b<2^n.toNat):b%2^(256*((n/256+1).toNat))=b:=
 jc3 (xh hb (vk (by decide) (by lia)))
structure Bo(f:Bool->Bool->Bool)(n1:Int)(b1:Nat)(n2:Int)(b2:Nat)(z:Int)(c:Nat):Prop where
 lt:c<2^z.toNat
 bit:∀i,i<z.toNat->c.testBit i=f (b1.testBit (i%n1.toNat)) (b2.testBit (i%n2.toNat))
noncomputable def qI(K:Fr):Sp:=fun vs H Q _=>Ex3 fun(a:Addr) (n:Int) (b:Nat)=>An6 (vs=[.ref a]) (SqT K H a [.int n,.int (b:Int)]) (0<n) (n<=150000) (b<2^n.toNat) (∀(p:Addr) (c:Nat),H p=none->c<2^n.toNat->(∀i,i<n.toNat->c.testBit i=!b.testBit i)->Q (.ref p) (upd H p (.tup [.int n,.int (c:Int)])))
noncomputable def dl(b m:Nat):List Nat:=(List.range m).filter fun i=>b.testBit i
noncomputable def dli(b m:Nat):List Int:=(dl b m).map fun(i:Nat)=>(i:Int)
theorem oA(b m k:Nat):dl b (m+k)=dl b m++((List.range k).filter fun i=>b.testBit (m+i)).map fun i=>m+i:=by
 unfold dl;rw[List.range_add,jh9,List.filter_map];rfl
theorem uA{n:Nat}(hb:b<2^n)(k:Nat):dl b (n+k)=dl b n:=by
 rw[oA];have:((List.range k).filter fun i=>b.testBit (n+i))=[]:=by
  rw[List.filter_eq_nil_iff];intro i _;rw[high hb (by lia)];exact ze
 rw[this,List.map_nil,ya]
theorem yu(b m:Nat):(dl b m).length<=m:=by
 unfold dl;exact zv (jf3 _ _) (by simp)
theorem XC(b m:Nat):(dli b m).length<=m:=by
 unfold dli;rw[jp];exact yu b m
noncomputable def kO(K:Fr):Sp:=fun vs H Q _=>Ex3 fun(a:Addr) (n:Int) (b:Nat)=>An6 (vs=[.ref a]) (SqT K H a [.int n,.int (b:Int)]) (0<n) (n<=150000) (b<2^n.toNat) (∀(l:Addr) (H':Hp),H l=none->Ax H H'->H' l=some (.lst ((dli b n.toNat).map V.int))->Q (.ref l) H')
theorem gU(b m i:Nat):(Builtin.bitAnd (((b/2^m%2^256:Nat):Int)/2^i) 1 != 0)=(decide (i<256)&&b.testBit (m+i)):=by
 have h:(b/2^m%2^256).testBit i=(decide (i<256)&&b.testBit (m+i)):=by
  rw[jc0,<-ua,kr]
 rw[Gb,show(1:Int)=((1:Nat):Int) from rfl,Ca,Nat.and_one_is_mod,<-h,Nat.testBit_eq_decide_div_mod_eq,ua,vv];simp only[bne_iff_ne,decide_eq_true_eq];lia
theorem Yv(b m:Nat):((dli b m).map V.int)++(((((List.range 256).map fun i=>V.int (0+(i:Nat)))).filter fun v=>match v with | .int d=>b.testBit (m+d.toNat) | _=>false).map fun v=>match v with | .int d=>V.int ((m:Int)+d) | _=>.non)=(dli b (m+256)).map V.int:=by
 unfold dli;rw[oA,yi,yi]
 congr 1
 rw[List.filter_map,vi,vi,vi];have e:((fun v:V=>match v with | .int d=>b.testBit (m+d.toNat) | _=>false) ∘ fun i:Nat=>V.int (0+(i:Nat)))=fun i=>b.testBit (m+i):=by
  funext i
  show b.testBit (m+(0+(i:Int)).toNat)=_;rw[show (0+(i:Int)).toNat=i by lia]
 rw[e];refine List.map_congr_left fun i _=>?_;show V.int ((m:Int)+(0+(i:Int)))=V.int (((m+i:Nat):Int));rw[show (m:Int)+(0+(i:Int))=((m+i:Nat):Int) by lia]
theorem ir(xs:List Int):J5 (xs.map V.int) (some 1) none=(xs.drop 1).map V.int:=iu xs 1
theorem ig(xs:List V):J5 xs none (some 1)=xs.take 1:=oJ xs 1
theorem oK{b:Addr}{xs ys:List Int}{Z:L2.St}{te:TE}(ha:SqL K H a (xs.map V.int))(hb:SqL K H b (ys.map V.int))(hl:xs.length<sizeLine)(f:Int->Int->Int)
 (he:∀(x y:Int) (H':Hp) (Q':VK),Q' (.int (f x y)) H'->te (some (.int x)::some (.int y)::Z) H' Q')
 (h:∀(D:Addr) (H':Hp),H D=none->Ax H H'->H' D=some (.lst ((List.zipWith f xs ys).map V.int))->Q (.ref D) H'):
 Th 2 (tW K 2 (Yp (Il 0) (Yp (Il 1) ym))) cJ te Z Q (Itz K a b) H:=by
 intro D hD;have zl:(List.zipWith f xs ys).length=min xs.length ys.length:=List.length_zipWith;refine⟨fun i m zs H2=>i<=min xs.length ys.length/\m=min xs.length ys.length-i/\zs=((List.zipWith f xs ys).take i).map V.int/\H2 D=some (.lst zs)/\Ax H H2,⟨_,ka _,rfl,rfl,Ah,Am hD _⟩,?_⟩;rintro i m zs H2 ⟨hi,rfl,rfl,hz,s2⟩;refine⟨hz,?_⟩;by_cases c:i<min xs.length ys.length
 ·have c1:i<xs.length:=by lia
  have c2:i<ys.length:=by lia
  have ex:(xs.map V.int)[i]?=some (.int xs[i]):=by rw[xc,qv c1];rfl
  have ey:(ys.map V.int)[i]?=some (.int ys[i]):=by rw[xc,qv c2];rfl
  refine .inr ⟨⟨_,_,_,_,s2.seq ha,s2.seq hb,ex,ey⟩,?_,min xs.length ys.length-(i+1),by lia,?_⟩
  ·rw[jp,jd7];lia
  rintro v H3 ⟨T,x,y,hT,rfl,rfl,hxy⟩ ρ hρ;obtain⟨gx,gy⟩:=hxy _ _ (s2.seq ha) (s2.seq hb);rw[ex] at gx;rw[ey] at gy;cases gx;cases gy;obtain⟨p,q,rfl⟩:∃p q,ρ=[p,q]:=by
   match ρ,hρ with
   | [p,q],_=>exact⟨p,q,rfl⟩
  refine⟨T,[.int xs[i],.int ys[i]],rfl,SqT.of Ah,rfl,.int xs[i],[.int ys[i]],rfl,.int ys[i],[],rfl,⟨rfl,[some (.int xs[i]),some (.int ys[i])],rfl,rfl,?_⟩⟩;refine Iz ?_;rw[xz rfl];have nT:D≠T:=Bj hz hT;refine he _ _ _ _ ⟨by rw[Aw nT];exact hz,by lia,rfl,?_,Ah,?_⟩
  ·rw[List.take_succ,yi]
   congr 1
   have:(List.zipWith f xs ys)[i]?=some (f xs[i] ys[i]):=by
    rw[List.getElem?_zipWith',qv c1,qv c2];rfl
   rw[this];rfl
  ·exact Cz hD (s2.trans (Am hT _))
 ·have e:i=min xs.length ys.length:=by lia
  refine .inl ⟨⟨_,_,s2.seq ha,s2.seq hb,by rw[jp,jp];exact e⟩,h D H2 hD s2 ?_⟩;rw[hz,yy (by lia)]
noncomputable def wR(K:Fr):Sp:=fun vs H Q _=>Ex5 fun(a:Addr) (n f e:Int) (b:Nat)=>An8 (vs=[.ref a,.int f,.int e]) (SqT K H a [.int n,.int (b:Int)]) (0<n) (n<=150000) (b<2^n.toNat) (Bt 250 f) (Bt 250 e) (∀H',Ax H H'->Q (.int (CC n b e-CC n b f)) H')
noncomputable def wN:Sp:=fun vs H Q _=>Ex2 fun(b n:Nat)=>An4 (vs=[.int (b:Int)]) (b<2^n) (n<=150000) (∀H',Ax H H'->Q (.int ((cnt b n:Nat):Int)) H')
noncomputable def qY(K:Fr):Sp:=fun vs H Q _=>Ex4 fun(a:Addr) (n d:Int) (b:Nat)=>An7 (vs=[.ref a,.int d]) (SqT K H a [.int n,.int (b:Int)]) (0<n) (n<=150000) (b<2^n.toNat) (Bt 260 d) (∀H',Ax H H'->Q (.int (CC n b d)) H')
theorem dq{w z f:Nat}(w0:0<w)(hf:f<2^z)(S:Ez (2*w) (2^w-1) z c)(k:Nat):Ev w (f/2^k) ((f/2^k) &&& c):=fun i=>by
 rw[Qr];have fl:f/2^k<2^z:=ub (Nat.div_le_self _ _) hf;by_cases h:i<z
 ·rw[S.bit i h,Nat.testBit_two_pow_sub_one]
 ·rw[high fl (by lia)];rfl
structure RC(K:Fr)(CR C:Addr):Prop where
 cl:Cls K C
 k:Dm K C "kept"
 m:Dm K C "made_of"
 w:Dm K C "words"
 ca:PySem.W.findIn K (.ref C) "__class__"=some (some (.builtin "object.__class__"))
 ob:PySem.W.mroIn K C (.type "object")=some true
 isr:PySem.W.kitOne K (.ref C) (.ref CR)=some true
noncomputable def rF(p pm pw:Addr):List (Str×V):=[("kept",.ref p),("made_of",.ref pm),("words",.ref pw)]
structure DP(K:Fr)(CR:Addr)(CL:List Addr)(H:Hp)(x:Addr)(n:Int)(b:Nat):Prop where
 ex:∃C dx p pm pw,C∈CL/\RC K CR C/\H x=some (.ins C dx (rF p pm pw))/\H p=some (.tup [.int n,.int (b:Int)])
 n0:0<n
 n1:n<=150000
 lt:b<2^n.toNat
variable{x:Addr}{H':Hp}
theorem DP.same{CR:Addr}{CL:List Addr}{n:Int}(R:DP K CR CL H x n b)(s:Ax H H'):DP K CR CL H' x n b:=by
 obtain⟨C,dx,p,pm,pw,h1,h2,h3,h4⟩:=R.ex;exact⟨⟨C,dx,p,pm,pw,h1,h2,s _ _ h3,s _ _ h4⟩,R.n0,R.n1,R.lt⟩
noncomputable def KB(x:Addr)(H H':Hp):Prop:=∀y o,y≠x->H y=some o->H' y=some o
variable{H1:Hp}
theorem KB.pre(s:Ax H H1)(k:KB x H1 H'):KB x H H':=fun y o h e=>k y o h (s _ _ e)
variable{o:HO}
theorem VD{dx:Addr}{o':HO}(hx:H1 x=none)(hd:H1 dx=none)(ne:dx≠x)(k:KB x (upd (upd H1 dx o) x o') H'):Ax H1 H':=fun y u e=>by
 have y1:y≠x:=Bj e hx;have y2:y≠dx:=Bj e hd;exact k y u y1 (by rw[Aw y1,Aw y2];exact e)
noncomputable def cR(K:Fr)(CR:Addr):Sp:=fun vs H Q _=>Ex6 fun(x p pm pw C dx:Addr)=>An4 (vs=[.ref x,.ref p,.ref pm,.ref pw]) (H x=some (.ins C dx [])) (RC K CR C) (∀H',KB x H H'->H' x=some (.ins C dx (rF p pm pw))->Q .non H')
noncomputable def Kz(K:Fr)(CR:Addr)(CL:List Addr)(C:Addr)(H:Hp)(x:Addr)(Q:VK)(n:Int)(G:Nat->Prop):Prop:=(∃dx,H x=some (.ins C dx []))/\∀(b:Nat) H',KB x H H'->DP K CR CL H' x n b->G b->Q .non H'
noncomputable def AAe(K:Fr)(CR:Addr)(CL:List Addr)(C:Addr)(b0:Nat):Sp:=fun vs H Q _=>∃x,vs=[.ref x]/\Kz K CR CL C H x Q 1 (fun b=>b=b0)
noncomputable def Qj(K:Fr)(CR:Addr)(CL:List Addr):Sp:=fun vs H Q _=>Ex3 fun(x:Addr) (n:Int) (b:Nat)=>An3 (vs=[.ref x]) (DP K CR CL H x n b) (∀p,H p=some (.tup [.int n,.int (b:Int)])->Q (.ref p) H)
noncomputable def cT(K:Fr)(CR:Addr)(CL:List Addr):Sp:=fun vs H Q _=>Ex4 fun(x:Addr) (n d:Int) (b:Nat)=>An3 (vs=[.ref x,.int d]) (DP K CR CL H x n b) (Q (.bl (On n b d)) H)
variable{p:Addr}
theorem Fg{CR:Addr}{CL:List Addr}{C dx pm pw:Addr}{H2:Hp}{n:Int}(hC:C∈CL)(R:RC K CR C)(hx:H2 x=some (.ins C dx []))(hp:H2 p=some (.tup [.int n,.int (b:Int)]))(k:KB x H2 H')(e:H' x=some (.ins C dx (rF p pm pw)))(n0:0<n)(n1:n<=150000)(lt:b<2^n.toNat):DP K CR CL H' x n b:=
 ⟨⟨C,dx,p,pm,pw,hC,R,e,k _ _ (Ij hp hx (fun z=>nomatch z)) hp⟩,n0,n1,lt⟩
structure vd(K:Fr)(H:Hp)(a1 a2:Addr)(n1 n2:Int)(b1 b2:Nat):Prop where
 s1:SqT K H a1 [.int n1,.int (b1:Int)]
 s2:SqT K H a2 [.int n2,.int (b2:Int)]
 p1:0<n1
 p2:0<n2
 l1:n1<=150000
 l2:n2<=150000
 k1:b1<2^n1.toNat
 k2:b2<2^n2.toNat
noncomputable def ACO(K:Fr):Sp:=fun vs H Q _=>Ex6 fun(a1 a2:Addr) (n1 n2:Int) (b1 b2:Nat)=>An9 (vs=[.ref a1,.ref a2]) (SqT K H a1 [.int n1,.int (b1:Int)]) (SqT K H a2 [.int n2,.int (b2:Int)]) (0<n1) (0<n2) (n1<=150000) (n2<=150000) (Bx n1 n2<=150000) (∀H',Ax H H'->Q (.int (Bx n1 n2)) H')
noncomputable def Ov(K:Fr):Sp:=fun vs H Q _=>Ex4 fun(a:Addr) (n z:Int) (b:Nat)=>An9 (vs=[.ref a,.int z]) (SqT K H a [.int n,.int (b:Int)]) (0<n) (n<=150000) (b<2^n.toNat) (0<z) (z<=150000) (n∣z) (∀(p:Addr) (c:Nat),H p=none->Ez n.toNat b z.toNat c->Q (.ref p) (upd H p (.tup [.int z,.int (c:Int)])))
noncomputable def qQ(K:Fr):Sp:=fun vs H Q _=>Ex4 fun(a:Addr) (n num:Int) (b:Nat)=>An6 (vs=[.ref a,.int num]) (SqT K H a [.int n,.int (b:Int)]) (0<n) (n<=150000) (b<2^n.toNat) (∀p,H p=none->Q (.ref p) (upd H p (.tup [.int n,.int ((lat n.toNat b (num%n).toNat:Nat):Int)])))
theorem dW{n z:Int}(n0:0<n)(z0:0<z)(h:n∣z):Bx n z=z:=by
 have f:=Br n0 z0;have h1:Bx n z∣z:=f.2.2.2.2.1 _ h (Int.dvd_refl _);exact Int.dvd_antisymm (by lia) (by lia) h1 f.2.2.1
theorem lcm_self{n:Int}(h:0<n):Bx n n=n:=dW h h (Int.dvd_refl n)
noncomputable abbrev Rel:=Int->Nat->Int->Nat->Int->Nat->Prop
noncomputable def OtR(n:Int)(b c:Nat):Prop:=c<2^n.toNat/\∀i,i<n.toNat->c.testBit i=!b.testBit i
noncomputable def ltr(n:Int)(b:Nat)(s:Int):Nat:=lat n.toNat b (s%n).toNat
inductive Zh(J:Bool->Bool->Bool)(n:Int):Nat->Nat->Int->Nat->Prop
 | stop {t f:Nat} {s:Int}:n<=(s.natAbs:Int)->Zh J n t f s t
 | step {t f x y z r:Nat} {s:Int}:(s.natAbs:Int)<n->Bo and n (ltr n t s) n f n x->Bo J n t n x n y->Bo and n f n (ltr n f s) n z->Zh J n y z (2*s) r->Zh J n t f s r
noncomputable def GR(J:Bool->Bool->Bool)(n:Int)(b c:Nat)(e:Int)(g:Nat):Prop:=∃o,OtR n c o/\Zh J n b o e g
noncomputable def UpR(e:Int):Rel:=fun n1 b1 n2 b2 z c=>∃r s g,Ez n1.toNat b1 z.toNat r/\Ez n2.toNat b2 z.toNat s/\GR or z s (ltr z r e) e g/\Bo and z r z g z c
noncomputable def TiR:Rel:=fun n1 b1 n2 b2 z c=>∃r s,Ez n1.toNat b1 z.toNat r/\Ez n2.toNat b2 z.toNat s/\GR or z r s 1 c
noncomputable def ABs(n:Int)(b c:Nat):Prop:=∃e,RB n (mids n (dli b n.toNat)) e/\TiR n b n e n c
noncomputable def bn(a b:Bool):Bool:=a&&!b
noncomputable def NeR:Rel:=fun n1 b1 n2 b2 z c=>0<n1/\∃a x u y v,ABs n1 b1 a/\Bo and n2 b2 n1 a z x/\UpR (-1) n1 b1 z x z u/\Bo bn n2 b2 n1 a z y/\UpR 1 n1 b1 z y z v/\Bo or z u z v z c
inductive KlR(z:Int)(s:Nat)(e:Int):Int->Nat->Nat->Prop
 | stop {p:Int} {t c:Nat}:¬(1<p/\0<t)->UpR e z t z s z c->KlR z s e p t c
 | step {p:Int} {t g o t' c:Nat}:1<p->0<t->GR xor z t s e g->Bo and z t z g z o->(p%2=1->t'=o)->(¬p%2=1->Bo bn z t z o z t')->KlR z s e ((p+1)/2) t' c->KlR z s e p t c
noncomputable def KtR(k:Int):Rel:=fun n1 b1 n2 b2 z c=>∃(r s x:Nat) (e:Int),Ez n2.toNat b2 z.toNat s/\(0<k->e=1/\x=s)/\(¬0<k->e= -1/\x=ltr z s (-1))/\Ez n1.toNat b1 z.toNat r/\KlR z x e (k.natAbs:Int) r c
noncomputable def evl(k d n:Int)(b:Nat):List Int:=(List.range (dli b n.toNat).length).map fun(i:Nat)=>J4 n (dli b n.toNat) (CC n b d%k+(i:Int)*k)
section
variable(K:Fr)
noncomputable def spJ(R:Rel):Sp:=fun vs H Q _=>Ex6 fun(a1 a2:Addr) (n1 n2:Int) (b1 b2:Nat)=>An4 (vs=[.ref a1,.ref a2]) (vd K H a1 a2 n1 n2 b1 b2) (Bx n1 n2<=150000) (∀(p:Addr) (c:Nat) (H':Hp),Ax H H'->H' p=some (.tup [.int (Bx n1 n2),.int (c:Int)])->c<2^(Bx n1 n2).toNat->R n1 b1 n2 b2 (Bx n1 n2) c->Q (.ref p) H')
noncomputable def ACL(mg:Str->Option Value)(L:List (Str×Sp)):Sp:=fun vs H Q _=>Ex9 fun(a1 a2 f:Addr) (n e:Int) (b c:Nat) (x:Str) (J:Bool->Bool->Bool)=>zY (vs=[.ref a1,.ref a2,.int e,.ref f]) ((x,spJ K (Bo J))∈L) (mg x=some (.ref f)) (H a1=some (.tup [.int n,.int (b:Int)])) (SqT K H a2 [.int n,.int (c:Int)]) (0<n) (n<=150000) (b<2^n.toNat) (c<2^n.toNat) (e=1\/e= -1) (∀(p:Addr) (g:Nat) (H':Hp),Ax H H'->H' p=some (.tup [.int n,.int (g:Int)])->g<2^n.toNat->GR J n b c e g->Q (.ref p) H')
noncomputable def AAX:Sp:=fun vs H Q _=>Ex3 fun(a:Addr) (n:Int) (b:Nat)=>An6 (vs=[.ref a]) (SqT K H a [.int n,.int (b:Int)]) (0<n) (n<=150000) (b<2^n.toNat) (∀(p:Addr) (c:Nat) (H':Hp),Ax H H'->H' p=some (.tup [.int n,.int (c:Int)])->c<2^n.toNat->ABs n b c->Q (.ref p) H')
noncomputable def ACJ:Sp:=fun vs H Q _=>Ex7 fun(k:Int) (a1 a2:Addr) (n1 n2:Int) (b1 b2:Nat)=>An5 (vs=[.int k,.ref a1,.ref a2]) (vd K H a1 a2 n1 n2 b1 b2) (k≠0) (Bx n1 n2<=150000) (∀(p:Addr) (c:Nat) (H':Hp),Ax H H'->H' p=some (.tup [.int (Bx n1 n2),.int (c:Int)])->c<2^(Bx n1 n2).toNat->KtR k n1 b1 n2 b2 (Bx n1 n2) c->Q (.ref p) H')
noncomputable def ACM:Sp:=fun vs H Q _=>Ex5 fun(k d:Int) (a:Addr) (n:Int) (b:Nat)=>uf (vs=[.int k,.ref a,.int d]) (SqT K H a [.int n,.int (b:Int)]) (0<n) (n<=150000) (b<2^n.toNat) (Bt 250 d) (Bt 400 k) (1<=k) (n*k<=150000) (∀(p:Addr) (c:Nat) (H':Hp),Ax H H'->H' p=some (.tup [.int (n*k),.int (c:Int)])->RB (n*k) (evl k d n b) c->Q (.ref p) H')
end
theorem dU{n k:Int}(hn:0<n)(hk:0<k):k<=n*k:=by
 have:=jd0 (show 1<=n by lia) (je1 hk);lia
theorem tE{n k:Int}(hn:0<n)(hk:0<k):n<=n*k:=by
 have:=jd5 (show 1<=k by lia) (je1 hn);lia
noncomputable def tmV(t:Tm):List V:=[.int t.1,.int t.2.1,.int t.2.2.1,.int t.2.2.2]
inductive Tms(H:Hp):List V->List Tm->Prop
 | nil:Tms H [] []
 | cons {p:Addr} {t:Tm} {vs:List V} {ts:List Tm}:H p=some (.tup (tmV t))->Tms H vs ts->Tms H (.ref p::vs) (t::ts)
theorem Tms.same(s:Ax H H'):∀{vs:List V} {ts:List Tm},Tms H vs ts->Tms H' vs ts
 | _,_,.nil=>.nil
 | _,_,.cons h t=>.cons (s _ _ h) (Tms.same s t)
theorem Tms.len:∀{vs:List V} {ts:List Tm},Tms H vs ts->vs.length=ts.length
 | _,_,.nil=>rfl
 | _,_,.cons _ t=>by rw[qq,qq,Tms.len t]
theorem Tms.mem{x:V}:∀{vs:List V} {ts:List Tm},Tms H vs ts->x∈vs->∃p t,x=.ref p/\t∈ts/\H p=some (.tup (tmV t))
 | _,_,.nil,h=>nomatch h
 | _,_,.cons g r,h=>by
  rcases qm.mp h with e | e
  ·exact⟨_,_,e,qk,g⟩
  ·obtain⟨p,t,e1,e2,e3⟩:=Tms.mem r e;exact⟨p,t,e1,qr _ e2,e3⟩
theorem Tms.at:∀{vs:List V} {ts:List Tm},Tms H vs ts->∀{i:Nat} {x:V},vs[i]?=some x->∃p t,x=.ref p/\ts[i]?=some t/\H p=some (.tup (tmV t))
 | _,_,.nil,i,x,h=>by simp at h
 | _,_,.cons g r,0,x,h=>by
  injection h with h;exact⟨_,_,h.symm,rfl,g⟩
 | _,_,.cons g r,i+1,x,h=>Tms.at r (i:=i) h
noncomputable def Ti(H:Hp)(v:V):Option Tm:=match v with
 | .ref p=>match H p with
  | some (.tup [.int s,.int a,.int b,.int n])=>some (s,a,b,n)
  | _=>none
 | _=>none
theorem Iu{t:Tm}(h:H p=some (.tup (tmV t))):Ti H (.ref p)=some t:=by
 unfold Ti tmV at*
 simp only[h]
theorem Tms.fm(g:Tm->Bool)(f:Tm->V):∀{vs:List V} {ts:List Tm},Tms H vs ts->(vs.filter fun v=>((Ti H v).map g).getD false).map (fun v=>((Ti H v).map f).getD .non)=(ts.filter g).map f
 | _,_,.nil=>rfl
 | _,_,.cons (p:=p) (t:=t) h r=>by
  rw[jh3,jh3,Iu h];show(if g t=true then _ else _:List V).map _=_;by_cases c:g t=true
  ·rw[xz c,xz c,xk,xk,Tms.fm g f r,Iu h];rfl
  ·rw[yv c,yv c,Tms.fm g f r]
theorem o6{t:Tm}:atI (tmV t) 0=some (V.int t.1):=rfl
theorem ou{t:Tm}:atI (tmV t) 1=some (V.int t.2.1):=rfl
theorem uR{t:Tm}:atI (tmV t) 2=some (V.int t.2.2.1):=rfl
theorem Uw{t:Tm}:atI (tmV t) 3=some (V.int t.2.2.2):=rfl
structure TmT(K:Fr)(H:Hp)(p:Addr)(ts:List Tm):Prop where
 ex:∃vs,SqT K H p vs/\Tms H vs ts
 ok:∀t∈ts,OkT t
 few:ts.length<=6
variable{ts:List Tm}
theorem TmT.same(T:TmT K H p ts)(s:Ax H H'):TmT K H' p ts:=by
 obtain⟨vs,h1,h2⟩:=T.ex;exact⟨⟨vs,s.tup h1,h2.same s⟩,T.ok,T.few⟩
noncomputable def ju:Sp:=fun vs H Q _=>Ex3 fun(p:Addr) (k:Int) (t:Tm)=>An5 (vs=[.ref p,.int k]) (H p=some (.tup (tmV t))) (OkT t) (Bt 400 k) (Q (.bl (onT t k)) H)
noncomputable def qF(K:Fr):Sp:=fun vs H Q _=>Ex3 fun(p:Addr) (k:Int) (ts:List Tm)=>An4 (vs=[.ref p,.int k]) (TmT K H p ts) (Bt 400 k) (∀H',Ax H H'->Q (.int (SU ts k)) H')
noncomputable def j9:Sp:=fun vs H Q _=>Ex2 fun(p:Addr) (t:Tm)=>An4 (vs=[.ref p]) (H p=some (.tup (tmV t))) (OkT t) (Q (.bl true) H)
noncomputable def qO(K:Fr):Sp:=fun vs H Q _=>Ex3 fun(p:Addr) (b:Int) (ts:List Tm)=>An3 (vs=[.int b,.ref p]) (TmT K H p ts) (∀H',Ax H H'->Q (.int (b-falls ts)) H')
structure Zg(b:Int)(ts:List Tm):Prop where
 b0:0<=b
 b1:b<=20000
 fl:falls ts<=b
noncomputable def fO(K:Fr):Sp:=fun vs H Q _=>Ex3 fun(p:Addr) (b:Int) (ts:List Tm)=>An4 (vs=[.int b,.ref p]) (TmT K H p ts) (Zg b ts) (∀H',Ax H H'->Q .non H')
noncomputable def j7(K:Fr):Sp:=fun vs H Q _=>Ex2 fun(p:Addr) (ts:List Tm)=>An3 (vs=[.ref p]) (TmT K H p ts) (∀H',Ax H H'->Q (.int (PER ts)) H')
theorem Lx(h:∀t∈ts,OkT t):∀(i:Nat),i<=6->0<PER (ts.take i)/\PER (ts.take i)<=1000^i
 | 0,_=>⟨(show (0:Int)<1 by decide),(show (1:Int)<=1 by decide)⟩
 | i+1,hi=>by
  obtain⟨h1,h2⟩:=Lx h i (by lia);rw[ja0];cases e:ts[i]? with
  | none=>
   simp only[Option.toList_none,ya];refine⟨h1,Int.le_trans h2 ?_⟩;rw[Int.pow_succ];have:(0:Int)<1000^i:=Int.pow_pos (by decide);lia
  | some t=>
   have ok:=h t (zh e);have e2:PER (ts.take i++(some t).toList)=Bx (PER (ts.take i)) t.2.2.2:=by
    unfold PER;rw[jf5,List.foldl_append];rfl
   rw[e2];have n0:=ok.n0;refine⟨(Br h1 (by lia)).1,Int.le_trans (dX h1 (by lia)) ?_⟩;rw[Int.pow_succ];exact Int.mul_le_mul h2 ok.n1 (by lia) (je1 (Int.pow_pos (by decide)))
theorem yF{i:Nat}(h:i<=6):(1000:Int)^i<=1000000000000000000:=by
 have:=vk (n:=1000) (by decide) h;rw[show(1000:Int)^i=((1000^i:Nat):Int) from(ji3 1000 i).symm];lia
theorem dD(h:∀t∈ts,OkT t):∀(i:Nat),i<=6->∀t∈ts.take i,t.2.2.2∣PER (ts.take i)
 | 0,_=>fun t ht=>by simp at ht
 | i+1,hi=>by
  obtain⟨h1,_⟩:=Lx h i (by lia);have ih:=dD h i (by lia);rw[ja0];cases e:ts[i]? with
  | none=>
   simp only[Option.toList_none,ya];exact ih
  | some u=>
   have ok:=h u (zh e);have e2:PER (ts.take i++(some u).toList)=Bx (PER (ts.take i)) u.2.2.2:=by
    unfold PER;rw[jf5,List.foldl_append];rfl
   have n0:=ok.n0;have f:=Br h1 (show 0<u.2.2.2 by lia);rw[e2];intro t ht;rcases vx.mp ht with z | z
   ·exact Int.dvd_trans (ih t z) f.2.1
   ·rw[jf5,vj] at z;subst z;exact f.2.2.1
noncomputable def mF(b:Int)(p:Addr)(c s:Int):List (Str×V):=[("base",.int b),("terms",.ref p),("full_count",.int c),("full_sum",.int s)]
structure Me(K:Fr)(C:Addr)(H:Hp)(x:Addr)(b:Int)(ts:List Tm):Prop where
 ex:∃dx p,H x=some (.ins C dx (mF b p (PER ts) (UP b ts (PER ts))))/\TmT K H p ts
 gd:Zg b ts
 po:0<UP b ts (PER ts)
noncomputable def wG(K:Fr)(C:Addr):Sp:=fun vs H Q _=>Ex7 fun(x p dx:Addr) (k b:Int) (ts:List Tm) (fs:List (Str×V))=>An9 (vs=[.ref x,.int k]) (H x=some (.ins C dx fs)) (fs.lookup (Str.ofString "base")=some (V.int b)) (fs.lookup (Str.ofString "terms")=some (V.ref p)) (TmT K H p ts) (0<=b) (b<=20000) (Bt 400 k) (∀H',Ax H H'->Q (.int (UP b ts k)) H')
noncomputable def V3(K:Fr)(C:Addr):Sp:=fun vs H Q _=>Ex6 fun(x dx:Addr) (b:Int) (v:V) (us:List V) (ts:List Tm)=>An9 (vs=[.ref x,.int b,v]) (H x=some (.ins C dx [])) (Tms H us ts) (( v=.non/\us=[])\/∃l,v=.ref l/\H l=some (.lst us)) (∀t∈ts,OkT t) (ts.length<=6) (Zg b ts) (0<UP b ts (PER ts)) (∀H',(∀y o,y≠x->H y=some o->H' y=some o)->Me K C H' x b ts->Q .non H')
theorem Me.same{C:Addr}{b:Int}(M:Me K C H x b ts)(s:Ax H H'):Me K C H' x b ts:=by
 obtain⟨dx,p,e,T⟩:=M.ex;exact⟨⟨dx,p,s _ _ e,T.same s⟩,M.gd,M.po⟩
theorem Me.meth{C:Addr}{b:Int}(M:Me K C H x b ts):∃dx fs,H x=some (.ins C dx fs)/\fs.lookup (Str.ofString "seek")=none/\fs.lookup (Str.ofString "at")=none/\fs.lookup (Str.ofString "upto")=none/\fs.lookup (Str.ofString "period")=none:=by
 obtain⟨dx,p,e,T⟩:=M.ex;exact⟨dx,_,e,rfl,rfl,rfl,rfl⟩
noncomputable def ACP(K:Fr)(C:Addr):Sp:=fun vs H Q _=>Ex4 fun(x:Addr) (k b:Int) (ts:List Tm)=>An4 (vs=[.ref x,.int k]) (Me K C H x b ts) (Bt 400 k) (∀H',Ax H H'->Q (.int (AT b ts k)) H')
noncomputable def AAS(K:Fr)(C:Addr):Sp:=fun vs H Q _=>Ex3 fun(x:Addr) (b:Int) (ts:List Tm)=>An3 (vs=[.ref x]) (Me K C H x b ts) (Q (.int (PER ts)) H)
theorem tM{C:Addr}{dx:Addr}{b:Int}{v:V}{us:List V}{E:XK}(hx:H1 x=none)(hdx:H1 dx=none)(ne:dx≠x)(hT:Tms H1 us ts)(hv:(v=.non/\us=[])\/∃l,v=.ref l/\H1 l=some (.lst us))(ok:∀t∈ts,OkT t)(few:ts.length<=6)(g:Zg b ts)(po:0<UP b ts (PER ts))
 (q:∀H',Ax H1 H'->Me K C H' x b ts->Q .non H'):V3 K C [.ref x,.int b,v] (upd (upd H1 dx (.own x)) x (.ins C dx [])) Q E:=by
 have k4:Ax H1 (upd (upd H1 dx (.own x)) x (.ins C dx [])):=(Am hdx _).trans (Am (by rw[Aw (Ne.symm ne)];exact hx) _);have x4:upd (upd H1 dx (.own x)) x (.ins C dx []) x=some (.ins C dx []):=Ah;refine⟨x,dx,b,v,us,ts,rfl,x4,hT.same k4,?_,ok,few,g,po,fun H5 k5 M=>q _ (fun y o h=>k5 y o (fun e=>by subst e;rw[hx] at h;cases h) (k4 y o h)) M⟩;rcases hv with z | ⟨l,z,e⟩
 ·exact .inl z
 ·exact .inr ⟨l,z,k4 _ _ e⟩
noncomputable def But(l:Addr)(H H':Hp):Prop:=∀y o,y≠l->H y=some o->H' y=some o
variable{l:Addr}
theorem But.upd:But l H (L2.upd H l o):=fun y o hy h=>by rw[Aw hy];exact h
structure NoT(o:HO):Prop where
 t:∀vs,o≠.tup vs
 f:∀ob u,o≠.frz ob u
variable{xs:List V}
theorem NoT.lst:NoT (.lst xs):=⟨fun _ z=>(nomatch z),fun _ _ z=>(nomatch z)⟩
theorem NoT.ins{C d:Addr}{fs:List (Str×V)}:NoT (.ins C d fs):=⟨fun _ z=>(nomatch z),fun _ _ z=>(nomatch z)⟩
theorem Tms.but(hl:H l=some o)(no:NoT o)(k:But l H H'):∀{vs:List V} {ts:List Tm},Tms H vs ts->Tms H' vs ts
 | _,_,.nil=>.nil
 | _,_,.cons g r=>.cons (k _ _ (Ij g hl (Ne.symm (no.t _))) g) (Tms.but hl no k r)
theorem cQ{vs:List V}(hl:H l=some o)(no:NoT o)(k:But l H H')(h:SqT K H p vs):SqT K H' p vs:=by
 rcases h with (h | ⟨o,h⟩) | h
 ·exact .inl (.inl (k _ _ (Ij h hl (Ne.symm (no.t _))) h))
 ·exact .inl (.inr ⟨o,k _ _ (Ij h hl (Ne.symm (no.f _ _))) h⟩)
 ·exact .inr h
theorem TmT.but(hl:H l=some o)(no:NoT o)(k:But l H H')(T:TmT K H p ts):TmT K H' p ts:=by
 obtain⟨vs,h1,h2⟩:=T.ex;exact⟨⟨vs,cQ hl no k h1,h2.but hl no k⟩,T.ok,T.few⟩
theorem Me.butX{C:Addr}{b:Int}(M:Me K C H x b ts)(hl:H l=some o)(no:NoT o)(ne:x≠l)(k:But l H H'):Me K C H' x b ts:=by
 obtain⟨dx,p,e,T⟩:=M.ex;exact⟨⟨dx,p,k _ _ ne e,T.but hl no k⟩,M.gd,M.po⟩
theorem Me.but{C:Addr}{b:Int}(M:Me K C H x b ts)(hl:H l=some (.lst xs))(k:But l H H'):Me K C H' x b ts:=by
 obtain⟨dx,p,e,T⟩:=M.ex;exact M.butX hl .lst (Ij e hl (by intro z;cases z)) k
theorem Je.gm{ls:List Int}{lp:Int}(g:Je ls lp ts):Zg ls.sum ts:=⟨g.sum.1,g.sum.2,je1 g.f1⟩
theorem dB(ok:∀t∈ts,OkT t)(few:ts.length<=6):0<PER ts/\PER ts<=1000000000000000000/\∀t∈ts,t.2.2.2∣PER ts:=by
 obtain⟨h1,h2⟩:=Lx ok 6 (by decide);have hd:=dD ok 6 (by decide);rw[yy few] at h1 h2 hd;exact⟨h1,Int.le_trans h2 (yF (by decide)),hd⟩
theorem Je.po{ls:List Int}{lp:Int}(g:Je ls lp ts):0<UP ls.sum ts (PER ts):=zT g.ok g.f1 (dB g.ok g.few).1
noncomputable def sF(s lp:Int)(p y:Addr):List (Str×V):=[("start",.int s),("months",.ref p),("leap",.int lp),("years",.ref y)]
structure Ld(K:Fr)(CS CM:Addr)(H:Hp)(x:Addr)(s:Int)(ls:List Int)(lp:Int)(ts:List Tm):Prop where
 ex:∃dx p y,H x=some (.ins CS dx (sF s lp p y))/\SqT K H p (ls.map V.int)/\Me K CM H y ls.sum ts
 gd:Je ls lp ts
 bs:Bt 290 s
section
variable{K:Fr}{CS CM:Addr}{H H':Hp}{x:Addr}{s:Int}{ls:List Int}{lp:Int}{ts:List Tm}
theorem Ld.same(S:Ld K CS CM H x s ls lp ts)(e:Ax H H'):Ld K CS CM H' x s ls lp ts:=by
 obtain⟨dx,p,y,h1,h2,h3⟩:=S.ex;exact⟨⟨dx,p,y,e _ _ h1,e.tup h2,h3.same e⟩,S.gd,S.bs⟩
theorem Ld.but(S:Ld K CS CM H x s ls lp ts)(hl:H l=some (.lst xs))(k:But l H H'):Ld K CS CM H' x s ls lp ts:=by
 obtain⟨dx,p,y,h1,h2,h3⟩:=S.ex;exact⟨⟨dx,p,y,k _ _ (Ij h1 hl (by intro z;cases z)) h1,cQ hl .lst k h2,h3.but hl k⟩,S.gd,S.bs⟩
theorem Ld.meth(S:Ld K CS CM H x s ls lp ts):∃dx fs,H x=some (.ins CS dx fs)/\fs.lookup (Str.ofString "year_start")=none/\fs.lookup (Str.ofString "year_at")=none/\fs.lookup (Str.ofString "lengths")=none/\fs.lookup (Str.ofString "cycle")=none/\fs.lookup (Str.ofString "date_of")=none/\fs.lookup (Str.ofString "day_of")=none:=by
 obtain⟨dx,p,y,e,_⟩:=S.ex;exact⟨dx,_,e,rfl,rfl,rfl,rfl,rfl,rfl⟩
end
noncomputable def qG(K:Fr):Sp:=fun vs H Q _=>Ex4 fun(l:Addr) (lp:Int) (ls:List Int) (ts:List Tm)=>An4 (vs=[.ref l,.int lp]) (SqL K H l (ls.map V.int)) (Je ls lp ts) (Q .non H)
noncomputable def Qk(K:Fr)(CS CM:Addr):Sp:=fun vs H Q _=>Ex9 fun(x dx ll:Addr) (s lp:Int) (v:V) (us:List V) (ls:List Int) (ts:List Tm)=>An8 (vs=[.ref x,.int s,.ref ll,.int lp,v]) (H x=some (.ins CS dx [])) (H ll=some (.lst (ls.map V.int))) (Tms H us ts) (( v=.non/\us=[])\/∃l,v=.ref l/\H l=some (.lst us)) (Je ls lp ts) (Bt 290 s) (∀H',(∀y o,y≠x->H y=some o->H' y=some o)->Ld K CS CM H' x s ls lp ts->Q .non H')
theorem nF{CS CM:Addr}{dx ll:Addr}{s lp:Int}{v:V}{us:List V}{ls:List Int}{E:XK}(hx:H1 x=none)(hdx:H1 dx=none)(ne:dx≠x)(hl:H1 ll=some (.lst (ls.map V.int)))(hT:Tms H1 us ts)(hv:(v=.non/\us=[])\/∃l,v=.ref l/\H1 l=some (.lst us))(g:Je ls lp ts)(bs:Bt 290 s)
 (q:∀H',Ax H1 H'->Ld K CS CM H' x s ls lp ts->Q .non H'):Qk K CS CM [.ref x,.int s,.ref ll,.int lp,v] (upd (upd H1 dx (.own x)) x (.ins CS dx [])) Q E:=by
 have k4:Ax H1 (upd (upd H1 dx (.own x)) x (.ins CS dx [])):=(Am hdx _).trans (Am (by rw[Aw (Ne.symm ne)];exact hx) _);have x4:upd (upd H1 dx (.own x)) x (.ins CS dx []) x=some (.ins CS dx []):=Ah;refine⟨x,dx,ll,s,lp,v,us,ls,ts,rfl,x4,k4 _ _ hl,hT.same k4,?_,g,bs,fun H5 k5 M=>q _ (fun y o h=>k5 y o (fun e=>by subst e;rw[hx] at h;cases h) (k4 y o h)) M⟩;rcases hv with z | ⟨l,z,e⟩
 ·exact .inl z
 ·exact .inr ⟨l,z,k4 _ _ e⟩
noncomputable def ACI(K:Fr)(CS CM:Addr):Sp:=fun vs H Q _=>Ex6 fun(x:Addr) (n s:Int) (ls:List Int) (lp:Int) (ts:List Tm)=>An4 (vs=[.ref x,.int n]) (Ld K CS CM H x s ls lp ts) (Bt 390 n) (∀H',Ax H H'->Q (.int (s+UP ls.sum ts n)) H')
noncomputable def wV(K:Fr)(CS CM:Addr):Sp:=fun vs H Q _=>Ex6 fun(x:Addr) (n s:Int) (ls:List Int) (lp:Int) (ts:List Tm)=>An4 (vs=[.ref x,.int n]) (Ld K CS CM H x s ls lp ts) (Bt 390 n) (∀(p:Addr) H',H p=none->Ax H H'->H' p=some (.lst ((Xc ls lp ts n).map V.int))->Q (.ref p) H')
noncomputable def AAh(K:Fr)(CS CM:Addr):Sp:=fun vs H Q _=>Ex5 fun(x:Addr) (s:Int) (ls:List Int) (lp:Int) (ts:List Tm)=>An3 (vs=[.ref x]) (Ld K CS CM H x s ls lp ts) (∀(p:Addr) H',Ax H H'->H' p=some (.tup [.int (PER ts),.int (UP ls.sum ts (PER ts))])->Q (.ref p) H')
noncomputable def qJ:Sp:=fun _ _ _ _=>False
noncomputable def oI(o:Option Int):V:=match o with | none=>.non | some i=>.int i
noncomputable def okM(m:Option Int):Prop:=∀i,m=some i->1<=i
structure KR(K:Fr)(CS CM:Addr)(H:Hp)(x:Addr)(D:Int):Prop where
 ex:∃s ls lp ts,Ld K CS CM H x s ls lp ts/\PER ts=2/\UP ls.sum ts 2=D
 d0:1<=D
 d1:D<=60
section
variable{K:Fr}{CS CM:Addr}{H H':Hp}{x:Addr}{D:Int}
theorem KR.same(S:KR K CS CM H x D)(e:Ax H H'):KR K CS CM H' x D:=by
 obtain⟨s,ls,lp,ts,h,g⟩:=S.ex;exact⟨⟨s,ls,lp,ts,h.same e,g⟩,S.d0,S.d1⟩
theorem KR.but(S:KR K CS CM H x D)(hl:H l=some (.lst xs))(k:But l H H'):KR K CS CM H' x D:=by
 obtain⟨s,ls,lp,ts,h,g⟩:=S.ex;exact⟨⟨s,ls,lp,ts,h.but hl k,g⟩,S.d0,S.d1⟩
end
noncomputable def pZ:Sp:=fun vs H Q _=>Ex3 fun(m d:Option Int) (st:Int)=>An5 (vs=[oI m,oI d,.int st]) (okM m) (d≠some 0) (1<=st) (Q .non H)
noncomputable def wk:Sp:=fun vs H Q _=>Ex3 fun(f n:Int) (d:Option Int)=>An4 (vs=[.int f,.int n,oI d]) (0<=n) (n<=1006) (∀(l:Addr) (H':Hp) (ds:List Int),H l=none->Ax H H'->H' l=some (.lst (ds.map V.int))->ds.length<=1006->Q (.ref l) H')
noncomputable def wj(K:Fr)(CS CM:Addr):Sp:=fun vs H Q _=>Ex5 fun(x:Addr) (D y:Int) (m d:Option Int)=>An5 (vs=[.ref x,.int y,oI m,oI d]) (KR K CS CM H x D) (0<=y) (y<=100) (∀(l:Addr) (H':Hp) (ds:List Int),H l=none->Ax H H'->H' l=some (.lst (ds.map V.int))->ds.length<=30000->Q (.ref l) H')
noncomputable def Xu(K:Fr)(CS CM:Addr):Sp:=fun vs H Q _=>Ex6 fun(x:Addr) (D st rs:Int) (m d:Option Int)=>An7 (vs=[.ref x,oI m,oI d,.int st,.int rs]) (KR K CS CM H x D) (okM m) (d≠some 0) (1<=st) (st<=2) (∀(p:Addr) (c:Nat) (H':Hp),Ax H H'->H' p=some (.tup [.int D,.int (c:Int)])->c<2^D.toNat->Q (.ref p) H')
noncomputable def cpl(z:Str):List Nat:=z.cps.toList
variable{z:Str}
theorem Gw{y:Str}(h:cpl y=cpl z):y=z:=by
 cases y;cases z;simp only[cpl] at h;exact xo Str.mk (jf0.mp h)
noncomputable def G4(cs:List Nat):List Nat:=if cs.head?=some 45 then cs.drop 1 else cs
structure M3(cs:List Nat):Prop where
 lo:1<=(G4 cs).length
 hi:(G4 cs).length<=60
 dg:∀c∈G4 cs,48<=c/\c<=57
 z0:(G4 cs).head?=some 48->cs=[48]
noncomputable def Jv(cs:List Nat):Int:=if cs.head?=some 45 then -((PySem.NumText.digitsVal (G4 cs):Nat):Int) else ((PySem.NumText.digitsVal (G4 cs):Nat):Int)
theorem Eo(z:Str):(cpl z).length=z.length:=ko
theorem OD(h:M3 (cpl z)):PySem.intText? z=some (Jv (cpl z)):=by
 have hl:z.length<=4300:=by
  have:=h.hi;rw[<-Eo];unfold G4 at this;split at this
  ·rw[ja8] at this;lia
  ·lia
 unfold Jv;by_cases e:(cpl z).head?=some 45
 ·rw[xz e];have ef:G4 (cpl z)=(cpl z).drop 1:=by unfold G4;rw[xz e]
  have hz:z.cps.toList=45::(cpl z).drop 1:=by
   show cpl z=_;generalize cpl z=cs at e;cases cs with
   | nil=>cases e
   | cons a r=>
    injection e with e;rw[e];rfl
  rw[ef];refine PySem.intText_neg hz (fun c hc=>h.dg c (by rw[ef];exact hc)) (fun z0=>?_) hl;have:=h.lo;rw[ef,z0] at this;simp at this
 ·rw[yv e];have ef:G4 (cpl z)=cpl z:=by unfold G4;rw[yv e]
  rw[ef];refine PySem.intText_digits (fun c hc=>h.dg c (by rw[ef];exact hc)) (fun z0=>?_) hl;have:=h.lo;rw[ef] at this;have z1:cpl z=[]:=z0;rw[z1] at this;simp at this
theorem Ow(h:1<=z.length):cpl (Txt.slice z (some 1) none)=(cpl z).drop 1:=by
 rw[slice_from_eq (b:=(z.length:Int)) (by decide) (by lia) rfl];show((List.drop 1 z.cps.toList).take ((z.length:Int)-1).toNat)=_;rw[yy]
 ·rfl
 ·rw[ja8];have:z.cps.toList.length=z.length:=Eo z;lia
theorem fZ(z:Str):cpl (Txt.slice z none (some 1))=(cpl z).take 1:=by
 by_cases h:1<=z.length
 ·have e:=slice_closes_toL (x:=z) (j:=1) (by decide) (by lia);rw[eq_of_beq e];rfl
 ·have e0:(cpl z).length=0:=by rw[Eo];lia
  have e1:(cpl (Txt.slice z none (some 1))).length=0:=by
   have:=Txt.slice_le z none (some 1);rw[Eo];lia
  rw[jb7.mp e0,jb7.mp e1];rfl
theorem fj{lo hi:Option Int}(h:c∈cpl (Txt.slice z lo hi)):c∈cpl z:=by
 unfold Txt.slice at h;split at h
 ·exact h
 ·simp only[cpl] at h;obtain⟨i,_,hi⟩:=List.mem_filterMap.mp h;have hi':z.cps.toList[i]?=some c:=by rw[Array.getElem?_toList];exact hi
  exact zh hi'
theorem Fi:asc z=true<->∀c∈cpl z,c<128:=by
 unfold asc cpl;rw[Array.all_eq_true'];simp[Array.mem_toList_iff]
theorem Vx(h:1<=z.length\/True):Txt.startswith z "-"=decide ((cpl z).head?=some 45):=by
 have ey:(Str.ofString "-")=⟨#[45]⟩:=by ac_rfl
 rw[ey];unfold Txt.startswith Builtin.Str.subAt;show(decide (0+1<=z.length)&&(z.cps.extract 0 (0+1)== #[45]))=_;rw[vv,kc,decide_eq_true_eq,decide_eq_true_eq,ja5];have el:(cpl z).length=z.length:=Eo z;have ex:(z.cps.extract 0 (0+1)).toList=(cpl z).take 1:=by
  rw[Array.toList_extract];simp[cpl,List.extract_eq_drop_take]
 constructor
 ·rintro⟨_,e⟩;rw[e] at ex;generalize cpl z=cs at ex;cases cs with
  | nil=>cases ex
  | cons a r=>
   injection ex with e1 _;rw[e1];rfl
 ·intro e;cases hc:cpl z with
  | nil=>rw[hc] at e;cases e
  | cons a r=>
   rw[hc] at e ex el;injection e with e;rw[qq] at el;refine⟨by lia,jf0.mp ?_⟩;rw[ex,e];rfl
theorem uB(c:Nat):c∈cpl (Str.ofString "0123456789")<->48<=c/\c<=57:=by
 have e:cpl (Str.ofString "0123456789")=List.range' 48 10:=by ac_rfl
 rw[e,List.mem_range'_1];lia
theorem nG(c:Nat):(!(Builtin.Str.occurrences (Str.ofString "0123456789") ⟨#[c]⟩ 0 (Str.ofString "0123456789").length 1).isEmpty)=decide (48<=c/\c<=57):=by
 rw[StrLaws.found_one,vv,decide_eq_true_eq,decide_eq_true_eq];exact uB c
structure TOk(z:Str):Prop where
 asc:asc z=true
 len:z.length<=1000000
theorem TOk.fit(h:TOk z):z.length<=sizeLine:=zv h.len (by decide)
theorem TOk.slice(h:TOk z)(lo hi:Option Int):TOk (Txt.slice z lo hi):=⟨Fi.mpr fun c hc=>Fi.mp h.asc c (fj hc),zv (Txt.slice_le z lo hi) h.len⟩
inductive Hnd(H:Hp):V->Prop
 | txt (z:Str):TOk z->Hnd H (.str z)
 | non:Hnd H .non
 | int (i:Int):Hnd H (.int i)
 | tup (a:Addr) (xs:List V):H a=some (.tup xs)->Hnd H (.ref a)
 | lst (a:Addr) (xs:List V):H a=some (.lst xs)->Hnd H (.ref a)
noncomputable def isT(v:V):Bool:=match v with | .str _=>true | _=>false
theorem yZ(K:Fr):PySem.W.kitOne K (.type "str") (.type "str")=some true:=by unfold PySem.W.kitOne;rw[xz (by simp)]
theorem yc(K:Fr):PySem.W.kitOne K (.type "NoneType") (.type "str")=some false:=by first | rfl | ac_rfl | with_unfolding_all rfl
theorem tH(K:Fr):PySem.W.kitOne K (.type "int") (.type "str")=some false:=by first | rfl | ac_rfl | with_unfolding_all rfl
theorem yX(K:Fr):PySem.W.kitOne K (.type "tuple") (.type "str")=some false:=by first | rfl | ac_rfl | with_unfolding_all rfl
theorem yd(K:Fr):PySem.W.kitOne K (.type "list") (.type "str")=some false:=by first | rfl | ac_rfl | with_unfolding_all rfl
theorem aN{v:V}(h:Hnd H v)(q:Q (.bl (isT v)) H):xr K [v,.ty "str"] H Q:=by
 cases h with
 | txt z hz=>exact RW (.str z) (yZ K) q
 | non=>exact RW .non (yc K) q
 | int i=>exact RW (.int i) (tH K) q
 | tup a xs e=>exact RW (.tup e) (yX K) q
 | lst a xs e=>exact RW (.lst e) (yd K) q
noncomputable def qT:Sp:=fun vs H Q _=>∃z:Str,An3 (vs=[.str z]) (TOk z) (∀(v:Bool) (H':Hp),Ax H H'->(v=true<->M3 (cpl z))->Q (.bl v) H')
theorem Kf(a b:Str):cpl (a++b)=cpl a++cpl b:=by
 show(a.cps++b.cps).toList=_;rw[Array.toList_append];rfl
structure TL(k:Nat)(z:Str):Prop where
 asc:asc z=true
 len:z.length<=k
theorem TL.mono{k:Nat}{a:Str}(h1:TL k a)(h:k<=m):TL m a:=⟨h1.asc,zv h1.len h⟩
theorem TL.ok{k:Nat}{a:Str}(h1:TL k a)(h:k<=1000000):TOk a:=⟨h1.asc,zv h1.len h⟩
theorem Yw(m:Nat):∀c∈(Nat.toDigits 10 m).map Char.toNat,c<128:=fun c hc=>by
 obtain⟨ch,hch,e⟩:=yk.mp hc;have r:=digit_range (Nat.isDigit_of_mem_toDigits (by decide) (by decide) hch);lia
variable{i:Int}
theorem TL.int(h:i.natAbs.log2<1920):TL 1921 (De i):=by
 refine⟨Fi.mpr fun c hc=>?_,J1 h⟩;unfold De cpl at hc;rw[signs_ofString] at hc;cases i with
 | ofNat m=>
  have e:(toString (Int.ofNat m)).toList=Nat.toDigits 10 m:=by
   show(Nat.repr m).toList=_;rw[Nat.toList_repr]
  rw[e] at hc;exact Yw m c hc
 | negSucc m=>
  have e:(toString (Int.negSucc m)).toList='-'::Nat.toDigits 10 (m+1):=by
   show("-"++Nat.repr (m+1)).toList=_;rw[String.toList_append,Nat.toList_repr];rfl
  rw[e,xk] at hc;rcases qm.mp hc with h | h
  ·have:('-':Char).toNat=45:=by decide
   lia
  ·exact Yw (m+1) c h
theorem N6(h1: -1000000000000000000000000000000000000000000000000000000000000<=i)(h2:i<=1000000000000000000000000000000000000000000000000000000000000):i.natAbs.log2<1920:=by
 have b:Bt 200 i:=Zc h1 h2;unfold Bt at b;by_cases z:i.natAbs=0
 ·rw[z];decide
 ·exact xh ((Nat.log2_lt z).mpr b) (by decide)
theorem p60:(10:Int)^(60:Int).toNat=1000000000000000000000000000000000000000000000000000000000000:=by decide
theorem four{a b c d:V}:([a,b,c,d]:List V).length<=sizeLine:=by show 4<=sizeLine;decide
theorem dT(n:Nat):cpl (De (n:Int))=(Nat.toDigits 10 n).map Char.toNat:=by
 unfold De cpl;rw[signs_ofString];have e:(toString (Int.ofNat n)).toList=Nat.toDigits 10 n:=by
  show(Nat.repr n).toList=_;rw[Nat.toList_repr]
 exact xo (List.map Char.toNat) e
theorem ofNat_toNat{cs:List Nat}(h:∀c∈cs,48<=c/\c<=57):(cs.map Char.ofNat).map Char.toNat=cs:=by
 rw[vi]
 conv=>rhs;rw[<-List.map_id cs]
 refine List.map_congr_left fun c hc=>?_;exact(by decide:∀c<58,(Char.toNat ∘ Char.ofNat) c=c) c (Nat.lt_succ_of_le (h c hc).2)
theorem canon{cs:List Nat}(h:∀c∈cs,48<=c/\c<=57)(ne:cs≠[])(z:cs.head?=some 48->cs=[48]):cpl (De ((PySem.NumText.digitsVal cs:Nat):Int))=cs:=by
 rw[dT];obtain⟨c,r,rfl⟩:∃c r,cs=c::r:=by
  cases cs with
  | nil=>exact absurd rfl ne
  | cons c r=>exact⟨c,r,rfl⟩
 have hc:=h c qk;rw[PySem.NumText.toDigits_digitsVal r.length (c::r) (by simp) h (by
  by_cases e:c=48
  ·have:=z (by rw[e];rfl);injection this with _ e2;exact .inl (by rw[e2];rfl)
  ·exact .inr ⟨c,r,rfl,by lia⟩)]
 exact ofNat_toNat h
theorem iy{cs:List Nat}(h:∀c∈cs,48<=c/\c<=57)(ne:cs≠[]):cpl (De ((PySem.NumText.digitsVal cs:Nat):Int))=cs<->(cs.head?=some 48->cs=[48]):=by
 refine⟨fun e z=>?_,canon h ne⟩;refine Classical.byContradiction fun hn=>?_;obtain⟨r,rfl⟩:∃r,cs=48::r:=by
  cases cs with
  | nil=>exact absurd rfl ne
  | cons c r=>
   injection z with z;exact⟨r,by rw[z]⟩
 have rn:r≠[]:=fun y=>hn (by rw[y]);have dr:∀c∈r,48<=c/\c<=57:=fun c hc=>h c (qr _ hc);have ev:PySem.NumText.digitsVal (48::r)=PySem.NumText.digitsVal r:=rfl;rw[dT,ev,PySem.NumText.toDigits_all r dr] at e;have l:r.length+1=(match r.dropWhile (· ==48) with | []=>['0'] | c::r=>(c::r).map Char.ofNat).length:=by
  have:=xo List.length e;rw[jp,qq] at this;exact this.symm
 have d:(r.dropWhile (· ==48)).length<=r.length:=(List.dropWhile_sublist _).length_le;have r1:1<=r.length:=by
  cases r with
  | nil=>exact absurd rfl rn
  | cons _ _=>simp
 cases hd:r.dropWhile (· ==48) with
 | nil=>
  rw[hd] at l;have l':r.length+1=1:=l;lia
 | cons a b=>
  rw[hd] at l d;have l':r.length+1=((a::b).map Char.ofNat).length:=l;rw[jp] at l';lia
theorem bI(n:Nat):(∀c∈cpl (De (n:Int)),48<=c/\c<=57)/\cpl (De (n:Int))≠[]/\PySem.NumText.digitsVal (cpl (De (n:Int)))=n:=by
 rw[dT];refine⟨fun c hc=>?_,fun e=>?_,PySem.W.KIN.val_back n⟩
 ·obtain⟨ch,hch,e⟩:=yk.mp hc;have r:=digit_range (Nat.isDigit_of_mem_toDigits (by decide) (by decide) hch);lia
 ·have:=xo List.length e;rw[jp] at this;have p:=Nat.length_toDigits_pos (b:=10) (n:=n);rw[jg3] at this;lia
noncomputable def spR(sp:Sp)(d:Nat):Sp:=fun vs H Q E=>0<d/\sp vs H Q E
theorem Xp{sp:Sp}{vs:List V}{E:XK}(h:spR sp 0 vs H Q E):False:=absurd h.1 (by decide)
theorem DP.mt{CR:Addr}{CL:List Addr}{n:Int}(R:DP K CR CL H x n b):∃C dx fs,(∀sp:Sp,(C,sp)∈CL.map fun c=>(c,sp))/\H x=some (.ins C dx fs)/\fs.lookup (Str.ofString "turn")=none/\fs.lookup (Str.ofString "size")=none/\fs.lookup (Str.ofString "on")=none:=by
 obtain⟨C,dx,p,pm,pw,h1,h2,h3,h4⟩:=R.ex;exact⟨C,dx,_,fun sp=>yk.mpr ⟨C,h1,rfl⟩,h3,rfl,rfl,rfl⟩
theorem uC{cs:List Nat}(h:∀c∈cs,48<=c/\c<=57):cs.head?≠some 45:=by
 cases cs with
 | nil=>exact fun z=>nomatch z
 | cons a r=>
  intro z;injection z with z;have:=h a qk;lia
theorem yz{n:Nat}(h:n<10^60):(cpl (De (n:Int))).length<=60:=by
 rw[dT,jp];exact(Nat.length_toDigits_le_iff (by decide) (by decide)).mpr h
theorem G3{cs:List Nat}(h:cs.head?≠some 45):G4 cs=cs:=by unfold G4;rw[yv h]
theorem pL{cs:List Nat}(h:cs.head?≠some 45):Jv cs=((PySem.NumText.digitsVal cs:Nat):Int):=by unfold Jv;rw[yv h,G3 h]
theorem Rp{y:Int}(h:y.natAbs<10^60):M3 (cpl (De y))/\Jv (cpl (De y))=y/\G4 (cpl (De y))=cpl (De ((y.natAbs:Nat):Int)):=by
 have id:=bI y.natAbs;have dl:=yz h;have z0:(cpl (De ((y.natAbs:Nat):Int))).head?=some 48->cpl (De ((y.natAbs:Nat):Int))=[48]:=by
  have c:=(iy id.1 id.2.1).mp (by rw[id.2.2]);exact c
 have l1:1<=(cpl (De ((y.natAbs:Nat):Int))).length:=by
  cases hh:cpl (De ((y.natAbs:Nat):Int)) with
  | nil=>exact absurd hh id.2.1
  | cons a r=>simp
 rcases Int.lt_or_le y 0 with c | c
 ·have e:cpl (De y)=45::cpl (De ((y.natAbs:Nat):Int)):=by
   cases y with
   | ofNat k=>exact absurd c (by simp)
   | negSucc k=>
    show cpl (De (Int.negSucc k))=45::cpl (De (((k+1:Nat)):Int));rw[dT];unfold De cpl;rw[signs_ofString];show(("-"++Nat.repr (k+1)).toList).map Char.toNat=_;rw[String.toList_append,yi,Nat.toList_repr];rfl
  have hh:(cpl (De y)).head?=some 45:=by rw[e];rfl
  have ef:G4 (cpl (De y))=cpl (De ((y.natAbs:Nat):Int)):=by unfold G4;rw[xz hh,e];rfl
  refine⟨⟨by rw[ef];exact l1,by rw[ef];exact dl,by rw[ef];exact id.1,fun z=>?_⟩,?_,ef⟩
  ·rw[ef] at z;have:=z0 z;have v:=id.2.2;rw[this] at v;have:PySem.NumText.digitsVal [48]=0:=rfl;lia
  ·unfold Jv;rw[xz hh,ef,id.2.2];lia
 ·have e:De y=De ((y.natAbs:Nat):Int):=by congr 1;lia
  rw[e];have h45:=uC id.1;refine⟨⟨by rw[G3 h45];exact l1,by rw[G3 h45];exact dl,by rw[G3 h45];exact id.1,fun z=>z0 (by rw[G3 h45] at z;exact z)⟩,?_,G3 h45⟩;rw[pL h45,id.2.2];lia
noncomputable def nW(n:Int):List Nat:=cpl (De n)
noncomputable def Sm(i:Int):Prop:=i.natAbs<10^40
theorem wy(h:Sm i):i.natAbs<10^60:=Nat.lt_trans h (by decide)
theorem Hn(h:Sm i):M3 (nW i)/\Jv (nW i)=i:=⟨(Rp (wy h)).1,(Rp (wy h)).2.1⟩
theorem Ju(h:Sm i):∀c∈nW i,c=45\/48<=c/\c<=57:=fun c hc=>by
 have N:=(Hn h).1;have hd:=N.dg;by_cases e:(nW i).head?=some 45
 ·have ef:G4 (nW i)=(nW i).drop 1:=by unfold G4;rw[xz e]
  rw[ef] at hd;cases hn:nW i with
  | nil=>rw[hn] at hc;cases hc
  | cons a r=>
   rw[hn] at hc e hd;injection e with e;rcases qm.mp hc with z | z
   ·exact .inl (by rw[z,e])
   ·exact .inr (hd c z)
 ·rw[G3 e] at hd;exact .inr (hd c hc)
theorem Df(h:Sm i):(nW i).length<=41:=by
 have e:=(Rp (wy h)).2.2;have l:(cpl (De ((i.natAbs:Nat):Int))).length<=40:=by
  rw[dT,jp];exact(Nat.length_toDigits_le_iff (by decide) (by decide)).mpr h
 rw[<-e] at l;unfold G4 nW at*
 split at l
 ·rw[ja8] at l;lia
 ·lia
theorem yO(h:Sm i):nW i≠[]:=fun z=>by
 have:=(Hn h).1.lo;rw[z] at this;simp[G4] at this
theorem Eh(h1: -10000000000000000000000000000000000000000<i)(h2:i<10000000000000000000000000000000000000000):Sm i:=by
 unfold Sm;have:(10:Nat)^40=10000000000000000000000000000000000000000:=by decide
 lia
theorem Cd(h:Sm i):i.natAbs.log2<1920:=by
 refine N6 ?_ ?_
 ·unfold Sm at h;have:(10:Nat)^40=10000000000000000000000000000000000000000:=by decide
  lia
 ·unfold Sm at h;have:(10:Nat)^40=10000000000000000000000000000000000000000:=by decide
  lia
noncomputable def Gn(c:Nat):List (List Nat)->List Nat
 | []=>[]
 | w::ws=>w++(ws.map (c:: ·)).flatten
theorem Rk(c:Nat)(w y:List Nat)(ws:List (List Nat)):Gn c (w::y::ws)=w++c::Gn c (y::ws):=by
 show w++((c::y)++(ws.map (c:: ·)).flatten)=w++c::(y++(ws.map (c:: ·)).flatten);rfl
theorem U3(c:Nat):∀(w:List Nat) (ws:List (List Nat)),(∀x∈w::ws,c∉x)->spl c (Gn c (w::ws))=w::ws
 | w,[],h=>by
  show spl c (w++[])=[w];rw[ya];exact Vy c w (h w qk)
 | w,y::ws,h=>by
  rw[Rk,Qi c w _ (h w qk),U3 c y ws fun x hx=>h x (qr _ hx)]
theorem oX{k:Nat}{x:Int}(h:Bt k x)(hk:k<=1920)(h0:0<k):x.natAbs.log2<1920:=by
 unfold Bt at h;by_cases z:x.natAbs=0
 ·rw[z];decide
 ·exact xh ((Nat.log2_lt z).mpr h) hk
theorem J0(a b:Str):(a++b).length=a.length+b.length:=by
 show(a.cps++b.cps).size=_;rw[Array.size_append];rfl
theorem xx{m:Hp->Prop}(h:∀H',KB x H H'->H' x=some o->m H'):m (upd H x o):=h _ (fun y _ ne e=>by rw[Aw ne];exact e) Ah
noncomputable def sg(z:String):List Nat:=cpl (Str.ofString z)
theorem bsg:sg " "=[32]:=by ac_rfl
theorem dsg:sg "date "=sg "date"++[32]:=by ac_rfl
noncomputable def R8(n r:Int):List Nat:=sg "each "++nW n++sg " from "++nW r
noncomputable def Fj:Option Int->List Nat
 | none=>sg "*"
 | some i=>nW i
noncomputable def Yy(nm:List Nat)(m d:Option Int):List Nat:=sg "date "++nm++sg " "++Fj m++sg " "++Fj d
noncomputable def okO(m:Option Int):Prop:=∀i,m=some i->i.natAbs.log2<1920
section
variable(K:Fr)(CR:Addr)(CL:List Addr)(C:Addr)
noncomputable def AAc:Sp:=fun vs H Q _=>Ex3 fun(x:Addr) (n r:Int)=>An4 (vs=[.ref x,.int n,.int r]) (1<=n) (n<=1000) (Kz K CR CL C H x Q n (fun b=>RB n [r] b))
noncomputable def AAd:Sp:=fun vs H Q _=>Ex4 fun(x r:Addr) (n:Int) (b:Nat)=>An3 (vs=[.ref x,.ref r]) (DP K CR CL H r n b) (Kz K CR CL C H x Q n (fun _=>True))
noncomputable def AAa:Sp:=fun vs H Q _=>Ex5 fun(x r:Addr) (k n:Int) (b:Nat)=>An4 (vs=[.ref x,.int k,.ref r]) (k.natAbs.log2<1920) (DP K CR CL H r n b) (Kz K CR CL C H x Q n (fun _=>True))
noncomputable def AAZ:Sp:=fun vs H Q _=>Ex6 fun(x r:Addr) (k d n:Int) (b:Nat)=>An7 (vs=[.ref x,.int k,.ref r,.int d]) (1<=k) (k<=1000) (n*k<=150000) (Bt 200 d) (DP K CR CL H r n b) (Kz K CR CL C H x Q (n*k) (fun _=>True))
noncomputable def Li(R:Rel):Sp:=fun vs H Q _=>Ex7 fun(x r t:Addr) (n1 n2:Int) (b1 b2:Nat)=>An5 (vs=[.ref x,.ref r,.ref t]) (DP K CR CL H r n1 b1) (DP K CR CL H t n2 b2) (Bx n1 n2<=150000) (Kz K CR CL C H x Q (Bx n1 n2) (fun c=>R n1 b1 n2 b2 (Bx n1 n2) c))
noncomputable def AAb:Sp:=fun vs H Q _=>Ex8 fun(x r t:Addr) (k n1 n2:Int) (b1 b2:Nat)=>An7 (vs=[.ref x,.int k,.ref r,.ref t]) (k≠0) (k.natAbs.log2<1920) (DP K CR CL H r n1 b1) (DP K CR CL H t n2 b2) (Bx n1 n2<=150000) (Kz K CR CL C H x Q (Bx n1 n2) (fun c=>KtR k n1 b1 n2 b2 (Bx n1 n2) c))
noncomputable def u9(CS CM:Addr):Sp:=fun vs H Q _=>Ex8 fun(x y:Addr) (z:Str) (D st rs:Int) (m d:Option Int)=>uf (vs=[.ref x,.str z,.ref y,oI m,oI d,.int st,.int rs]) (z.length<=100) (KR K CS CM H y D) (okM m) (okO m) (d≠some 0) (okO d) (1<=st) (st<=2) (Kz K CR CL C H x Q D (fun _=>True))
end
noncomputable def AAf:Sp:=fun vs H Q _=>Ex2 fun(n r:Int)=>An4 (vs=[.int n,.int r]) (1<=n) (n<=1000) (∀z:Str,z.length<=3900->Q (.str z) H)
noncomputable def AAP:Sp:=fun vs H Q _=>∃m:Option Int,An3 (vs=[oI m]) (okO m) (∀z:Str,z.length<=1921->Q (.str z) H)
noncomputable def AAg:Sp:=fun vs H Q _=>Ex5 fun(z:Str) (m d:Option Int) (st rs:Int)=>An7 (vs=[.str z,oI m,oI d,.int st,.int rs]) (z.length<=100) (okO m) (okO d) (1<=st) (st<=2) (∀(y:Str) (H':Hp),Ax H H'->Q (.str y) H')
theorem yU(h1: -1000000<=i)(h2:i<=1000000):i.natAbs.log2<1920:=oX (Zc (by lia) (by lia)) (by decide) (by decide)
theorem vZ:cpl Str.empty=[]:=rfl
local macro_rules | `(tactic| walk_at"mm")=> `(tactic| (repeat (first | exact List.Mem.head _ | refine List.Mem.tail _ ?_)))
local macro_rules | `(tactic| walk_at"i2")=> `(tactic| (intro R1 R2 lz q hx rc;have fl:=Br R1.n0 R2.n0;symm;obtain⟨C,dr,fs,m,hr,l1,_⟩:=R1.mt;refine⟨_,C,dr,fs,_,m _,rfl,hr,l1,?_⟩;symm;refine⟨ja2,_,_,_,rfl,R1,fun p hp=>?_⟩;symm;obtain⟨C',dr',fs',m',hr',l1',_⟩:=R2.mt;refine⟨_,C',dr',fs',_,m' _,rfl,hr',l1',?_⟩;symm;refine⟨ja2,_,_,_,rfl,R2,fun p' hp'=>?_⟩;symm;refine⟨p,p',_,_,_,_,rfl,⟨SqT.of hp,SqT.of hp',R1.n0,R2.n0,R1.n1,R2.n1,R1.lt,R2.lt⟩,lz,fun p2 c H1 s1 t1 lt Rr=>?_⟩;symm;refine⟨HH,fun pm hpm=>?_⟩;refine fresh hpm fun H2 s2 t2=>?_;symm;refine⟨(by show 3<=sizeLine;decide),fun pw hpw=>?_⟩;refine fresh hpw fun H3 s3 t3=>?_;have s3:=s2.trans s3;have hx3:=(s1.trans s3) _ _ hx;symm;exact⟨_,p2,pm,pw,_,_,rfl,hx3,rc,fun H' k e=>q _ H' (k.pre (s1.trans s3)) (Fg (by walk_at"mm") rc hx3 (s3 _ _ t1) k e fl.1 lz lt) Rr⟩))
noncomputable def sW(w:Wd):Str:=⟨w.toArray⟩
theorem Bg(w:Wd):cpl (sW w)=w:=by unfold cpl sW;simp
theorem Jo(z:Str):sW (cpl z)=z:=Gw (Bg _)
theorem Cr(w:Wd):(sW w).length=w.length:=by rw[<-Eo,Bg]
theorem vB{a b:Wd}:V.str (sW a)=V.str (sW b)<->a=b:=⟨fun e=>by injection e with e;rw[<-Bg a,e,Bg],fun e=>by rw[e]⟩
structure HB(cs:List Nat):Prop where
 lo:1<=cs.length
 hi:cs.length<=8
 ch:∀c∈cs,97<=c/\c<=122
theorem sr(c:Nat):c∈cpl (Str.ofString "abcdefghijklmnopqrstuvwxyz")<->97<=c/\c<=122:=by
 have e:cpl (Str.ofString "abcdefghijklmnopqrstuvwxyz")=(List.range 26).map (97+ ·):=by ac_rfl
 rw[e,yk];constructor
 ·rintro⟨k,hk,rfl⟩;have:=je2.mp hk;lia
 ·intro h;exact⟨c-97,je2.mpr (by lia),by lia⟩
theorem yj(c:Nat):(!(Builtin.Str.occurrences (Str.ofString "abcdefghijklmnopqrstuvwxyz") ⟨#[c]⟩ 0 (Str.ofString "abcdefghijklmnopqrstuvwxyz").length 1).isEmpty)=decide (97<=c/\c<=122):=by
 rw[StrLaws.found_one,vv,decide_eq_true_eq,decide_eq_true_eq];exact sr c
noncomputable def wY:Sp:=fun vs H Q _=>∃z:Str,An3 (vs=[.str z]) (TOk z) (∀(v:Bool) (H':Hp),Ax H H'->(v=true<->HB (cpl z))->Q (.bl v) H')
noncomputable def V0:Sp:=fun vs H Q _=>∃z:Str,An4 (vs=[.str z]) (TOk z) (z.length<=4000) (Q (.bl true) H)
noncomputable def rdF(p:Addr)(k:Nat):List (Str×V):=[("words",.ref p),("place",.int (k:Int))]
structure Rdr(CD:Addr)(H:Hp)(x p:Addr)(ws:List Wd)(k:Nat):Prop where
 ex:∃dx,H x=some (.ins CD dx (rdF p k))
 tp:H p=some (.tup (ws.map fun w=>.str (sW w)))
 ln:ws.length<=100000
 ok:∀w∈ws,TOk (sW w)
noncomputable def Rd(CD:Addr)(H:Hp)(x:Addr)(r:List Wd):Prop:=∃p ws k,Rdr CD H x p ws k/\ws.drop k=r
section
variable{CD:Addr}{H H':Hp}{x:Addr}{r:List Wd}{w:Wd}
theorem Rd.ob(R:Rd CD H x r):∃dx fs,H x=some (.ins CD dx fs)/\fs.lookup (Str.ofString "take")=none/\fs.lookup (Str.ofString "peek")=none:=by
 obtain⟨p,ws,k,⟨⟨dx,h⟩,_⟩,_⟩:=R;exact⟨dx,_,h,rfl,rfl⟩
theorem Rd.same(R:Rd CD H x r)(s:Ax H H'):Rd CD H' x r:=by
 obtain⟨p,ws,k,⟨⟨dx,h⟩,t,l,o⟩,e⟩:=R;exact⟨p,ws,k,⟨⟨dx,s _ _ h⟩,s _ _ t,l,o⟩,e⟩
theorem Rd.tk(R:Rd CD H x (w::r)):TOk (sW w):=by
 obtain⟨p,ws,k,R,e⟩:=R;exact R.ok w (List.mem_of_mem_drop (by rw[e];exact .head _))
end
theorem KB.tr{H2:Hp}(a:KB x H H1)(b:KB x H1 H2):KB x H H2:=fun y o h e=>b y o h (a y o h e)
theorem KB.sm(s:Ax H H1):KB x H H1:=fun y o _ e=>s y o e
noncomputable def Tk(CD:Addr)(H:Hp)(x:Addr)(r:List Wd)(G:V->Hp->Prop)(Q:VK):Prop:=∀v H',KB x H H'->Rd CD H' x r->G v H'->Q v H'
theorem Tk.on{CD:Addr}{r:List Wd}{G:V->Hp->Prop}(t:Tk CD H x r G Q)(k:KB x H H1):Tk CD H1 x r G Q:=fun v H' k'=>t v H' (k.tr k')
inductive PK | an | or | bu | ul | up | un | ne | ti
noncomputable def PK.s:PK->String | an=>"and" | or=>"or" | bu=>"but" | ul=>"unlike" | up=>"upon" | un=>"until" | ne=>"near" | ti=>"till"
noncomputable def PK.R:PK->Rel | an=>Bo and | or=>Bo Bool.or | bu=>Bo bn | ul=>Bo xor | up=>UpR 1 | un=>UpR (-1) | ne=>NeR | ti=>TiR
inductive PT:Type
 | lf (b:Bool)
 | each (n r:Int)
 | date (nm:Wd) (m d:Option Int) (y:Option (Int×Int))
 | no (p:PT)
 | la (k:Int) (p:PT)
 | ev (k:Int) (p:PT) (d:Int)
 | nt (k:Int) (p q:PT)
 | pr (w:PK) (p q:PT)
noncomputable def lfS(b:Bool):String:=if b then "all" else "none"
noncomputable def yrW:Option (Int×Int)->List Wd
 | none=>[]
 | some y=>[sg "each",nW y.1,sg "from",nW y.2]
noncomputable def yr(y:Option (Int×Int)):Int×Int:=y.getD (1,0)
namespace PT
noncomputable def tok:PT->List Wd
 | lf b=>[sg (lfS b)]
 | each n r=>[sg "each",nW n,sg "from",nW r]
 | date nm m d y=>sg "date"::nm::Fj m::Fj d::yrW y
 | no p=>kL::sg "not"::(p.tok++[kR])
 | la k p=>kL::nW k::sg "later"::(p.tok++[kR])
 | ev k p d=>kL::sg "every"::nW k::sg "of"::(p.tok++[sg "from",nW d,kR])
 | nt k p q=>kL::nW k::sg "of"::(p.tok++sg "from"::(q.tok++[kR]))
 | pr w p q=>kL::(p.tok++sg w.s::(q.tok++[kR]))
noncomputable def deep:PT->Nat
 | no p=>p.deep+1
 | la _ p=>p.deep+1
 | ev _ p _=>p.deep+1
 | nt _ p q=>max p.deep q.deep+1
 | pr _ p q=>max p.deep q.deep+1
 | _=>0
noncomputable def okS(m:Option Int):Prop:=∀i,m=some i->Sm i
noncomputable def ok:PT->Prop
 | lf _=>True
 | each n r=>Sm n/\Sm r/\1<=n/\n<=60
 | date nm m d y=>HB nm/\okS m/\okS d/\(∀z,y=some z->Sm z.1/\Sm z.2/\1<=z.1/\z.1<=2)/\okM m/\d≠some 0
 | no p=>p.ok
 | la k p=>Sm k/\p.ok
 | ev k p d=>Sm k/\Sm d/\p.ok/\1<=k/\k<=3
 | nt k p q=>Sm k/\p.ok/\q.ok/\k≠0
 | pr _ p q=>p.ok/\q.ok
theorem hd(p:PT):∃z t,p.tok=z::t/\z∈[sg "all",sg "none",sg "each",sg "date",kL]:=by
 cases p with
 | lf b=>cases b<;>exact⟨_,_,rfl,by ac_rfl⟩
 | each=>exact⟨_,_,rfl,by ac_rfl⟩
 | date=>exact⟨_,_,rfl,by ac_rfl⟩
 | _=>exact⟨_,_,rfl,by ac_rfl⟩
end PT
noncomputable def PlH(H:Hp):PT->V->Prop
 | .lf b,v=>∃q,v=.ref q/\H q=some (.tup [.str (lfS b)])
 | .each n r,v=>∃q,v=.ref q/\H q=some (.tup [.str "each",.int n,.int r])
 | .date nm m d y,v=>∃q,v=.ref q/\H q=some (.tup [.str "date",.str (sW nm),oI m,oI d,.int (yr y).1,.int (yr y).2])
 | .no p,v=>∃q u,v=.ref q/\H q=some (.tup [.str "not",u])/\PlH H p u
 | .la k p,v=>∃q u,v=.ref q/\H q=some (.tup [.str "later",.int k,u])/\PlH H p u
 | .ev k p d,v=>∃q u,v=.ref q/\H q=some (.tup [.str "every",.int k,u,.int d])/\PlH H p u
 | .nt k p r,v=>∃q u y,v=.ref q/\H q=some (.tup [.str "of",.int k,u,y])/\PlH H p u/\PlH H r y
 | .pr w p r,v=>∃q u y,v=.ref q/\H q=some (.tup [.str w.s,u,y])/\PlH H p u/\PlH H r y
theorem PlH.kp(s:∀y xs,H y=some (.tup xs)->H' y=some (.tup xs)):∀{p:PT} {v:V},PlH H p v->PlH H' p v
 | .lf _,v,⟨q,e,h⟩=>⟨q,e,s _ _ h⟩
 | .each ..,v,⟨q,e,h⟩=>⟨q,e,s _ _ h⟩
 | .date ..,v,⟨q,e,h⟩=>⟨q,e,s _ _ h⟩
 | .no _,v,⟨q,u,e,h,g⟩=>⟨q,u,e,s _ _ h,PlH.kp s g⟩
 | .la ..,v,⟨q,u,e,h,g⟩=>⟨q,u,e,s _ _ h,PlH.kp s g⟩
 | .ev ..,v,⟨q,u,e,h,g⟩=>⟨q,u,e,s _ _ h,PlH.kp s g⟩
 | .nt ..,v,⟨q,u,y,e,h,g,g'⟩=>⟨q,u,y,e,s _ _ h,PlH.kp s g,PlH.kp s g'⟩
 | .pr ..,v,⟨q,u,y,e,h,g,g'⟩=>⟨q,u,y,e,s _ _ h,PlH.kp s g,PlH.kp s g'⟩
theorem PlH.same(s:Ax H H'){p:PT}{v:V}(h:PlH H p v):PlH H' p v:=PlH.kp (fun _ _ e=>s _ _ e) h
theorem PlH.kb{CD:Addr}{r:List Wd}(R:Rd CD H x r)(kb:KB x H H'){q:PT}{v:V}(h:PlH H q v):PlH H' q v:=PlH.kp (fun y xs e=>by
 obtain⟨dx,fs,hx,_⟩:=R.ob;exact kb y _ (Ij e hx (fun z=>nomatch z)) e) h
section
variable(CD:Addr)
noncomputable def qU:Sp:=fun vs H Q _=>Ex4 fun(x dx l:Addr) (ws:List Wd)=>An6 (vs=[.ref x,.ref l]) (H x=some (.ins CD dx [])) (H l=some (.lst (ws.map fun w=>.str (sW w)))) (ws.length<=100000) (∀w∈ws,TOk (sW w)) (∀H',KB x H H'->Rd CD H' x ws->Q .non H')
noncomputable def wM:Sp:=fun vs H Q _=>Ex2 fun(x:Addr) (r:List Wd)=>An3 (vs=[.ref x]) (Rd CD H x r) (Q (.str (sW (r.headD []))) H)
noncomputable def wH:Sp:=fun vs H Q _=>Ex2 fun(x:Addr) (r:List Wd)=>An3 (vs=[.ref x]) (Rd CD H x r) (∀H',KB x H H'->Rd CD H' x r.tail->Q (.str (sW (r.headD []))) H')
noncomputable def wF:Sp:=fun vs H Q _=>Ex3 fun(x:Addr) (z:Str) (r:List Wd)=>An3 (vs=[.ref x,.str z]) (Rd CD H x (cpl z::r)) (∀H',KB x H H'->Rd CD H' x r->Q .non H')
noncomputable def wO:Sp:=fun vs H Q _=>Ex3 fun(x:Addr) (n:Int) (r:List Wd)=>An4 (vs=[.ref x]) (Rd CD H x (nW n::r)) (Sm n) (∀H',KB x H H'->Rd CD H' x r->Q (.int n) H')
noncomputable def pY:Sp:=fun vs H Q _=>Ex3 fun(x:Addr) (m:Option Int) (r:List Wd)=>An4 (vs=[.ref x]) (Rd CD H x (Fj m::r)) (PT.okS m) (∀H',KB x H H'->Rd CD H' x r->Q (oI m) H')
noncomputable def qW:Sp:=fun vs H Q _=>Ex4 fun(x:Addr) (n m:Int) (r:List Wd)=>An5 (vs=[.ref x]) (Rd CD H x (nW n::sg "from"::nW m::r)) (Sm n) (Sm m) (∀q H',KB x H H'->Rd CD H' x r->H' q=some (.tup [.int n,.int m])->Q (.ref q) H')
noncomputable def qX:Sp:=fun vs H Q _=>Ex6 fun(x:Addr) (nm:Wd) (m d:Option Int) (y:Option (Int×Int)) (r:List Wd)=>An5 (vs=[.ref x]) (Rd CD H x (nm::Fj m::Fj d::(yrW y++r))) ((PT.date nm m d y).ok) (r.headD []≠sg "each") (Tk CD H x r (fun v H'=>PlH H' (.date nm m d y) v) Q)
noncomputable def spP(d:Nat)(G:PT->List Wd->List Wd)(C:PT->Prop):Sp:=fun vs H Q _=>Ex3 fun(x:Addr) (p:PT) (r:List Wd)=>An7 (vs=[.ref x]) (Rd CD H x (G p r)) p.ok (C p) (p.deep<d) (r.headD []≠sg "each") (Tk CD H x r (fun v H'=>PlH H' p v) Q)
noncomputable def cLN:PT->Prop | .la .. =>True | .nt .. =>True | _=>False
noncomputable def cEv:PT->Prop | .ev .. =>True | _=>False
noncomputable def cPr:PT->Prop | .pr .. =>True | _=>False
noncomputable def cIn:PT->Prop | .no _=>True | p=>cLN p\/cEv p\/cPr p
noncomputable def inn:PT->List Wd->List Wd
 | .no p,r=>sg "not"::(p.tok++r)
 | .la k p,r=>nW k::sg "later"::(p.tok++r)
 | .ev k p d,r=>sg "every"::nW k::sg "of"::(p.tok++sg "from"::nW d::r)
 | .nt k p q,r=>nW k::sg "of"::(p.tok++sg "from"::(q.tok++r))
 | .pr w p q,r=>p.tok++sg w.s::(q.tok++r)
 | _,r=>r
noncomputable def Jj(d:Nat):Sp:=spP CD d (fun p r=>p.tok++r) (fun _=>True)
noncomputable def V2(d:Nat):Sp:=spP CD (d+1) inn cLN
noncomputable def Q4(d:Nat):Sp:=spP CD (d+1) (fun p r=>(inn p r).tail) cEv
noncomputable def V1(d:Nat):Sp:=spP CD (d+1) inn cPr
noncomputable def Qz(d:Nat):Sp:=spP CD (d+1) inn cIn
end
theorem Xq{CD:Addr}{vs:List V}{E:XK}(h:Jj CD 0 vs H Q E):False:=by
 obtain⟨x,p,r,_,_,_,_,h,_⟩:=h;lia
theorem cG{a b:String}(h:Str.ofString a≠Str.ofString b):V.str (sW (sg a))≠V.str (Str.ofString b):=fun z=>h (by
 rw[<-Jo (Str.ofString a)];exact V.str.inj z)
theorem HX(a:String):V.str (sW (sg a))=V.str (Str.ofString a):=by rw[show sg a=cpl (Str.ofString a) from rfl,Jo]
theorem nD{w:Wd}(h:M3 (c::w)):c=45\/48<=c/\c<=57:=by
 by_cases e:c=45
 ·exact .inl e
 ·exact .inr (h.dg c (by rw[G3 (show (c::w).head?≠some 45 from fun z=>e (ki z))];exact .head _))
theorem Rg{n:Int}(h:Sm n){z:String}(hz:∃c w,sg z=c::w/\¬(c=45\/48<=c/\c<=57)):V.str (sW (nW n))≠V.str (Str.ofString z):=fun e=>by
 obtain⟨c,w,e1,e2⟩:=hz;have e3:nW n=sg z:=by rw[<-Bg (nW n),V.str.inj e];rfl
 have:=(Hn h).1;rw[e3,e1] at this;exact e2 (nD this)
theorem hdn{a:String}{r:List Wd}(h:sg a≠sg "each"):(sg a::r).headD []≠sg "each":=h
theorem vN:kL=sg "(":=by ac_rfl
theorem vm{b:String}(h:Str.ofString "("≠Str.ofString b):V.str (sW kL)≠V.str (Str.ofString b):=by
 rw[vN];exact cG h
theorem ABJ(w:PK):inV (V.str (Str.ofString w.s)) [.str "and",.str "or",.str "but",.str "unlike",.str "upon",.str "until",.str "near",.str "till"]=true:=by cases w<;>ac_rfl
local macro_rules | `(tactic| walk_at"nw")=> `(tactic| (refine CN (by first | exact vm (by ac_rfl) | exact cG (by ac_rfl) | exact fun z=>absurd (V.str.inj z) (by ac_rfl)) ?_;symm))
local macro_rules | `(tactic| walk_at"ew")=> `(tactic| (refine Hw (by first | exact HX _ | rfl) ?_;symm))
theorem pP(p:Nat->Bool)(l:List Nat):l.drop (l.takeWhile p).length=l.dropWhile p:=by
 conv=>lhs;rw[<-Xs (p:=p) (l:=l)]
 rw[Xs]
 conv=>lhs;rw[<-Xs (p:=p) (l:=l)]
 exact List.drop_left' (by rw[Xs])
theorem g40:(fun c=>(Str.ofString "(").cps.contains c)=(· ==40):=by
 funext c
 rw[show (Str.ofString "(").cps= #[40] by ac_rfl];by_cases h:c=40
 ·subst h;simp
 ·rw[show (#[40]:Array Nat).contains c=false by simpa using h];exact(beq_false_of_ne h).symm
theorem g41:(fun c=>(Str.ofString ")").cps.contains c)=(· ==41):=by
 funext c
 rw[show (Str.ofString ")").cps= #[41] by ac_rfl];by_cases h:c=41
 ·subst h;simp
 ·rw[show (#[41]:Array Nat).contains c=false by simpa using h];exact(beq_false_of_ne h).symm
noncomputable def lsT(z:Str):Str:=if stripSame (Str.ofString "(").cps.contains true false z then z else stripped (Str.ofString "(").cps.contains true false z
noncomputable def rsT(z:Str):Str:=if stripSame (Str.ofString ")").cps.contains false true z then z else stripped (Str.ofString ")").cps.contains false true z
theorem sX(z:Str):cpl (lsT z)=opd (cpl z):=by
 have lo:stripLo (Str.ofString "(").cps.contains true z=((cpl z).takeWhile (· ==40)).length:=by
  unfold stripLo;rw[xz rfl];show((cpl z).takeWhile (fun c=>(Str.ofString "(").cps.contains c)).length=_;rw[g40]
 unfold lsT opd;rw[<-pP];split
 ·rename_i h
  unfold stripSame at h;simp only[kc,ja5] at h;rw[lo] at h;rw[h.1];rfl
 ·unfold stripped;show(Builtin.Str.strSub z _ _).cps.toList=_;rw[StrLaws.strSub_toList,lo];have:stripHi (Str.ofString "(").cps.contains false z ((cpl z).takeWhile (· ==40)).length=z.length:=rfl;rw[this];exact yy (by rw[ja8];have:=Eo z;unfold cpl at this;lia)
theorem qu(z:Str):cpl (rsT z)=((cpl z).reverse.dropWhile (· ==41)).reverse:=by
 have hi:stripHi (Str.ofString ")").cps.contains true z 0=z.length-((cpl z).reverse.takeWhile (· ==41)).length:=by
  unfold stripHi;rw[xz rfl];show z.length-((cpl z).reverse.takeWhile (fun c=>(Str.ofString ")").cps.contains c)).length=_;rw[g41]
 have key:(cpl z).take ((cpl z).length-((cpl z).reverse.takeWhile (· ==41)).length)=((cpl z).reverse.dropWhile (· ==41)).reverse:=by
  have e:=Xs (p:=(· ==41)) (l:=(cpl z).reverse);have e2:=xo List.reverse e;rw[List.reverse_append,List.reverse_reverse] at e2;have l2:=xo List.length e;rw[qf,List.length_reverse] at l2
  conv=>lhs;rw[<-e2]
  rw[List.take_left'];rw[List.length_reverse,e2];lia
 unfold rsT;split
 ·rename_i h
  unfold stripSame at h;simp only[kc,ja5] at h;have h2:stripHi (Str.ofString ")").cps.contains true z 0=z.length:=h.2;rw[hi] at h2;rw[<-key,Eo,h2,<-Eo,ja9]
 ·unfold stripped;show(Builtin.Str.strSub z 0 (stripHi (Str.ofString ")").cps.contains true z 0)).cps.toList=_;rw[StrLaws.strSub_toList,hi,<-key,Eo];rfl
theorem ABP(w:Wd):lsT (sW w)=sW (opd w):=Gw (by rw[sX,Bg,Bg])
theorem AAm(w:Wd):rsT (sW (opd w))=sW (core w):=Gw (by rw[qu,Bg,Bg];rfl)
theorem Z2(z:Str):K3 32 z=(spl 32 (cpl z)).map sW:=rfl
theorem kZ:Str.ofString ""=sW []:=by ac_rfl
theorem ACR:Str.ofString "("=sW kL:=by ac_rfl
theorem ACQ:Str.ofString ")"=sW kR:=by ac_rfl
theorem jq(c:Nat):∀l:List Nat,((spl c l).map fun w=>w.length+1).sum=l.length+1
 | []=>rfl
 | a::l=>by
  have ih:=jq c l;by_cases e:a=c
  ·subst e;rw[jt,xk,jb8,ih,qq];show 0+1+_=_;lia
  ·rw[Vz l e,xk,jb8,qq,qq];rw[Qh c l,xk,jb8] at ih;lia
theorem dR{a:Nat}:∀{l:List Nat},a∈l->a<=l.sum
 | b::l,h=>by
  rw[jb8];rcases qm.mp h with z | z
  ·lia
  ·have:=dR z;lia
theorem YX(p:Wd):(HJ p).length<=p.length+1:=by
 have a:=Ny p;have b:=Qt p;unfold HJ;simp only[qf,jb2,qq,jg3];lia
theorem Yq:∀ps:List Wd,(ps.flatMap HJ).length<=(ps.map fun w=>w.length+1).sum
 | []=>qh _
 | p::ps=>by
  rw[Zs,qf,xk,jb8];have:=Yq ps;have:=YX p;lia
theorem pR{ps:List Wd}(i:Nat):((ps.take i).flatMap HJ).length<=(ps.flatMap HJ).length:=by
 conv=>rhs;rw[<-List.take_append_drop i ps,jg6,qf]
 lia
theorem RT{α:Type}(v:α):∀k:Nat,(List.replicate k [v]).flatten=List.replicate k v
 | 0=>rfl
 | k+1=>by rw[Zl,jg2,RT v k];rfl
theorem yC(p:Wd):(HJ p).map (fun w=>V.str (sW w))=List.replicate (p.length-(opd p).length) (V.str (sW kL))++[V.str (sW (core p))]++List.replicate ((opd p).length-(core p).length) (V.str (sW kR)):=by
 unfold HJ;simp
theorem vJ:∀p:Wd,p.length-(opd p).length<=p.count 40
 | []=>qh _
 | a::p=>by
  by_cases e:a=40
  ·subst e;rw[MK,List.count_cons_self,qq];have:=vJ p;have:=Ny p;lia
  ·rw[show opd (a::p)=a::p by simp[opd,jb1,e]];lia
noncomputable def opn(p:Wd):Nat:=p.length-(opd p).length
noncomputable def cls(p:Wd):Nat:=(opd p).length-(core p).length
noncomputable def Dok(c:Int):List Wd->Prop
 | []=>True
 | w::r=>c+(opn w:Int)<=40/\Dok (c+(opn w:Int)-(cls w:Int)) r
noncomputable def dpf:List Wd->Int
 | []=>0
 | w::r=>(opn w:Int)-(cls w:Int)+dpf r
noncomputable def pX:Sp:=fun vs H Q _=>∃z:Str,An6 (vs=[.str z]) (TOk z) ((cpl z).length<=4000) (∀p∈spl 32 (cpl z),core p≠[]) (Dok 0 (spl 32 (cpl z))) (∀l H',Ax H H'->H' l=some (.lst ((tks (spl 32 (cpl z))).map fun w=>.str (sW w)))->Q (.ref l) H')
structure Wf(ws ts:List Wd)(b:Nat):Prop where
 ne:ws≠[]
 bl:∀w∈ws,32∉w
 co:∀w∈ws,core w≠[]
 tk:tks ws=ts
 dk:∀c:Int,c+(b:Int)<=40->Dok c ws
 dp:dpf ws=0
 as:∀w∈ws,∀c∈w,c<128
noncomputable def gs(c:Nat):Prop:=c<128/\c≠32/\c≠40/\c≠41
theorem Wf.one{w:Wd}(ne:w≠[])(g:∀c∈w,gs c):Wf [w] [w] 0:=by
 have h1:w.head?≠some 40:=fun z=>(g 40 (List.mem_of_mem_head? z)).2.2.1 rfl;have h2:w.getLast?≠some 41:=fun z=>(g 41 (List.mem_of_getLast? z)).2.2.2 rfl;have s:∀x∈[w],x=w:=fun x h=>vj.mp h;have e0:opn w=0:=by
  have:=vJ w;rw[List.count_eq_zero.mpr fun z=>(g 40 z).2.2.1 rfl] at this;exact Nat.le_zero.mp this
 have e1:cls w=0:=by
  unfold cls;rw[OJ h1 h2];exact Nat.sub_eq_zero_of_le (Ny w)
 refine⟨by simp,fun x h=>by rw[s x h];exact fun z=>(g 32 z).2.1 rfl,fun x h=>by rw[s x h,OJ h1 h2];exact ne,by rw[jd (gQ h1 h2)];rfl,fun c h=>⟨by rw[e0];exact h,trivial⟩,by simp[dpf,e0,e1],fun x h=>by rw[s x h];exact fun c hc=>(g c hc).1⟩
theorem d7:∀ws r:List Wd,dpf (ws++r)=dpf ws+dpf r
 | [],r=>(Int.zero_add _).symm
 | w::ws,r=>by
  show _+dpf (ws++r)=_+dpf ws+_;rw[d7 ws r];lia
theorem Dok.app:∀{ws r:List Wd} {c:Int},Dok c ws->Dok (c+dpf ws) r->Dok c (ws++r)
 | [],r,c,_,h=>by rwa [show dpf []=0 from rfl,Int.add_zero] at h
 | w::ws,r,c,h,g=>⟨h.1,Dok.app h.2 (by
  rwa [show c+(opn w:Int)-(cls w:Int)+dpf ws=c+dpf (w::ws) by show _=c+((opn w:Int)-(cls w:Int)+dpf ws);lia])⟩
theorem Wf.app{ws ts ws' ts':List Wd}{b':Nat}(A:Wf ws ts b)(B:Wf ws' ts' b'):Wf (ws++ws') (ts++ts') (max b b'):=
 ⟨fun z=>A.ne (List.append_eq_nil_iff.mp z).1,fun w h=>(vx.mp h).elim (A.bl w) (B.bl w),fun w h=>(vx.mp h).elim (A.co w) (B.co w),by rw[pQ,A.tk,B.tk],fun c h=>(A.dk c (by lia)).app (by rw[A.dp];exact B.dk _ (by lia)),by rw[d7,A.dp,B.dp];rfl,fun w h=>(vx.mp h).elim (A.as w) (B.as w)⟩
theorem mL{p:Wd}(h:core p≠[]):opn (p++[41])=opn p/\cls (p++[41])=cls p+1:=by
 unfold opn cls;have:=Qt p;rw[Wj (J6 h),Kg (J6 h),qf,qf];exact⟨by simp,by show(opd p).length+1-_=_;lia⟩
theorem yK(w:Wd):opn (40::w)=opn w+1/\cls (40::w)=cls w:=by
 unfold opn cls;rw[MK,Gs,qq];have:=Ny w;exact⟨by lia,rfl⟩
theorem ABa:∀{ws:List Wd} {c:Int},ws≠[]->(∀w∈ws,core w≠[])->Dok c ws->Dok c (bB ws)/\dpf (bB ws)=dpf ws-1
 | [],_,n,_,_=>absurd rfl n
 | [w],c,_,h,d=>by
  obtain⟨e1,e2⟩:=mL (h w (.head _));refine⟨⟨by rw[e1];exact d.1,trivial⟩,?_⟩;show(opn (w++[41]):Int)-(cls (w++[41]):Int)+0=(opn w:Int)-(cls w:Int)+0-1;rw[e1,e2];lia
 | w::y::r,c,_,h,d=>by
  obtain⟨a,b⟩:=ABa (ws:=y::r) (by simp) (fun x hx=>h x (.tail _ hx)) d.2;refine⟨⟨d.1,a⟩,?_⟩;show _+dpf (bB (y::r))=_+dpf (y::r)-1;rw[b];lia
theorem ACg{ws:List Wd}{c:Int}(n:ws≠[])(d:Dok (c+1) ws):Dok c (bA ws)/\dpf (bA ws)=dpf ws+1:=by
 cases ws with
 | nil=>exact absurd rfl n
 | cons w r=>
  obtain⟨e1,e2⟩:=yK w;refine⟨⟨by rw[e1];have:=d.1;lia,?_⟩,?_⟩
  ·have:=d.2;rw[e1,e2]
   rwa [show c+((opn w+1:Nat):Int)-(cls w:Int)=c+1+(opn w:Int)-(cls w:Int) by lia]
  ·show(opn (40::w):Int)-(cls (40::w):Int)+dpf r=(opn w:Int)-(cls w:Int)+dpf r+1;rw[e1,e2];lia
theorem Wf.wrap{ws ts:List Wd}(A:Wf ws ts b):Wf (bB (bA ws)) (kL::(ts++[kR])) (b+1):=by
 have cA:∀w∈bA ws,core w≠[]:=by
  have:=A.co;cases ws with
  | nil=>exact fun _ h=>nomatch h
  | cons w r=>
   intro x hx;rcases qm.mp hx with z | z
   ·rw[z,Gs];exact this w (.head _)
   ·exact this x (.tail _ z)
 have mem:∀{P:Nat->Prop},P 40->P 41->(∀w∈ws,∀c∈w,P c)->∀w∈bB (bA ws),∀c∈w,P c:=fun{P} p0 p1 h w hw c hc=>by
  obtain⟨x,hx,e⟩:=Xe hw A.ne;have:=h x hx;rcases e with e | e | e | e<;>subst e
  ·exact this c hc
  ·rcases qm.mp hc with z | z
   ·exact z ▸ p0
   ·exact this c z
  ·rcases vx.mp hc with z | z
   ·exact this c z
   ·exact(vj.mp z) ▸ p1
  ·rcases qm.mp hc with z | z
   ·exact z ▸ p0
   ·rcases vx.mp z with z | z
    ·exact this c z
    ·exact(vj.mp z) ▸ p1
 have dA:∀c:Int,c+((b+1:Nat):Int)<=40->Dok c (bB (bA ws))/\dpf (bB (bA ws))=0:=fun c h=>by
  obtain⟨a,e⟩:=ACg (c:=c) A.ne (A.dk (c+1) (by lia));obtain⟨a,f⟩:=ABa (Mx A.ne) cA a;exact⟨a,by rw[f,e,A.dp];rfl⟩
 refine⟨Vq (Mx A.ne),fun w hw z=>mem (P:=(· ≠32)) (by decide) (by decide) (fun w h c hc e=>A.bl w h (e ▸ hc)) w hw 32 z rfl,fun w hw=>?_,by rw[jc A.ne A.co,A.tk],fun c h=>(dA c h).1,(dA (-(b:Int)) (by lia)).2,mem (by decide) (by decide) A.as⟩;obtain⟨x,hx,e⟩:=Xe hw A.ne;have c:=A.co x hx;rcases e with e | e | e | e<;>subst e
 ·exact c
 ·rw[Gs];exact c
 ·rw[Kg (J6 c)];exact c
 ·rw[Kg (J6 (by rw[Gs];exact c)),Gs];exact c
theorem Mg{n:Int}(h:Sm n):Wf [nW n] [nW n] 0:=.one (yO h) fun c hc=>by
 have:=Ju h c hc;unfold gs;lia
theorem Qg{m:Option Int}(h:PT.okS m):Wf [Fj m] [Fj m] 0:=by
 cases m with
 | none=>exact .one (by ac_rfl) (by unfold gs;ac_rfl)
 | some i=>exact Mg (h i rfl)
namespace PT
noncomputable def wd:PT->List Wd
 | lf b=>[sg (lfS b)]
 | each n r=>[sg "each",nW n,sg "from",nW r]
 | date nm m d y=>[sg "date"]++([nm]++([Fj m]++([Fj d]++yrW y)))
 | no p=>bB (bA ([sg "not"]++p.wd))
 | la k p=>bB (bA ([nW k]++([sg "later"]++p.wd)))
 | ev k p d=>bB (bA ([sg "every"]++([nW k]++([sg "of"]++(p.wd++([sg "from"]++[nW d]))))))
 | nt k p q=>bB (bA ([nW k]++([sg "of"]++(p.wd++([sg "from"]++q.wd)))))
 | pr w p q=>bB (bA (p.wd++([sg w.s]++q.wd)))
noncomputable def br:PT->Nat
 | no p=>p.br+1
 | la _ p=>p.br+1
 | ev _ p _=>p.br+1
 | nt _ p q=>p.br+q.br+1
 | pr _ p q=>p.br+q.br+1
 | _=>0
noncomputable def lv:PT->Nat
 | no p=>p.lv
 | la _ p=>p.lv
 | ev _ p _=>p.lv
 | nt _ p q=>p.lv+q.lv
 | pr _ p q=>p.lv+q.lv
 | _=>1
theorem LK{z:String}(ne:sg z≠[]:=by ac_rfl)(h:∀c∈sg z,gs c:=by unfold gs;ac_rfl):Wf [sg z] [sg z] 0:=.one ne h
theorem wf:∀{p:PT},p.ok->Wf p.wd p.tok p.deep
 | lf b,_=>by cases b<;>exact LK
 | each n r,h=>((LK (z:="each")).app ((Mg h.1).app ((LK (z:="from")).app (Mg h.2.1))))
 | date nm m d y,h=>by
  have a:Wf [nm] [nm] 0:=.one (fun z=>by have:=h.1.lo;rw[z] at this;exact absurd this (by decide)) fun c hc=>by
   have:=h.1.ch c hc;unfold gs;lia
  cases y with
  | none=>exact(LK (z:="date")).app (a.app ((Qg h.2.1).app (Qg h.2.2.1)))
  | some y=>
   have o:=h.2.2.2.1 y rfl;exact(LK (z:="date")).app (a.app ((Qg h.2.1).app ((Qg h.2.2.1).app ((LK (z:="each")).app ((Mg o.1).app ((LK (z:="from")).app (Mg o.2.1)))))))
 | no p,h=>by
  have:=((LK (z:="not")).app (wf (p:=p) h)).wrap
  rwa [Nat.zero_max] at this
 | la k p,h=>by
  have:=((Mg h.1).app ((LK (z:="later")).app (wf h.2))).wrap
  rwa [Nat.zero_max,Nat.zero_max] at this
 | ev k p d,h=>by
  have:=((LK (z:="every")).app ((Mg h.1).app ((LK (z:="of")).app ((wf h.2.2.1).app ((LK (z:="from")).app (Mg h.2.1)))))).wrap;simpa [tok,wd,deep] using this
 | nt k p q,h=>by
  have:=((Mg h.1).app ((LK (z:="of")).app ((wf h.2.1).app ((LK (z:="from")).app (wf h.2.2.1))))).wrap;simpa [tok,wd,deep] using this
 | pr w p q,h=>by
  have k:Wf [sg w.s] [sg w.s] 0:=by cases w<;>exact LK
  have:=((wf h.1).app (k.app (wf h.2))).wrap;simpa [tok,wd,deep] using this
noncomputable def tx(p:PT):Wd:=jn p.wd
end PT
namespace PT
theorem wd_ne:∀p:PT,p.wd≠[]
 | lf _=>by simp[wd]
 | each .. =>by simp[wd]
 | date .. =>by simp[wd]
 | no _=>Vq (Mx (by simp))
 | la .. =>Vq (Mx (by simp))
 | ev .. =>Vq (Mx (by simp))
 | nt .. =>Vq (Mx (by simp))
 | pr .. =>Vq (Mx (by simp))
theorem jw{ps:List Wd}(h:ps≠[]):jn (bB (bA ps))=sg "("++jn ps++sg ")":=by
 rw[vO (Mx h),ABT h,show sg "("=[40] by ac_rfl,show sg ")"=[41] by ac_rfl];rfl
theorem j1{w:Wd}{ps:List Wd}(h:ps≠[]):jn ([w]++ps)=w++sg " "++jn ps:=by
 rw[List.singleton_append,JM h,bsg];simp
theorem ja(p:PT){ps:List Wd}(h:ps≠[]):jn (p.wd++ps)=p.tx++sg " "++jn ps:=by
 rw[m8 p.wd_ne h,bsg];simp[tx]
theorem lD:sg "each "=sg "each"++sg " ":=by ac_rfl
theorem WM:sg " from "=sg " "++sg "from"++sg " ":=by ac_rfl
theorem tx_each(n r:Int):tx (each n r)=R8 n r:=by
 unfold R8;rw[lD,WM,bsg];simp[tx,wd,jn]
theorem tx_date0(nm:Wd)(m d:Option Int):tx (date nm m d none)=Yy nm m d:=by
 unfold Yy;rw[dsg,bsg];simp[tx,wd,jn,yrW]
theorem tx_date1(nm:Wd)(m d:Option Int)(y:Int×Int):tx (date nm m d (some y))=Yy nm m d++(sg " "++R8 y.1 y.2):=by
 unfold Yy R8;rw[dsg,lD,WM,bsg];simp[tx,wd,jn,yrW]
theorem tx_no(p:PT):tx (no p)=sg "(not "++p.tx++sg ")":=by
 show jn _=_;rw[wd,jw (by simp),j1 p.wd_ne,show sg "(not "=sg "("++sg "not"++sg " " by ac_rfl];simp[tx]
theorem tx_la(k:Int)(p:PT):tx (la k p)=sg "("++nW k++sg " later "++p.tx++sg ")":=by
 show jn _=_;rw[wd,jw (by simp),j1 (by simp),j1 p.wd_ne,show sg " later "=sg " "++sg "later"++sg " " by ac_rfl];simp[tx]
theorem AAj:sg " of "=sg " "++sg "of"++sg " ":=by ac_rfl
theorem tx_ev(k:Int)(p:PT)(d:Int):tx (ev k p d)=sg "(every "++nW k++sg " of "++p.tx++(sg " from "++nW d++sg ")"):=by
 show jn _=_;rw[wd,jw (by simp),j1 (by simp),j1 (by simp),j1 (by simp),ja p (by simp),j1 (by simp),AAj,WM,show sg "(every "=sg "("++sg "every"++sg " " by ac_rfl];simp[jn]
theorem tx_nt(k:Int)(p q:PT):tx (nt k p q)=sg "("++nW k++sg " of "++p.tx++sg " from "++q.tx++sg ")":=by
 show jn _=_;rw[wd,jw (by simp),j1 (by simp),j1 (by simp),ja p (by simp),j1 q.wd_ne,AAj,WM];simp[tx]
noncomputable def _root_.Fw.PK.t:PK->String | .an=>" and " | .or=>" or " | .bu=>" but " | .ul=>" unlike " | .up=>" upon " | .un=>" until " | .ne=>" near " | .ti=>" till "
theorem pk_t(w:PK):sg w.t=sg " "++sg w.s++sg " ":=by cases w<;>ac_rfl
theorem tx_pr(w:PK)(p q:PT):tx (pr w p q)=sg "("++p.tx++sg w.t++q.tx++sg ")":=by
 show jn _=_;rw[wd,jw (by simp[wd_ne]),ja p (by simp),j1 q.wd_ne,pk_t];simp[tx]
theorem lv_br:∀p:PT,p.lv<=p.br+1/\1<=p.lv/\p.deep<=p.br
 | lf _=>by simp[lv,br,deep]
 | each .. =>by simp[lv,br,deep]
 | date .. =>by simp[lv,br,deep]
 | no p=>by have:=lv_br p;simp only[lv,br,deep];lia
 | la _ p=>by have:=lv_br p;simp only[lv,br,deep];lia
 | ev _ p _=>by have:=lv_br p;simp only[lv,br,deep];lia
 | nt _ p q=>by have:=lv_br p;have:=lv_br q;simp only[lv,br,deep];lia
 | pr _ p q=>by have:=lv_br p;have:=lv_br q;simp only[lv,br,deep];lia
theorem rdy{p:PT}(h:p.ok)(hl:p.tx.length<=4000)(hd:p.deep<=40):spl 32 p.tx=p.wd/\TOk (sW p.tx)/\Dok 0 p.wd/\∀q∈p.wd,core q≠[]:=by
 have W:=wf h;refine⟨Z3 W.ne W.bl,⟨Fi.mpr fun c hc=>?_,by rw[Cr];lia⟩,W.dk 0 (by lia),W.co⟩;rw[Bg] at hc;by_cases e:c=32
 ·lia
 ·obtain⟨w,hw,m⟩:=W2 e hc;exact W.as w hw c m
section
variable(D:Int)
noncomputable def sz:PT->Int
 | lf _=>1
 | each n _=>n
 | date .. =>D
 | no p=>p.sz
 | la _ p=>p.sz
 | ev k p _=>p.sz*k
 | nt _ p q=>Bx p.sz q.sz
 | pr _ p q=>Bx p.sz q.sz
noncomputable def EV:PT->Nat->Prop
 | lf b,c=>c=if b then 1 else 0
 | each n r,c=>RB n [r] c
 | pr .or p q,c=>∃b1 b2,EV p b1/\EV q b2/\Bo Bool.or (p.sz D) b1 (q.sz D) b2 (Bx (p.sz D) (q.sz D)) c
 | _,_=>True
end
variable{D:Int}
theorem sz_pos(hD:1<=D):∀{p:PT},p.ok->0<p.sz D
 | lf _,_=>by simp only[sz];decide
 | each ..,h=>by have:=h.2.2.1;simp only[sz];lia
 | date ..,_=>by simp only[sz];lia
 | no p,h=>sz_pos hD (p:=p) h
 | la _ p,h=>sz_pos hD (p:=p) h.2
 | ev k p _,h=>Int.mul_pos (sz_pos hD h.2.2.1) (by have:=h.2.2.2.1;lia)
 | nt _ p q,h=>(Br (sz_pos hD h.2.1) (sz_pos hD h.2.2.1)).1
 | pr _ p q,h=>(Br (sz_pos hD h.1) (sz_pos hD h.2)).1
end PT
theorem vh{nm:Wd}{m d:Option Int}{y:Option (Int×Int)}(h:(PT.date nm m d y).ok):1<=(yr y).1/\(yr y).1<=2:=by
 cases y with
 | none=>exact⟨by decide,by decide⟩
 | some y=>exact(h.2.2.2.1 y rfl).2.2
noncomputable def PT.kn:PT->Prop
 | .date nm _ _ _=>nm=sg "sun"
 | .no p=>p.kn
 | .la _ p=>p.kn
 | .ev _ p _=>p.kn
 | .nt _ p q=>p.kn/\q.kn
 | .pr _ p q=>p.kn/\q.kn
 | _=>True
noncomputable def Dc(K:Fr)(CS CM:Addr)(D:Int)(H:Hp)(a:Addr):Prop:=∃kv y,H a=some (.dK kv)/\Fp kv (.inr (sW (sg "sun")))=some (.ref y)/\KR K CS CM H y D
theorem Dc.same{CS CM:Addr}(d:Dc K CS CM D H a)(s:Ax H H'):Dc K CS CM D H' a:=by
 obtain⟨kv,y,h,e,C⟩:=d;exact⟨kv,y,s _ _ h,e,C.same s⟩
section
variable(K:Fr)(CR:Addr)(CL:List Addr)(CS CM:Addr)
noncomputable def Tl(D:Int)(p:PT)(H:Hp)(Q:VK):Prop:=∀x b H',Ax H H'->DP K CR CL H' x (p.sz D) b->p.EV D b->Q (.ref x) H'
noncomputable def qM:Sp:=fun vs H Q _=>Ex6 fun(v:V) (a:Addr) (m d:Option Int) (y:Option (Int×Int)) (D:Int)=>An5 (vs=[v,.ref a]) (PlH H (.date (sg "sun") m d y) v) ((PT.date (sg "sun") m d y).ok) (Dc K CS CM D H a) (Tl K CR CL D (.date (sg "sun") m d y) H Q)
noncomputable def qL:Sp:=fun vs H Q _=>Ex7 fun(w:PK) (x y:Addr) (n1 n2:Int) (b1 b2:Nat)=>An5 (vs=[.str w.s,.ref x,.ref y]) (DP K CR CL H x n1 b1) (DP K CR CL H y n2 b2) (Bx n1 n2<=150000) (∀z b H',Ax H H'->DP K CR CL H' z (Bx n1 n2) b->w.R n1 b1 n2 b2 (Bx n1 n2) b->Q (.ref z) H')
noncomputable def Q0(d:Nat):Sp:=fun vs H Q _=>Ex4 fun(v:V) (a:Addr) (p:PT) (D:Int)=>An9 (vs=[v,.ref a]) (PlH H p v) p.ok p.kn (p.deep<d) (1<=D) (Dc K CS CM D H a) (p.sz D<=150000) (Tl K CR CL D p H Q)
noncomputable def wL:Sp:=fun vs H Q _=>Ex3 fun(a:Addr) (p:PT) (D:Int)=>uf (vs=[.str (sW p.tx),.ref a]) p.ok p.kn (p.tx.length<=4000) (p.deep<=40) (p.lv+p.br<=200) (1<=D) (Dc K CS CM D H a) (p.sz D<=150000) (Tl K CR CL D p H Q)
end
theorem Xr{CR:Addr}{CL:List Addr}{CS CM:Addr}{vs:List V}{E:XK}(h:Q0 K CR CL CS CM 0 vs H Q E):False:=by
 obtain⟨v,a,p,D,_,_,_,_,h,_⟩:=h;lia
section
variable{K:Fr}{CR:Addr}{CL:List Addr}{C:Addr}{H:Hp}{y dy:Addr}{Q:VK}{E:XK}
theorem HQ(hy:H y=none)(hdy:H dy=none)(ne:dy≠y):Ax H (upd (upd H dy (.own y)) y o):=(Am hdy _).trans (Am (by rw[Aw (Ne.symm ne)];exact hy) _)
theorem Kz.go{n:Int}{G:Nat->Prop}(hy:H y=none)(hdy:H dy=none)(ne:dy≠y)(q:∀b H',Ax H H'->DP K CR CL H' y n b->G b->Q .non H'):Kz K CR CL C (upd (upd H dy (.own y)) y (.ins C dy [])) y Q n G:=
 ⟨⟨dy,Ah⟩,fun b H' k N g=>q b H' (VD hy hdy ne k) N g⟩
theorem ACZ{R:Rel}{r t:Addr}{n1 n2:Int}{b1 b2:Nat}(R1:DP K CR CL H r n1 b1)(R2:DP K CR CL H t n2 b2)(lz:Bx n1 n2<=150000)(hy:H y=none)(hdy:H dy=none)(ne:dy≠y)(q:∀b H',Ax H H'->DP K CR CL H' y (Bx n1 n2) b->R n1 b1 n2 b2 (Bx n1 n2) b->Q .non H'):Li K CR CL C R [.ref y,.ref r,.ref t] (upd (upd H dy (.own y)) y (.ins C dy [])) Q E:=
 ⟨y,r,t,n1,n2,b1,b2,rfl,R1.same (HQ hy hdy ne),R2.same (HQ hy hdy ne),lz,.go hy hdy ne q⟩
end
theorem ABI(w:PK):∀z∈["all","none","each","date","not","later","every","of"],Str.ofString w.s≠Str.ofString z:=by cases w<;>ac_rfl
theorem mZ{a b:Int}(h1:0<a)(h2:0<b):a<=Bx a b/\b<=Bx a b:=by
 have f:=Br h1 h2;exact⟨Int.le_of_dvd f.1 f.2.1,Int.le_of_dvd f.1 f.2.2.1⟩
theorem ABc(h:Sm i):Bt 200 i:=Nat.lt_trans h (by decide)
namespace PT
theorem tok_len:∀p:PT,p.tok.length<=10*(p.lv+p.br)
 | lf _=>by simp[tok,lv,br]
 | each .. =>by simp[tok,lv,br]
 | date _ _ _ none=>by simp[tok,yrW,lv,br]
 | date _ _ _ (some _)=>by simp[tok,yrW,lv,br]
 | no p=>by have:=tok_len p;simp[tok,lv,br];lia
 | la _ p=>by have:=tok_len p;simp[tok,lv,br];lia
 | ev _ p _=>by have:=tok_len p;simp[tok,lv,br];lia
 | nt _ p q=>by have:=tok_len p;have:=tok_len q;simp[tok,lv,br];lia
 | pr _ p q=>by have:=tok_len p;have:=tok_len q;simp[tok,lv,br];lia
theorem tok_ok{p:PT}(h:p.ok):∀w∈p.tok,TOk (sW w):=by
 have num:∀{n:Int},Sm n->TOk (sW (nW n)):=fun{n} h=>⟨Fi.mpr fun c hc=>by rw[Bg] at hc;have:=Ju h c hc;lia,by rw[Cr];have:=Df h;lia⟩;have str:∀{m:Option Int},okS m->TOk (sW (Fj m)):=fun{m} h=>by
  cases m with
  | none=>exact⟨by ac_rfl,by ac_rfl⟩
  | some i=>exact num (h i rfl)
 have all:∀{ws:List Wd} {w:Wd},TOk (sW w)->(∀x∈ws,TOk (sW x))->∀x∈w::ws,TOk (sW x):=fun h g x hx=>(qm.mp hx).elim (fun e=>e ▸ h) (g x);have app:∀{ws vs:List Wd},(∀x∈ws,TOk (sW x))->(∀x∈vs,TOk (sW x))->∀x∈ws++vs,TOk (sW x):=fun h g x hx=>(vx.mp hx).elim (h x) (g x);have nil:∀x∈([]:List Wd),TOk (sW x):=fun _ h=>nomatch h;have L:TOk (sW kL):=⟨by ac_rfl,by ac_rfl⟩;have R:TOk (sW kR):=⟨by ac_rfl,by ac_rfl⟩;have k1:TOk (sW (sg "each")):=⟨by ac_rfl,by ac_rfl⟩;have k2:TOk (sW (sg "from")):=⟨by ac_rfl,by ac_rfl⟩;have k3:TOk (sW (sg "of")):=⟨by ac_rfl,by ac_rfl⟩
 induction p with
 | lf b=>cases b<;>exact all ⟨by ac_rfl,by ac_rfl⟩ nil
 | each n r=>exact all k1 (all (num h.1) (all k2 (all (num h.2.1) nil)))
 | date nm m d y=>
  refine all ⟨by ac_rfl,by ac_rfl⟩ (all ⟨Fi.mpr fun c hc=>by rw[Bg] at hc;have:=h.1.ch c hc;lia,by rw[Cr];have:=h.1.hi;lia⟩ (all (str h.2.1) (all (str h.2.2.1) ?_)));cases y with
  | none=>exact nil
  | some y=>exact all k1 (all (num (h.2.2.2.1 y rfl).1) (all k2 (all (num (h.2.2.2.1 y rfl).2.1) nil)))
 | no p i=>exact all L (all ⟨by ac_rfl,by ac_rfl⟩ (app (i h) (all R nil)))
 | la k p i=>exact all L (all (num h.1) (all ⟨by ac_rfl,by ac_rfl⟩ (app (i h.2) (all R nil))))
 | ev k p d i=>exact all L (all ⟨by ac_rfl,by ac_rfl⟩ (all (num h.1) (all k3 (app (i h.2.2.1) (all k2 (all (num h.2.1) (all R nil)))))))
 | nt k p q i j=>exact all L (all (num h.1) (all k3 (app (i h.2.1) (all k2 (app (j h.2.2.1) (all R nil))))))
 | pr w p q i j=>
  have:TOk (sW (sg w.s)):=by cases w<;>exact⟨by ac_rfl,by ac_rfl⟩
  exact all L (app (i h.1) (all this (app (j h.2) (all R nil))))
end PT
theorem Ed{x:V}:atI (x::xs) 0=some x:=DX (j:=0) rfl
theorem G9{x:V}:atI (x::y::xs) 1=some y:=DX (j:=1) rfl
theorem KJ{x z:V}:atI (x::y::z::xs) 2=some z:=DX (j:=2) rfl
theorem uQ{x z u:V}:atI (x::y::z::u::xs) 3=some u:=DX (j:=3) rfl
theorem ACi{x z u v:V}:atI (x::y::z::u::v::xs) 4=some v:=DX (j:=4) rfl
theorem ACh{x z u v w:V}:atI (x::y::z::u::v::w::xs) 5=some w:=DX (j:=5) rfl
theorem Bo.on{f:Bool->Bool->Bool}{n1 n2 z:Int}{b1 b2:Nat}(B:Bo f n1 b1 n2 b2 z c)(h1:0<n1)(h2:0<n2)(hz:0<z)(d1:n1∣z)(d2:n2∣z)(d:Int):On z c d=f (On n1 b1 d) (On n2 b2 d):=by
 have k1:=qg d (show z≠0 by lia);have k2:=qc d hz;have m:∀n:Int,0<n->n∣z->(d%z).toNat%n.toNat=(d%n).toNat:=fun n hn hd=>by
  have e:(d%z)%n=d%n:=ja1 d hd;have h3:=qg d (show n≠0 by lia);have k:(((d%z).toNat%n.toNat:Nat):Int)=d%z%n:=by
   rw[Qb];have a1:((d%z).toNat:Int)=d%z:=by lia
   have a2:(n.toNat:Int)=n:=by lia
   rw[a1,a2]
  rw[e] at k;lia
 unfold On;rw[B.bit _ (by lia),m n1 h1 d1,m n2 h2 d2]
noncomputable def Rnd(M:Nat)(H:Hp)(p:Addr)(n b:Nat):Prop:=0<n/\n<=M/\b<2^n/\H p=some (.tup [.int (n:Int),.int (b:Int)])
theorem Rnd.keep{M:Nat}{n:Nat}(h:Rnd M H p n b)(s:Ax H H'):Rnd M H' p n b:=⟨h.1,h.2.1,h.2.2.1,s _ _ h.2.2.2⟩
theorem Rnd.sq{M:Nat}{n:Nat}(h:Rnd M H p n b):SqT K H p [.int (n:Int),.int (b:Int)]:=SqT.of h.2.2.2
theorem Rnd.lt{M:Nat}{n:Nat}(h:Rnd M H p n b):b<2^((n:Int)).toNat:=by rw[zk];exact h.2.2.1
theorem Rnd.n0{M:Nat}{n:Nat}(h:Rnd M H p n b):(0:Int)<(n:Int):=by have:=h.1;lia
theorem Rnd.mono{M N:Nat}{n:Nat}(h:Rnd M H p n b)(l:M<=N):Rnd N H p n b:=⟨h.1,by have:=h.2.1;lia,h.2.2.1,h.2.2.2⟩
theorem Rnd.new{M:Nat}{n:Nat}(hn:0<n)(hM:n<=M)(hb:b<2^n):Rnd M (upd H p (.tup [.int (n:Int),.int (b:Int)])) p n b:=⟨hn,hM,hb,Ah⟩
theorem oF{a:Nat}:decide (V.int (a:Int)=V.int 0)=decide (a=0):=by
 rw[vv,decide_eq_true_eq,decide_eq_true_eq,V.int.injEq];lia
structure Fo(n:Int)(b:Nat)(z:Int)(c:Nat):Prop where
 lt:c<2^z.toNat
 bit:∀r,r<z.toNat->(c.testBit r=true<->∃k,r+k*z.toNat<n.toNat/\b.testBit (r+k*z.toNat)=true)
noncomputable def kI(K:Fr):Sp:=fun vs H Q _=>Ex4 fun(a:Addr) (n z:Int) (b:Nat)=>An8 (vs=[.ref a,.int z]) (SqT K H a [.int n,.int (b:Int)]) (0<n) (n<=150000) (b<2^n.toNat) (0<z) (z∣n) (∀(p:Addr) (c:Nat),H p=none->Fo n b z c->Q (.ref p) (upd H p (.tup [.int z,.int (c:Int)])))
structure Rst(n:Nat)(h:Nat->Bool)(z c:Nat):Prop where
 lt:c<2^z
 bit:∀r,r<z->(c.testBit r=true<->∃i,i<n/\h i=true/\i%z=r)
theorem Fo.rst{n z:Nat}(F:Fo (n:Int) b (z:Int) c)(z0:0<z):Rst n b.testBit z c:=by
 have hl:=F.lt;have hb:=F.bit;rw[zk] at hl hb;rw[zk] at hb;refine⟨hl,fun r hr=>(hb r hr).trans ⟨?_,?_⟩⟩
 ·rintro⟨k,h1,h2⟩;exact⟨r+k*z,h1,h2,by rw[Nat.add_mul_mod_self_right,jc3 hr]⟩
 ·rintro⟨i,h1,h2,h3⟩;have e:=Nat.mod_add_div i z;rw[h3,Nat.mul_comm] at e;exact⟨i/z,by rw[e];exact h1,by rw[e];exact h2⟩
noncomputable def wQ(K:Fr):Sp:=fun vs H Q _=>Ex4 fun(a:Addr) (n d:Int) (b:Nat)=>An8 (vs=[.ref a,.int d]) (SqT K H a [.int n,.int (b:Int)]) (0<n) (n<=150000) (b<2^n.toNat) (Bt 200 d) ((∀e,On n b e=false)->∀H',Ax H H'->Q .non H') (∀(r:Int) (H':Hp),Ax H H'->d<=r->On n b r=true->(∀e,d<=e->e<r->On n b e=false)->Q (.int r) H')
noncomputable def j6:Sp:=fun vs H Q _=>∃n:Nat,An4 (vs=[.int (n:Int)]) (0<n) (n<=150000) (∀(lp:Addr) (H':Hp) (ps:List Nat),H lp=none->Ax H H'->H' lp=some (.lst (ps.map fun(p:Nat)=>V.int (p:Int)))->o7 n ps->ps.length<=200000->Q (.ref lp) H')
noncomputable def qZ(K:Fr):Sp:=fun vs H Q _=>Ex4 fun(a:Addr) (z c s:Nat)=>An6 (vs=[.ref a,.int (s:Int)]) (SqT K H a [.int (z:Int),.int (c:Int)]) (0<s) (s<=z) (z<=150000) (Q (.bl (decide (c >>> s=c &&& (2^(z-s)-1)))) H)
noncomputable def j8(K:Fr):Sp:=fun vs H Q _=>Ex3 fun(a:Addr) (n b:Nat)=>An6 (vs=[.ref a]) (SqT K H a [.int (n:Int),.int (b:Int)]) (0<n) (n<=150000) (b<2^n) (∀(p:Addr) (H':Hp) (z c:Nat),Ax H H'->H' p=some (.tup [.int (z:Int),.int (c:Int)])->Lst n b z c->Q (.ref p) H')
theorem take_snoc{α:Type}{xs:List α}{i:Nat}{x:α}(h:xs[i]?=some x){y:α}(hy:y∈xs.take (i+1)):y∈xs.take i\/y=x:=by
 rw[ja0,h] at hy;rcases vx.mp hy with z | z
 ·exact .inl z
 ·exact .inr (by simpa using z)
structure Prt(n b m c:Nat)(d e:Int):Prop where
 ge:d<=e
 lt:e<d+((n:Int)+(m:Int)-(Int.gcd (n:Int) (m:Int):Int))
 ne:On (n:Int) b e≠On (m:Int) c e
 eq:∀x,d<=x->x<e->On (n:Int) b x=On (m:Int) c x
noncomputable def kJ:Sp:=fun vs H Q _=>Ex7 fun(a1 a2:Addr) (n b m c:Nat) (d:Int)=>An5 (vs=[.ref a1,.ref a2,.int d]) (Rnd 70000 H a1 n b) (Rnd 70000 H a2 m c) (¬∀e,On (n:Int) b e=On (m:Int) c e) (∀(e:Int) (H':Hp),Ax H H'->Prt n b m c d e->Q (.int e) H')
inductive Sme(H:Hp)(p:Addr)(n b m c:Nat)(d:Int):Prop
 | same (t:Addr) (z x:Nat):H p=some (.tup [.str "same",.ref t])->H t=some (.tup [.int (z:Int),.int (x:Int)])->Lst n b z x->Lst m c z x->Sme H p n b m c d
 | parted (e:Int):H p=some (.tup [.str "parted",.int e])->Prt n b m c d e->Sme H p n b m c d
noncomputable def wJ:Sp:=fun vs H Q _=>Ex7 fun(a1 a2:Addr) (n b m c:Nat) (d:Int)=>An4 (vs=[.ref a1,.ref a2,.int d]) (Rnd 70000 H a1 n b) (Rnd 70000 H a2 m c) (∀(p:Addr) (H':Hp),Ax H H'->Sme H' p n b m c d->Q (.ref p) H')
noncomputable def Few(n b m c:Nat):Prop:=Bx (n:Int) (m:Int)<=150000
noncomputable def wg:Sp:=fun vs H Q _=>Ex7 fun(a1 a2:Addr) (n b m c:Nat) (d:Int)=>An7 (vs=[.ref a1,.ref a2,.int d]) (Rnd 150000 H a1 n b) (Rnd 150000 H a2 m c) (Bt 200 d) (Few n b m c) (Meets n b m c) (∀(e:Int) (H':Hp),Ax H H'->Fst n b m c d e->Q (.int e) H')
inductive Mtg(w0 w1:Str)(H:Hp)(p:Addr)(n b m c:Nat)(d:Int):Prop
 | never (x y:Nat):H p=some (.tup [.str w0,.int ((Nat.gcd n m:Nat):Int),.int (x:Int),.int (y:Int)])->Rst n b.testBit (Nat.gcd n m) x->Rst m c.testBit (Nat.gcd n m) y->x &&& y=0->¬Meets n b m c->Mtg w0 w1 H p n b m c d
 | meet (e:Int):H p=some (.tup [.str w1,.int e])->Fst n b m c d e->Meets n b m c->Mtg w0 w1 H p n b m c d
noncomputable def fU:Sp:=fun vs H Q _=>ABw fun(aw a1 a2:Addr) (w0 w1:Str) (n b m c:Nat) (d:Int)=>An7 (vs=[.ref aw,.ref a1,.ref a2,.int d]) (H aw=some (.tup [.str w0,.str w1])) (Rnd 150000 H a1 n b) (Rnd 150000 H a2 m c) (Bt 200 d) (Meets n b m c->Few n b m c) (∀(p:Addr) (H':Hp),Ax H H'->Mtg w0 w1 H' p n b m c d->Q (.ref p) H')
noncomputable def fV:Sp:=fun vs H Q _=>Ex7 fun(a1 a2:Addr) (n b m c:Nat) (d:Int)=>An6 (vs=[.ref a1,.ref a2,.int d]) (Rnd 150000 H a1 n b) (Rnd 150000 H a2 m c) (Bt 200 d) (Meets n b m c->Few n b m c) (∀(p:Addr) (H':Hp),Ax H H'->Mtg "never" "meet" H' p n b m c d->Q (.ref p) H')
theorem Rst.meets{n x y:Nat}(n0:0<n)(m0:0<m)(R1:Rst n b.testBit (Nat.gcd n m) x)(R2:Rst m c.testBit (Nat.gcd n m) y):x &&& y=0<->¬Meets n b m c:=by
 have g0:0<Nat.gcd n m:=jb9 m n0;constructor
 ·rintro e ⟨i,j,hi,hj,hb,hc,ej⟩;have a1:=(R1.bit (i%Nat.gcd n m) (ji6 _ g0)).mpr ⟨i,hi,hb,rfl⟩;have a2:=(R2.bit (i%Nat.gcd n m) (ji6 _ g0)).mpr ⟨j,hj,hc,ej.symm⟩;have:(x &&& y).testBit (i%Nat.gcd n m)=true:=by rw[Qr,a1,a2];rfl
  rw[e,jb0] at this;cases this
 ·intro h;refine vb fun r=>?_;rw[jb0,Qr];cases e1:x.testBit r with
  | false=>rfl
  | true=>
   cases e2:y.testBit r with
   | false=>rfl
   | true=>
    exfalso;have hr:r<Nat.gcd n m:=by
     refine jd8 fun q=>?_;rw[high R1.lt q] at e1;cases e1
    obtain⟨i,hi,hb,ei⟩:=(R1.bit r hr).mp e1;obtain⟨j,hj,hc,ej⟩:=(R2.bit r hr).mp e2;exact h ⟨i,j,hi,hj,hb,hc,by lia⟩
structure Cmp(m c co:Nat):Prop where
 lt:co<2^m
 bit:∀i,i<m->co.testBit i=!c.testBit i
theorem Cmp.on{co:Nat}(h:Cmp m c co)(m0:0<m)(e:Int):On (m:Int) co e=!On (m:Int) c e:=by
 have k3:=qg e (show (m:Int)≠0 by lia);have k4:=qc e (show (0:Int)<(m:Int) by lia);unfold On;exact h.bit _ (by lia)
noncomputable def fK:Sp:=fun vs H Q _=>Ex7 fun(a1 a2:Addr) (n b m c:Nat) (d:Int)=>An6 (vs=[.ref a1,.ref a2,.int d]) (Rnd 150000 H a1 n b) (Rnd 150000 H a2 m c) (Bt 200 d) (∀co,Cmp m c co->Meets n b m co->Few n b m co) (∀(p:Addr) (co:Nat) (H':Hp),Ax H H'->Cmp m c co->Mtg "within" "outside" H' p n b m co d->Q (.ref p) H')
noncomputable def tmW(a b:Int):Wd:=43::Gn 44 ([a,b,2].map nW)
noncomputable def Vu(s f g a b:Int):List Wd:=[nW s,Gn 44 ([f,g].map nW),sg "leap",nW 2,tmW a b]
noncomputable def Sd(s f g a b:Int):List Wd:=sg "sun"::Vu s f g a b
structure Ok9(s f g a b:Int):Prop where
 s:Sm s
 f0:1<=f
 f1:f<=6
 g0:1<=g
 g1:g<=6
 a0:0<=a
 a1:a<=2
 b0:0<=b
 b1:b<=1
variable{g:Int}
theorem Ok9.tm{s f a b:Int}(o:Ok9 s f g a b):OkT (1,a,b,2):=⟨.inl rfl,(by show(1:Int)<=2;decide),(by show(2:Int)<=1000;decide),o.a0,o.a1,o.b0,by have:=o.b1;show b<2;lia⟩
theorem Ok9.gd{s f a b:Int}(o:Ok9 s f g a b):Je [f,g] 2 [(1,a,b,2)]:=by
 have:=o.f0;have:=o.f1;have:=o.g0;have:=o.g1;have e:falls [((1,a,b,2):Tm)]=0:=rfl;refine⟨(by show 1<=2;decide),(by show 2<=20;decide),fun n hn=>?_,by decide,(by show(2:Int)<=2;decide),?_,?_,fun t ht=>by rw[vj.mp ht];exact o.tm,(by show 1<=6;decide)⟩
 ·rcases qm.mp hn with e | e
  ·lia
  ·rw[vj.mp e];lia
 ·rw[e];show 0<=g;lia
 ·rw[e];show 0<f+(g+0);lia
theorem Ok9.cal{CS CM:Addr}{s f a b:Int}(o:Ok9 s f g a b)(S:Ld K CS CM H x s [f,g] 2 [(1,a,b,2)]):KR K CS CM H x (2*(f+g)+a):=by
 have:=o.f0;have:=o.f1;have:=o.g0;have:=o.g1;have:=o.a0;have:=o.a1;have:=o.b0;have:=o.b1;refine⟨⟨s,_,_,_,S,(by show Bx 1 2=2;ac_rfl),?_⟩,by lia,by lia⟩;show(f+(g+0))*2+(1*((a*2+b)/2)+0)=_;lia
noncomputable def wvS(ws:List Wd):List V:=ws.map fun w=>.str (sW w)
theorem Kc(xs:List V)(k:Nat):J5 xs (some (k:Int)) none=xs.drop k:=by
 unfold J5;rw[HT.sIx_nat,HT.sIx_none];by_cases h:k<=xs.length
 ·rw[Nat.min_eq_left h,yy (by rw[ja8];exact qh _)]
 ·rw[Nat.min_eq_right (by lia),uk (qh _),uk (by lia),List.take_nil]
theorem sn(h:¬(c=45\/48<=c/\c<=57)){i:Int}(g:Sm i):c∉nW i:=fun z=>h (Ju g c z)
theorem aa{ns:List Int}(hn:ns≠[])(h:∀n∈ns,Sm n):(K3 44 (sW (Gn 44 (ns.map nW)))).map V.str=ns.map fun n=>V.str (sW (nW n)):=by
 cases ns with
 | nil=>exact absurd rfl hn
 | cons n r=>
  rw[show K3 44 (sW (Gn 44 ((n::r).map nW)))=(spl 44 (cpl (sW (Gn 44 ((n::r).map nW))))).map sW from rfl,xk,Bg,U3 44 _ _ fun x hx=>by
   obtain⟨i,hi,rfl⟩:=yk.mp (show x∈(n::r).map nW from hx);exact sn (by decide) (h i hi)]
  simp
theorem VJ(c k:Nat):∀{ws:List (List Nat)},(∀w∈ws,w.length<=k)->(Gn c ws).length<=ws.length*(k+1)
 | [],_=>ka _
 | [w],h=>by
  have:=h w qk;show(w++[]).length<=1*(k+1);rw[ya];lia
 | w::y::ws,h=>by
  have a:=h w qk;have b:=VJ c k (ws:=y::ws) fun x hx=>h x (qr _ hx);rw[Rk,qf,qq,qq (as:=y::ws),Nat.succ_mul];lia
theorem Mf{ns:List Int}(h:∀n∈ns,Sm n):(Gn 44 (ns.map nW)).length<=ns.length*42:=by
 have:=VJ 44 41 (ws:=ns.map nW) fun w hw=>by
  obtain⟨n,hn,rfl⟩:=yk.mp hw;exact Df (h n hn)
 rwa [jp] at this
theorem my{P:Nat->Prop}(hc:P c):∀{ws:List (List Nat)},(∀w∈ws,∀a∈w,P a)->∀a∈Gn c ws,P a
 | [],_,a,ha=>by cases ha
 | w::ws,h,a,ha=>by
  rcases vx.mp ha with z | z
  ·exact h w qk a z
  ·obtain⟨x,hx,hz⟩:=List.mem_flatten.mp z;obtain⟨y,hy,rfl⟩:=yk.mp hx;rcases qm.mp hz with e | e
   ·rw[e];exact hc
   ·exact h y (qr _ hy) a e
theorem sJ(h:Sm i):TOk (sW (nW i)):=⟨Fi.mpr fun c hc=>by rw[Bg] at hc;have:=Ju h c hc;lia,by rw[Cr];have:=Df h;lia⟩
noncomputable def wch(c:Nat):Prop:=43<=c/\c<=122
theorem dN{ns:List Int}(h:∀n∈ns,Sm n):∀c∈Gn 44 (ns.map nW),wch c:=my (by unfold wch;lia) fun w hw c hc=>by
 obtain⟨n,hn,rfl⟩:=yk.mp hw;have:=Ju (h n hn) c hc;unfold wch;lia
theorem sm1(h1:0<=i)(h2:i<=60):Sm i:=Eh (by lia) (by lia)
theorem Ok9.t3{s f a b:Int}(o:Ok9 s f g a b):∀n∈[a,b,2],Sm n:=fun n hn=>by
 have:=o.a0;have:=o.a1;have:=o.b0;have:=o.b1;simp only[qm,yb,or_false] at hn;exact sm1 (by lia) (by lia)
theorem Ok9.t2{s f a b:Int}(o:Ok9 s f g a b):∀n∈[f,g],Sm n:=fun n hn=>by
 have:=o.f0;have:=o.f1;have:=o.g0;have:=o.g1;simp only[qm,yb,or_false] at hn;exact sm1 (by lia) (by lia)
theorem Ok9.ch{s f a b:Int}(o:Ok9 s f g a b):∀w∈Sd s f g a b,w.length<=200/\∀c∈w,wch c:=fun w hw=>by
 have num:∀{i:Int},Sm i->(nW i).length<=200/\∀c∈nW i,wch c:=fun h=>⟨by have:=Df h;lia,fun c hc=>by have:=Ju h c hc;unfold wch;lia⟩;simp only[Sd,Vu,qm,yb,or_false] at hw;rcases hw with rfl | rfl | rfl | rfl | rfl | rfl
 ·exact⟨by ac_rfl,by unfold wch;ac_rfl⟩
 ·exact num o.s
 ·exact⟨zv (Mf o.t2) (by show 2*42<=200;decide),dN o.t2⟩
 ·exact⟨by ac_rfl,by unfold wch;ac_rfl⟩
 ·exact num (sm1 (by decide) (by decide))
 ·refine⟨by have:=Mf o.t3;show _+1<=_;simp only[qq,jg3] at this;lia,fun c hc=>?_⟩;rcases qm.mp hc with e | e
  ·unfold wch;lia
  ·exact dN o.t3 c e
noncomputable def Y7(s f g a b:Int):Wd:=jn (Sd s f g a b)
theorem Ok9.tx{s f a b:Int}(o:Ok9 s f g a b):spl 32 (Y7 s f g a b)=Sd s f g a b/\(Y7 s f g a b).length<=2000/\TOk (sW (Y7 s f g a b)):=by
 have h:=o.ch;have l:(Y7 s f g a b).length<=2000:=by
  have e:Y7 s f g a b=sg "sun"++32::(nW s++32::(Gn 44 ([f,g].map nW)++32::(sg "leap"++32::(nW 2++32::tmW a b)))):=rfl;have h1:=(h (nW s) (by simp[Sd,Vu])).1;have h2:=(h (Gn 44 ([f,g].map nW)) (by simp[Sd,Vu])).1;have h3:=(h (nW 2) (by simp[Sd,Vu])).1;have h4:=(h (tmW a b) (by simp[Sd,Vu])).1;have h5:(sg "sun").length=3:=by ac_rfl
  have h6:(sg "leap").length=4:=by ac_rfl
  rw[e];simp only[qf,qq];lia
 refine⟨Z3 (by simp[Sd]) fun w hw z=>by have:=(h w hw).2 32 z;unfold wch at this;lia,l,Fi.mpr fun c hc=>?_,by rw[Cr];lia⟩;rw[Bg] at hc;by_cases e:c=32
 ·lia
 ·obtain⟨w,hw,m⟩:=W2 e hc;have:=(h w hw).2 c m;unfold wch at this;lia
noncomputable def j4:Sp:=fun vs H Q _=>∃i:Int,An3 (vs=[.str (sW (nW i))]) (Sm i) (∀H',Ax H H'->Q (.int i) H')
noncomputable def fQ:Sp:=fun vs H Q _=>∃ns:List Int,An5 (vs=[.str (sW (Gn 44 (ns.map nW)))]) (ns≠[]) (ns.length<=3) (∀n∈ns,Sm n) (∀(l:Addr) H',H l=none->Ax H H'->H' l=some (.lst (ns.map V.int))->Q (.ref l) H')
noncomputable def jy:Sp:=fun vs H Q _=>Ex2 fun(a b:Int)=>An3 (vs=[.str (sW (tmW a b))]) (∀n∈[a,b,2],Sm n) (∀(p:Addr) H',Ax H H'->H' p=some (.tup (tmV (1,a,b,2)))->Q (.ref p) H')
noncomputable def fP:Sp:=fun vs H Q _=>Ex3 fun(l:Addr) (a b:Int)=>An4 (vs=[.ref l]) (H l=some (.lst (wvS [tmW a b]))) (∀n∈[a,b,2],Sm n) (∀(l' p:Addr) H',Ax H H'->H' l'=some (.lst [.ref p])->H' p=some (.tup (tmV (1,a,b,2)))->Q (.ref l') H')
noncomputable def jz(K:Fr)(CS CM:Addr):Sp:=fun vs H Q _=>Ex6 fun(l:Addr) (s f g a b:Int)=>An4 (vs=[.ref l]) (H l=some (.lst (wvS (Vu s f g a b)))) (Ok9 s f g a b) (∀(x:Addr) H',Ax H H'->KR K CS CM H' x (2*(f+g)+a)->Q (.ref x) H')
noncomputable def j5(K:Fr)(CS CM:Addr):Sp:=fun vs H Q _=>Ex5 fun(s f g a b:Int)=>An3 (vs=[.str (sW (Y7 s f g a b))]) (Ok9 s f g a b) (∀(x:Addr) H',Ax H H'->KR K CS CM H' x (2*(f+g)+a)->Q (.ref x) H')
noncomputable def Kd(H H':Hp):Prop:=∀y o,(∀kv,o≠.dK kv)->H y=some o->H' y=some o
section
variable{K:Fr}{CS CM CR C x:Addr}{CL:List Addr}{H H' H2:Hp}
theorem Kd.of(s:Ax H H'):Kd H H':=fun y o _ h=>s y o h
theorem Kd.trans(a:Kd H H')(b:Kd H' H2):Kd H H2:=fun y o n h=>b y o n (a y o n h)
theorem Kd.put{kv kv':List (Key×V)}(h:H a=some (.dK kv)):Kd H (upd H a (.dK kv')):=fun y o n e=>by
 rw[Aw fun z=>by rw[z,h] at e;exact n kv (ki e).symm];exact e
theorem Kd.ins(k:Kd H H'){d:Addr}{fs:List (Str×V)}(h:H x=some (.ins C d fs)):H' x=some (.ins C d fs):=k _ _ (fun _ z=>nomatch z) h
theorem Kd.tup(k:Kd H H'){xs:List V}(h:H x=some (.tup xs)):H' x=some (.tup xs):=k _ _ (fun _ z=>nomatch z) h
theorem Kd.lst(k:Kd H H'){xs:List V}(h:H x=some (.lst xs)):H' x=some (.lst xs):=k _ _ (fun _ z=>nomatch z) h
theorem SqT.kd(k:Kd H H'){xs:List V}(h:SqT K H x xs):SqT K H' x xs:=by
 rcases h with (h | ⟨o,h⟩) | h
 ·exact .inl (.inl (k.tup h))
 ·exact .inl (.inr ⟨o,k _ _ (fun _ z=>nomatch z) h⟩)
 ·exact .inr h
theorem Tms.kd(k:Kd H H'):∀{vs:List V} {ts:List Tm},Tms H vs ts->Tms H' vs ts
 | _,_,.nil=>.nil
 | _,_,.cons h t=>.cons (k.tup h) (Tms.kd k t)
theorem KR.kd(k:Kd H H'){D:Int}(S:KR K CS CM H x D):KR K CS CM H' x D:=by
 obtain⟨⟨s,ls,lp,ts,⟨⟨dx,p,y,h1,h2,⟨⟨dy,q,h3,⟨⟨vs,h4,h5⟩,h6,h7⟩⟩,h8,h9⟩⟩,h10,h11⟩,h12⟩,d0,d1⟩:=S;exact⟨⟨s,ls,lp,ts,⟨⟨dx,p,y,k.ins h1,SqT.kd k h2,⟨⟨dy,q,k.ins h3,⟨⟨vs,SqT.kd k h4,h5.kd k⟩,h6,h7⟩⟩,h8,h9⟩⟩,h10,h11⟩,h12⟩,d0,d1⟩
theorem DP.kd(k:Kd H H'){n:Int}{b:Nat}(R:DP K CR CL H x n b):DP K CR CL H' x n b:=by
 obtain⟨⟨C,dx,p,pm,pw,h1,h2,h3,h4⟩,n0,n1,lt⟩:=R;exact⟨⟨C,dx,p,pm,pw,h1,h2,k.ins h3,k.tup h4⟩,n0,n1,lt⟩
end
structure Cs where
 (D S M R:Addr) (L:List Addr)
noncomputable def ud(K:Fr)(cs:Cs)(H:Hp)(a:Addr):Option Int->Prop
 | none=>H a=some (.dK [])
 | some D=>Dc K cs.S cs.M D H a
structure Dk(K:Fr)(cs:Cs)(H:Hp)(x:Addr)(c:Option Int)(j:Nat)(m:Wd->Option (Nat×Nat)):Prop where
 ex:∃dx a r kv,H x=some (.ins cs.D dx [("calendars",.ref a),("rules",.ref r)])/\ud K cs H a c/\H r=some (.dK kv)/\kv.length<=j/\r≠a/\∀nm n b,m nm=some (n,b)->∃y,Fp kv (.inr (sW nm))=some (.ref y)/\DP K cs.R cs.L H y (n:Int) b
noncomputable def setM(m:Wd->Option (Nat×Nat))(nm:Wd)(v:Nat×Nat):Wd->Option (Nat×Nat):=fun k=>if k=nm then some v else m k
section
variable{K:Fr}{cs:Cs}{H H':Hp}{x:Addr}{c:Option Int}{j:Nat}{m:Wd->Option (Nat×Nat)}
theorem ud.same(C:ud K cs H a c)(s:Ax H H'):ud K cs H' a c:=by
 cases c with
 | none=>exact s _ _ C
 | some D=>exact Dc.same C s
theorem Dk.same(d:Dk K cs H x c j m)(s:Ax H H'):Dk K cs H' x c j m:=by
 obtain⟨dx,a,r,kv,h1,h2,h3,h4,h5,h6⟩:=d.ex;exact⟨dx,a,r,kv,s _ _ h1,h2.same s,s _ _ h3,h4,h5,fun nm n b e=>by
  obtain⟨y,g1,g2⟩:=h6 nm n b e;exact⟨y,g1,g2.same s⟩⟩
end
inductive Wk where
 | nm (w:Wd) | tx (w:Wd) | ru (w:Wd) | nu (i:Int)
noncomputable def Wk.k:Wk->Str | .nm _=>"NAME" | .tx _=>"TEXT" | .ru _=>"RULE" | .nu _=>"NUMBER"
noncomputable def Wk.w:Wk->Wd | .nm w=>w | .tx w=>w | .ru w=>w | .nu i=>nW i
noncomputable def Wk.ok:Wk->Prop
 | .nm w=>HB w
 | .tx w=>w.length<=4000/\∀c∈w,c<128
 | .ru w=>HB w
 | .nu i=>Sm i
inductive Row where
 | cal (s f g a b:Int) | rule (nm:Wd) (p:PT) | on (nm:Wd) (d:Int) | size (nm:Wd) | same (a b:Wd) (d:Int) | meet (a b:Wd) (d:Int) | within (a b:Wd) (d:Int)
noncomputable def Row.ws:Row->List Wk
 | .cal s f g a b=>[.nm (sg "sun"),.tx (Y7 s f g a b)]
 | .rule nm p=>[.nm nm,.tx p.tx]
 | .on nm d=>[.ru nm,.nu d]
 | .size nm=>[.ru nm]
 | .same a b d=>[.ru a,.ru b,.nu d]
 | .meet a b d=>[.ru a,.ru b,.nu d]
 | .within a b d=>[.ru a,.ru b,.nu d]
noncomputable def Row.hd:Row->Str | .cal .. =>"calendar" | .rule .. =>"rule" | .on .. =>"on" | .size .. =>"size" | .same .. =>"same" | .meet .. =>"meet" | .within .. =>"within"
noncomputable def Row.fi:Row->Nat | .cal .. =>0 | .rule .. =>2 | .on .. =>6 | .size .. =>11 | .same .. =>12 | .meet .. =>13 | .within .. =>14
noncomputable def Row.ok(R:Row):Prop:=∀w∈R.ws,w.ok
noncomputable def Row.T(R:Row):Wd:=jn (cpl R.hd::R.ws.map Wk.w)
noncomputable def wkV(ws:List Wk):List V:=ws.map fun w=>.str (sW w.w)
noncomputable def bK(t:Nat->Addr):List (Key×V):=[(.inr "calendar",.ref (t 0)),(.inr "change",.ref (t 1)),(.inr "rule",.ref (t 2)),(.inr "date",.ref (t 3)),(.inr "day",.ref (t 4)),(.inr "move",.ref (t 5)),(.inr "on",.ref (t 6)),(.inr "next",.ref (t 7)),(.inr "last",.ref (t 8)),(.inr "nth",.ref (t 9)),(.inr "count",.ref (t 10)),(.inr "size",.ref (t 11)),(.inr "same",.ref (t 12)),(.inr "meet",.ref (t 13)),(.inr "within",.ref (t 14)),(.inr "shorter",.ref (t 15)),(.inr "show",.ref (t 16)),(.inr "almanac",.ref (t 17))]
structure pD(P:Program)(w:World)(K:Fr)(mg:Str->Option Value)(a:Addr)(t:Nat->Addr):Prop where
 m:mg "FORMS"=some (.ref a)
 d:KD P w K a (bK t)
 s:∀(R:Row) (H:Hp),SqT K H (t R.fi) (R.ws.map fun w=>V.str w.k)
theorem Rn(t:Nat->Addr)(R:Row):Fp (bK t) (.inr R.hd)=some (.ref (t R.fi)):=by cases R<;>rfl
noncomputable def ACj(t:Nat->Addr):List (Key×V):=[(.inr "date",.ref (t 0)),(.inr "day",.ref (t 1)),(.inr "move",.ref (t 2)),(.inr "on",.ref (t 3)),(.inr "next",.ref (t 4)),(.inr "last",.ref (t 5)),(.inr "nth",.ref (t 6)),(.inr "count",.ref (t 7)),(.inr "size",.ref (t 8)),(.inr "same",.ref (t 9)),(.inr "meet",.ref (t 10)),(.inr "within",.ref (t 11)),(.inr "shorter",.ref (t 12)),(.inr "show",.ref (t 13)),(.inr "almanac",.ref (t 14))]
structure ACv(P:Program)(w:World)(K:Fr)(mg:Str->Option Value)(a:Addr)(t:Nat->Addr):Prop where
 m:mg "ANSWERS"=some (.ref a)
 d:KD P w K a (ACj t)
 g3:mg "tell_on"=some (.ref (t 3))
 g8:mg "tell_size"=some (.ref (t 8))
 g9:mg "tell_same"=some (.ref (t 9))
 g10:mg "tell_meet"=some (.ref (t 10))
 g11:mg "tell_within"=some (.ref (t 11))
theorem HB.wc{w:Wd}(h:HB w):w≠[]/\∀c∈w,wch c:=⟨fun z=>by have:=h.lo;rw[z] at this;exact absurd this (by decide),fun c hc=>by have:=h.ch c hc;unfold wch;lia⟩
theorem Wk.box{k:Wk}(h:k.ok):(∀a∈k.w,a<128)/\k.w.length<=4000/\((∀d,k≠.tx d)->32∉k.w):=by
 have fin:(∀a∈k.w,wch a)->k.w.length<=4000->(∀a∈k.w,a<128)/\k.w.length<=4000/\((∀d,k≠.tx d)->32∉k.w):=fun c l=>⟨fun a ha=>by have:=c a ha;unfold wch at this;lia,l,fun _ z=>by have:=c 32 z;unfold wch at this;lia⟩;cases k with
 | nm n=>exact fin (HB.wc h).2 (by have:=HB.hi h;show n.length<=_;lia)
 | ru n=>exact fin (HB.wc h).2 (by have:=HB.hi h;show n.length<=_;lia)
 | nu i=>exact fin (fun a ha=>by have:=Ju h a ha;unfold wch;lia) (zv (Df h) (by decide))
 | tx d=>exact⟨h.2,h.1,fun z=>absurd rfl (z d)⟩
theorem W5(R:Row):(∀a∈cpl R.hd,a<128/\a≠32)/\(cpl R.hd).length<=10:=by
 have all:∀z∈(["calendar","rule","on","size","same","meet","within"]:List Str),(∀a∈cpl z,a<128/\a≠32)/\(cpl z).length<=10:=by ac_rfl
 cases R<;>exact all _ (by walk_at"mm")
theorem mz:∀(ws:List Wd),(∀w∈ws,w.length<=4000)->(jn ws).length<=ws.length*4001
 | [],_=>ka _
 | [w],h=>by have:=h w qk;show w.length<=1*4001;lia
 | w::y::r,h=>by
  have:=mz (y::r) fun x hx=>h x (qr _ hx);have:=h w qk;rw[JM (by simp),qf,qq,qq (as:=y::r),Nat.succ_mul];lia
theorem Row.tok{R:Row}(h:R.ok):TOk (sW R.T):=by
 have hb:=W5 R;have l:R.T.length<=4*4001:=by
  have:=mz (cpl R.hd::R.ws.map Wk.w) fun w hw=>by
   rcases qm.mp hw with e | e
   ·rw[e];lia
   ·obtain⟨k,hk,rfl⟩:=yk.mp e;exact(Wk.box (h k hk)).2.1
  have e:(cpl R.hd::R.ws.map Wk.w).length<=4:=by cases R<;>simp[Row.ws]
  exact zv this (Nat.mul_le_mul_right _ e)
 refine⟨Fi.mpr fun c hc=>?_,by rw[Cr];lia⟩;rw[Bg] at hc;by_cases e:c=32
 ·lia
 ·obtain⟨w,hw,m⟩:=W2 e hc;rcases qm.mp hw with e | e
  ·rw[e] at m;exact(hb.1 c m).1
  ·obtain⟨k,hk,rfl⟩:=yk.mp e;exact(Wk.box (h k hk)).1 c m
theorem Row.few(R:Row):1<=R.ws.length/\R.ws.length<=3:=by cases R<;>exact⟨by simp[Row.ws],by simp[Row.ws]⟩
theorem Row.head(R:Row):∃r,spl 32 R.T=cpl R.hd::r:=by
 have e:R.T=cpl R.hd++32::jn (R.ws.map Wk.w):=JM (by have:=R.few.1;intro z;rw[List.map_eq_nil_iff.mp z] at this;exact absurd this (by decide));exact⟨_,by rw[e,Qi 32 _ _ fun z=>((W5 R).1 32 z).2 rfl]⟩
theorem Row.kind{R:Row}(h:R.ok):(∃nm w,HB nm/\R.ws=[.nm nm,.tx w])\/(spl 32 R.T=cpl R.hd::R.ws.map Wk.w/\∃z:Str,z≠"TEXT"/\atI (R.ws.map fun w=>V.str w.k) (-1)=some (V.str z)):=by
 have plain:(∀k∈R.ws,∀d,k≠.tx d)->spl 32 R.T=cpl R.hd::R.ws.map Wk.w:=fun np=>Z3 (by simp) fun w hw=>by
  rcases qm.mp hw with e | e
  ·rw[e];exact fun z=>((W5 R).1 32 z).2 rfl
  ·obtain⟨k,hk,rfl⟩:=yk.mp e;exact(Wk.box (h k hk)).2.2 (np k hk)
 cases R with
 | cal=>exact .inl ⟨_,_,h _ qk,rfl⟩
 | rule=>exact .inl ⟨_,_,h _ qk,rfl⟩
 | size=>exact .inr ⟨plain fun k hk d z=>by subst z;simp[Row.ws] at hk,"RULE",by ac_rfl,rfl⟩
 | _=>exact .inr ⟨plain fun k hk d z=>by subst z;simp[Row.ws] at hk,"NUMBER",by ac_rfl,rfl⟩
noncomputable def wK:Sp:=fun vs H Q _=>∃R:Row,An3 (vs=[.str (sW R.T)]) R.ok (∀l H',H l=none->Ax H H'->H' l=some (.lst (.str R.hd::wkV R.ws))->Q (.ref l) H')
noncomputable def wW:Sp:=fun vs H Q _=>Ex4 fun(a:Addr) (kv:List (Key×V)) (nm:Wd) (v:V)=>An4 (vs=[.ref a,.str (sW nm)]) (H a=some (.dK kv)) (Fp kv (.inr (sW nm))=some v) (Q v H)
noncomputable def Wk.val(kv:List (Key×V)):Wk->V->Prop
 | .nm n,v=>v=.str (sW n)
 | .tx w,v=>v=.str (sW w)
 | .ru n,v=>Fp kv (.inr (sW n))=some v
 | .nu i,v=>v=.int i
noncomputable def DkH(CD:Addr)(H:Hp)(x:Addr)(kv:List (Key×V)):Prop:=∃dx a r,H x=some (.ins CD dx [("calendars",.ref a),("rules",.ref r)])/\H r=some (.dK kv)
theorem DkH.same{CD:Addr}{kv:List (Key×V)}(d:DkH CD H x kv)(s:Ax H H'):DkH CD H' x kv:=by
 obtain⟨dx,a,r,h1,h2⟩:=d;exact⟨dx,a,r,s _ _ h1,s _ _ h2⟩
noncomputable def wU(CD:Addr):Sp:=fun vs H Q _=>Ex3 fun(x:Addr) (kv:List (Key×V)) (k:Wk)=>An5 (vs=[.ref x,.str k.k,.str (sW k.w)]) k.ok (DkH CD H x kv) (∀n,k=.ru n->∃v,Fp kv (.inr (sW n))=some v) (∀v H',Ax H H'->k.val kv v->Q v H')
noncomputable def qK(CD:Addr):Sp:=fun vs H Q _=>Ex2 fun(x l:Addr)=>An3 (vs=[.ref x,.ref l]) (H l=some (.lst [])) (∀l' H',H l'=none->Ax H H'->H' l'=some (.lst [])->Q (.ref l') H')
section
variable(K:Fr)(CR:Addr)(CL:List Addr)
noncomputable def yn(b:Bool):Str:=if b then "yes" else "no"
noncomputable def AAQ:Sp:=fun vs H Q _=>Ex5 fun(l y:Addr) (n d:Int) (b:Nat)=>An4 (vs=[.ref l]) (H l=some (.lst [.ref y,.int d])) (DP K CR CL H y n b) (Q (.str (yn (On n b d))) H)
noncomputable def qD:Sp:=fun vs H Q _=>Ex4 fun(l y:Addr) (n b:Nat)=>An4 (vs=[.ref l]) (H l=some (.lst [.ref y])) (DP K CR CL H y (n:Int) b) (∀z c H',Ax H H'->Lst n b z c->Q (.str (sW (nW (z:Int)))) H')
noncomputable def AAT:Sp:=fun vs H Q _=>Ex4 fun(p:Addr) (w:Str) (e:Int) (r:List V)=>An5 (vs=[.ref p]) (H p=some (.tup (.str w::.int e::r))) (w.length<=10) (e.natAbs.log2<1920) (Q (.str (sW (cpl w++(sg " "++nW e)))) H)
noncomputable def wI(G:Nat->Nat->Nat->Nat->Int->Hp->VK->Prop)(C:Nat->Nat->Prop):Sp:=fun vs H Q _=>Ex8 fun(l y y':Addr) (n b m c:Nat) (d:Int)=>An7 (vs=[.ref l]) (H l=some (.lst [.ref y,.ref y',.int d])) (DP K CR CL H y (n:Int) b) (DP K CR CL H y' (m:Int) c) (Sm d) (C n m) (G n b m c d H Q)
end
noncomputable def Zj(n b m c:Nat)(d:Int)(H:Hp)(Q:VK):Prop:=(∀z x H',Ax H H'->Lst n b z x->Lst m c z x->Q (.str (sW (sg "same "++nW (z:Int)))) H')/\∀e H',Ax H H'->Prt n b m c d e->Q (.str (sW (sg "parted"++(sg " "++nW e)))) H'
noncomputable def Zk(n b m c:Nat)(d:Int)(H:Hp)(Q:VK):Prop:=(∀H',Ax H H'->¬Meets n b m c->Q (.str (sW (sg "never"++(sg " "++nW ((Nat.gcd n m:Nat):Int))))) H')/\∀e H',Ax H H'->Fst n b m c d e->Q (.str (sW (sg "meet"++(sg " "++nW e)))) H'
noncomputable def Zi(n b m c:Nat)(d:Int)(H:Hp)(Q:VK):Prop:=∀co,Cmp m c co->(∀H',Ax H H'->¬Meets n b m co->Q (.str (sW (sg "within"++(sg " "++nW ((Nat.gcd n m:Nat):Int))))) H')/\∀e H',Ax H H'->Fst n b m co d e->Q (.str (sW (sg "outside"++(sg " "++nW e)))) H'
noncomputable def C70(n m:Nat):Prop:=n<=70000/\m<=70000
noncomputable def Ux(n m:Nat):Prop:=Bx (n:Int) (m:Int)<=150000
theorem DP.rnd{CR:Addr}{CL:List Addr}{n:Nat}(R:DP K CR CL H x (n:Int) b):0<n/\n<=150000/\b<2^n:=⟨by have:=R.n0;lia,by have:=R.n1;lia,by have:=R.lt;rwa [zk] at this⟩
section
variable(K:Fr)(cs:Cs)
noncomputable def ww:Sp:=fun vs H Q _=>Ex3 fun(H0:Hp) (x dx:Addr)=>An6 (vs=[.ref x]) (H0 x=none) (H0 dx=none) (dx≠x) (H=upd (upd H0 dx (.own x)) x (.ins cs.D dx [])) (∀H',Ax H0 H'->Dk K cs H' x none 0 (fun _=>none)->Q .non H')
structure PT.fine(D:Int)(p:PT):Prop where
 ok:p.ok
 kn:p.kn
 tl:p.tx.length<=4000
 dp:p.deep<=40
 mn:p.lv+p.br<=200
 sz:p.sz D<=150000
noncomputable def ABq(H:Hp)(x:Addr)(j:Nat)(m:Wd->Option (Nat×Nat))(Q:VK)(s f g a b:Int):Prop:=∀H',Kd H H'->Dk K cs H' x (some (2*(f+g)+a)) j m->Q (.str "ok") H'
noncomputable def vg(H:Hp)(x:Addr)(D:Int)(j:Nat)(m:Wd->Option (Nat×Nat))(Q:VK)(nm:Wd)(p:PT):Prop:=∀b H',Kd H H'->Dk K cs H' x (some D) (j+1) (setM m nm ((p.sz D).toNat,b))->p.EV D b->Q (.str "ok") H'
noncomputable def wX:Sp:=fun vs H Q _=>Ex5 fun(x l:Addr) (c:Option Int) (j:Nat) (m:Wd->Option (Nat×Nat))=>An3 (Dk K cs H x c j m) (j<=50) ((Ex5 fun(s f g a b:Int)=>An5 (vs=[.ref x,.str "calendar",.ref l]) (H l=some (.lst [.str (sW (sg "sun")),.str (sW (Y7 s f g a b))])) (Ok9 s f g a b) (c=none) (ABq K cs H x j m Q s f g a b))\/Ex3 fun(nm:Wd) (p:PT) (D:Int)=>An6 (vs=[.ref x,.str "rule",.ref l]) (H l=some (.lst [.str (sW nm),.str (sW p.tx)])) (c=some D) (1<=D) (p.fine D) (vg K cs H x D j m Q nm p))
noncomputable def ACs(H:Hp)(x:Addr)(c:Option Int)(j:Nat)(m:Wd->Option (Nat×Nat))(Q:VK):Row->Prop
 | .cal s f g a b=>Ok9 s f g a b/\c=none/\ABq K cs H x j m Q s f g a b
 | .rule nm p=>∃D,c=some D/\1<=D/\p.fine D/\vg K cs H x D j m Q nm p
 | .on nm d=>∃n b,m nm=some (n,b)/\∀H',Ax H H'->Q (.str (yn (On (n:Int) b d))) H'
 | .size nm=>∃n b,m nm=some (n,b)/\∀z c H',Ax H H'->Lst n b z c->Q (.str (sW (nW (z:Int)))) H'
 | .same a b d=>∃n x k y,m a=some (n,x)/\m b=some (k,y)/\C70 n k/\Zj n x k y d H Q
 | .meet a b d=>∃n x k y,m a=some (n,x)/\m b=some (k,y)/\Ux n k/\Zk n x k y d H Q
 | .within a b d=>∃n x k y,m a=some (n,x)/\m b=some (k,y)/\Ux n k/\Zi n x k y d H Q
noncomputable def AAR:Sp:=fun vs H Q _=>Ex5 fun(x:Addr) (c:Option Int) (j:Nat) (m:Wd->Option (Nat×Nat)) (R:Row)=>An5 (vs=[.ref x,.str (sW R.T)]) R.ok (Dk K cs H x c j m) (j<=50) (ACs K cs H x c j m Q R)
end
theorem Zj.later{n:Nat}(g:Zj n b m c d H Q)(s:Ax H H1):Zj n b m c d H1 Q:=⟨fun z x H' s'=>g.1 z x H' (s.trans s'),fun e H' s'=>g.2 e H' (s.trans s')⟩
theorem Zk.later{n:Nat}(g:Zk n b m c d H Q)(s:Ax H H1):Zk n b m c d H1 Q:=⟨fun H' s'=>g.1 H' (s.trans s'),fun e H' s'=>g.2 e H' (s.trans s')⟩
theorem Zi.later{n:Nat}(g:Zi n b m c d H Q)(s:Ax H H1):Zi n b m c d H1 Q:=fun co C=>⟨fun H' s'=>(g co C).1 H' (s.trans s'),fun e H' s'=>(g co C).2 e H' (s.trans s')⟩
theorem vA(h:Sm d):Bt 200 d:=Nat.lt_trans h (by decide)
theorem bC{e:Int}(h:Sm d)(h1:d<=e)(h2:e<=d+1000000):e.natAbs.log2<1920:=by
 refine N6 ?_ ?_<;>
 ·unfold Sm at h;have:(10:Nat)^40=10000000000000000000000000000000000000000:=by decide
  lia
theorem Qp{n:Nat}(h:n<=1000000):((n:Int)).natAbs.log2<1920:=N6 (by lia) (by lia)
theorem vp(h:H a=some o):upd H a o=H:=funext fun b=>by
 by_cases e:b=a
 ·rw[e,Ah,h]
 ·exact Aw e
noncomputable def GV(kv:List (Key×V))(n:Nat)(ks:List Wk)(vs:List V):Prop:=vs.length=n/\∀(j:Nat) (k:Wk) (v:V),ks[j]?=some k->vs[j]?=some v->k.val kv v
theorem GV.cons{kv:List (Key×V)}{n:Nat}{k:Wk}{ks:List Wk}{vs:List V}(g:GV kv (n+1) (k::ks) vs):∃v ws,vs=v::ws/\k.val kv v/\GV kv n ks ws:=by
 cases vs with
 | nil=>exact absurd g.1 (by simp)
 | cons v ws=>exact⟨v,ws,rfl,g.2 0 k v rfl rfl,by have:=g.1;simpa using this,fun j k' v' e1 e2=>g.2 (j+1) k' v' e1 e2⟩
theorem GV.one{kv:List (Key×V)}{k:Wk}{vs:List V}(g:GV kv 1 [k] vs):∃v,vs=[v]/\k.val kv v:=by
 obtain⟨v,ws,rfl,h,g'⟩:=GV.cons g;exact⟨v,by rw[jb7.mp g'.1],h⟩
theorem iw{b:Addr}{ks:List Wk}{kv:List (Key×V)}{Z:L2.St}{te:TE}(ha:∀H,SqT K H a (ks.map fun k=>V.str k.k))(hb:H b=some (.lst (wkV ks)))(hl:ks.length<sizeLine)
 (he:∀k∈ks,∀(H':Hp) (Q':VK),Ax H H'->(∀v H'',Ax H' H''->k.val kv v->Q' v H'')->te (some (.str k.k)::some (.str (sW k.w))::Z) H' Q')
 (h:∀(D:Addr) (H':Hp) (vs:List V),H D=none->Ax H H'->H' D=some (.lst vs)->GV kv ks.length ks vs->Q (.ref D) H'):
 Th 2 (tW K 2 (Yp (Il 0) (Yp (Il 1) ym))) cJ te Z Q (uc K a b) H:=by
 intro D hD;have lb:(wkV ks).length=ks.length:=jp _;refine⟨fun i m zs H2=>i<=ks.length/\m=ks.length-i/\H2 D=some (.lst zs)/\Ax H H2/\GV kv i ks zs,⟨_,ka _,rfl,Ah,Am hD _,rfl,fun j k v _ e=>by simp at e⟩,?_⟩;rintro i m zs H2 ⟨hi,rfl,hz,s2,zl,g⟩;refine⟨hz,?_⟩;have qb:SqL K H2 b (wkV ks):=SqL.of (s2 _ _ hb);by_cases c:i<ks.length
 ·have ex:(ks.map fun k=>V.str k.k)[i]?=some (.str ks[i].k):=by rw[xc,qv c];rfl
  have ey:(wkV ks)[i]?=some (.str (sW ks[i].w)):=by unfold wkV;rw[xc,qv c];rfl
  refine .inr ⟨⟨_,_,_,_,ha H2,qb,ex,ey⟩,by lia,ks.length-(i+1),by lia,?_⟩;rintro v H3 ⟨T,x,y,hT,rfl,rfl,hxy⟩ ρ hρ;obtain⟨gx,gy⟩:=hxy _ _ (ha H2) qb;rw[ex] at gx;rw[ey] at gy;cases gx;cases gy;obtain⟨p,q,rfl⟩:∃p q,ρ=[p,q]:=by
   match ρ,hρ with
   | [p,q],_=>exact⟨p,q,rfl⟩
  refine⟨T,[.str ks[i].k,.str (sW ks[i].w)],rfl,SqT.of Ah,rfl,.str ks[i].k,[.str (sW ks[i].w)],rfl,.str (sW ks[i].w),[],rfl,⟨rfl,[some (.str ks[i].k),some (.str (sW ks[i].w))],rfl,rfl,?_⟩⟩;refine Iz ?_;rw[xz rfl];have s3:=Am hT (.tup [.str ks[i].k,.str (sW ks[i].w)]);refine he _ (jd6 c) _ _ (s2.trans s3) fun v H4 s4 hv=>?_;refine⟨s4 _ _ (s3 _ _ hz),by lia,rfl,Ah,Cz hD ((s2.trans s3).trans s4),by rw[qf];show zs.length+1=i+1;lia,fun j k w ek ew=>?_⟩;by_cases cj:j<zs.length
  ·rw[List.getElem?_append_left cj] at ew;exact g j k w ek ew
  ·rw[je9 (by lia)] at ew;have e0:j-zs.length=0:=by
    by_cases z:j-zs.length=0
    ·exact z
    ·rw[jd1 (by show 1<=_;lia)] at ew;cases ew
   rw[e0] at ew;cases ew;have:j=i:=by lia
   rw[this,qv c] at ek;cases ek;exact hv
 ·have e:i=ks.length:=by lia
  subst e;exact .inl ⟨⟨_,_,ha H2,qb,by rw[jp,lb,Nat.min_self]⟩,h D H2 zs hD s2 hz ⟨zl,g⟩⟩
structure Lg(x:Str)(a:Wd)(n:Nat):Prop where
 e:cpl x=a
 l:a.length<=n
theorem Lg.s(z:String)(h:(sg z).length<=30:=by ac_rfl):Lg (Str.ofString z) (sg z) 30:=⟨rfl,h⟩
theorem Lg.n(h:Sm i):Lg (De i) (nW i) 41:=⟨rfl,Df h⟩
theorem Lg.w(a:Wd){n:Nat}(h:a.length<=n):Lg (sW a) a n:=⟨Bg _,h⟩
theorem Lg.eq{x:Str}{a b:Wd}{n:Nat}(h:Lg x a n)(e:a=b):x=sW b:=by rw[<-e,<-h.e,Jo]
theorem Lg.ap{x y:Str}{a b:Wd}{n:Nat}(X:Lg x a n)(Y:Lg y b m):Lg (x++y) (a++b) (n+m):=⟨by rw[Kf,X.e,Y.e],by rw[qf];exact Nat.add_le_add X.l Y.l⟩
theorem Lg.aps{x:Str}{a:Wd}{n:Nat}(X:Lg x a n)(z:String)(h:(sg z).length<=30:=by ac_rfl):Lg (x++Str.ofString z) (a++sg z) (n+30):=X.ap (.s z h)
theorem Lg.le{x y:Str}{a:Wd}{n:Nat}(X:Lg (x++y) a n)(h:n<=100000:=by decide):x.length+y.length<=sizeLine:=by
 rw[<-J0,<-Eo,X.e];exact zv X.l (zv h (by decide))
structure Nd0(D:Int)(H:Hp)(a:Addr)(p:PT):Prop where
 h:H a=some (.tup [.str (sW p.tx),.int (p.sz D),.int ((p.lv+p.br:Nat):Int)])
 ok:p.ok
 kn:p.kn
 tl:p.tx.length<=80*(p.lv+p.br)
structure Nd(D:Int)(H:Hp)(a:Addr)(p:PT):Prop where
 n:Nd0 D H a p
 sz:p.sz D<=60
 mn:p.lv+p.br<=40
theorem Nd.same{p:PT}(N:Nd D H a p)(s:Ax H H'):Nd D H' a p:=⟨⟨s _ _ N.n.h,N.n.ok,N.n.kn,N.n.tl⟩,N.sz,N.mn⟩
theorem Nd.lg{p:PT}(N:Nd D H a p):Lg (sW p.tx) p.tx 3200:=.w _ (by have:=N.n.tl;have:=N.mn;lia)
noncomputable def qP:Sp:=fun vs H Q _=>Ex3 fun(wd:Str) (x D:Int)=>An4 (vs=[.str wd,.int x,.int D]) (1<=D) (D<=60) (∀a p H',Ax H H'->Nd D H' a p->Q (.ref a) H')
noncomputable def kE:Sp:=fun vs H Q _=>Ex7 fun(wd:Str) (x:Int) (a b:Addr) (p q:PT) (D:Int)=>An6 (vs=[.str wd,.int x,.ref a,.ref b]) (wd∈[Str.ofString "not",Str.ofString "later",Str.ofString "every",Str.ofString "of"]\/∃w:PK,wd=w.s) (1<=D) (Nd D H a p) (Nd D H b q) (∀r P H',Ax H H'->Nd0 D H' r P->Q (.ref r) H')
noncomputable def wu:Sp:=fun vs H Q _=>Ex2 fun(x y:Int)=>An4 (vs=[.int x,.int y]) (0<x) (0<y) (Q (.int (Int.gcd x y:Int)) H)
theorem ACf(a b:Int):Int.gcd b (a%b)=Int.gcd a b:=by
 have e:=Int.emod_add_mul_ediv a b;refine Nat.dvd_antisymm (Int.dvd_coe_gcd ?_ ?_ |> Int.ofNat_dvd.mp) (Int.dvd_coe_gcd ?_ ?_ |> Int.ofNat_dvd.mp)
 ·have h1:=ji8 (a:=b) (b:=a%b);have h2:=Int.gcd_dvd_right (a:=b) (b:=a%b);have:=Int.dvd_add h2 (Int.dvd_trans h1 (Int.dvd_mul_right b (a/b)))
  rwa [e] at this
 ·exact ji8 ..
 ·exact Int.gcd_dvd_right ..
 ·have h1:=ji8 (a:=a) (b:=b);have h2:=Int.gcd_dvd_right (a:=a) (b:=b);rw[Int.emod_def];exact Int.dvd_sub h1 (Int.dvd_trans h2 (Int.dvd_mul_right b (a/b)))
theorem vq:sW (PT.tx (.lf true))=Str.ofString "all":=by ac_rfl
theorem cI:sW (PT.tx (.lf false))=Str.ofString "none":=by ac_rfl
theorem vK:PT.okS none:=fun i h=>nomatch h
theorem mV{j:Int}(h1: -10<j)(h2:j<10):PT.okS (some j):=fun i h=>by
 injection h with h;subst h;exact Eh (by lia) (by lia)
structure Mn(z:Str)(m:Option Int):Prop where
 e:z=sW (Fj m)
 ok:PT.okS m
 l:(Fj m).length<=2
theorem zK(x:Int):∃(z:Str) (m:Option Int),Mn z m/\okM m/\atI [V.str "*",V.str "1",V.str "2"] (x%3)=some (.str z):=by
 have a0:=qg x (show (3:Int)≠0 by decide);have a1:=qc x (show (0:Int)<3 by decide);obtain e | e | e:x%3=0\/x%3=1\/x%3=2:=by lia
 all_goals rw[e]
 ·exact⟨_,none,⟨by ac_rfl,vK,by ac_rfl⟩,(fun i h=>nomatch h),rfl⟩
 ·exact⟨_,some 1,⟨by ac_rfl,mV (by decide) (by decide),by ac_rfl⟩,(fun i h=>by cases h;decide),rfl⟩
 ·exact⟨_,some 2,⟨by ac_rfl,mV (by decide) (by decide),by ac_rfl⟩,(fun i h=>by cases h;decide),rfl⟩
noncomputable def dyS:List Str:=[Str.ofString "1",Str.ofString "*",Str.ofString "-1",Str.ofString "2",Str.ofString "-3",Str.ofString "6"]
theorem zN(x:Int):∃(z:Str) (m:Option Int),Mn z m/\m≠some 0/\atI (dyS.map V.str) (x%6)=some (.str z):=by
 have a0:=qg x (show (6:Int)≠0 by decide);have a1:=qc x (show (0:Int)<6 by decide);have go:∀j:Int,-10<j->j<10->(Fj (some j)).length<=2->Mn (sW (Fj (some j))) (some j):=fun j h1 h2 h3=>⟨rfl,mV h1 h2,h3⟩;obtain e | e | e | e | e | e:x%6=0\/x%6=1\/x%6=2\/x%6=3\/x%6=4\/x%6=5:=by lia
 all_goals rw[e]
 ·exact⟨_,some 1,go 1 (by decide) (by decide) (by ac_rfl),by decide,by ac_rfl⟩
 ·exact⟨_,none,⟨rfl,vK,by ac_rfl⟩,by decide,by ac_rfl⟩
 ·exact⟨_,some (-1),go (-1) (by decide) (by decide) (by ac_rfl),by decide,by ac_rfl⟩
 ·exact⟨_,some 2,go 2 (by decide) (by decide) (by ac_rfl),by decide,by ac_rfl⟩
 ·exact⟨_,some (-3),go (-3) (by decide) (by decide) (by ac_rfl),by decide,by ac_rfl⟩
 ·exact⟨_,some 6,go 6 (by decide) (by decide) (by ac_rfl),by decide,by ac_rfl⟩
theorem zb(m d:Option Int):sg "date sun "++Fj m++sg " "++Fj d=PT.tx (.date (sg "sun") m d none):=by
 rw[PT.tx_date0,show sg "date sun "=sg "date "++sg "sun"++sg " " by ac_rfl];rfl
theorem za(m d:Option Int)(r:Int):sg "date sun "++Fj m++sg " "++Fj d++sg " each 2 from "++nW r=PT.tx (.date (sg "sun") m d (some (2,r))):=by
 rw[PT.tx_date1,show sg "date sun "=sg "date "++sg "sun"++sg " " by ac_rfl,show sg " each 2 from "=sg " "++(sg "each "++nW 2++sg " from ") by ac_rfl];simp[Yy,R8]
theorem aj:HB (sg "sun"):=⟨by ac_rfl,by ac_rfl,by ac_rfl⟩
theorem O2{p:PT}{n m:Int}(t:z=sW p.tx)(e:p.sz D=n)(em:m=((p.lv+p.br:Nat):Int))(ok:p.ok)(kn:p.kn)(tl:p.tx.length<=80*(p.lv+p.br)):Nd0 D (upd H a (.tup [.str z,.int n,.int m])) a p:=by
 subst t e em;exact⟨Ah,ok,kn,tl⟩
theorem eU{ss:List Str}{k:Int}(h0:0<=k)(h1:k<(ss.length:Int)):∃z,z∈ss/\atI (ss.map V.str) k=some (.str z):=by
 have hk:k.toNat<ss.length:=by lia
 refine⟨ss[k.toNat],jd6 hk,?_⟩;have:=DX (xs:=ss.map V.str) (j:=k.toNat) (v:=.str ss[k.toNat]) (by rw[xc,qv hk];rfl)
 rwa [show ((k.toNat:Nat):Int)=k by lia] at this
noncomputable def lvS:List Str:=[Str.ofString "each",Str.ofString "date",Str.ofString "each",Str.ofString "none",Str.ofString "all"]
noncomputable def wdS:List Str:=[Str.ofString "and",Str.ofString "upon",Str.ofString "or",Str.ofString "not",Str.ofString "of",Str.ofString "but",Str.ofString "until",Str.ofString "later",Str.ofString "but",Str.ofString "near",Str.ofString "each",Str.ofString "till",Str.ofString "every",Str.ofString "unlike",Str.ofString "date",Str.ofString "none",Str.ofString "all",Str.ofString "or",Str.ofString "or"]
noncomputable def ofS:List Str:=[Str.ofString "not",Str.ofString "later",Str.ofString "every",Str.ofString "of"]
noncomputable def pkS:List PK:=[.an,.or,.bu,.ul,.up,.un,.ne,.ti]
theorem pJ:∀z∈wdS,inV (.str z) (lvS.map V.str)=true\/z∈ofS\/z∈pkS.map fun w=>Str.ofString w.s:=by ac_rfl
theorem vo(h:z∈wdS)(h1:inV (.str z) (lvS.map V.str)=false):z∈ofS\/∃w:PK,z=w.s:=by
 rcases pJ z h with e | e | e
 ·rw[h1] at e;cases e
 ·exact .inl e
 ·obtain⟨w,_,e⟩:=yk.mp e;exact .inr ⟨w,e.symm⟩
theorem iW(ss:List Str):(ss.map V.str).all Im=true:=by
 rw[jj2];exact va.mpr fun _ _=>rfl
noncomputable def Xb(D:Int)(H:Hp)(l:Addr)(zs:List (Addr×PT)):Prop:=H l=some (.lst (zs.map fun z=>V.ref z.1))/\∀z∈zs,Nd D H z.1 z.2
theorem Tg{zs:List (Addr×PT)}{k:Int}(h0:0<=k)(h1:k<(zs.length:Int)):∃z,z∈zs/\atI (zs.map fun z=>V.ref z.1) k=some (.ref z.1):=by
 have hk:k.toNat<zs.length:=by lia
 refine⟨zs[k.toNat],jd6 hk,?_⟩;have:=DX (xs:=zs.map fun z=>V.ref z.1) (j:=k.toNat) (v:=.ref zs[k.toNat].1) (by rw[xc,qv hk];rfl)
 rwa [show ((k.toNat:Nat):Int)=k by lia] at this
theorem uP{zs:List (Addr×PT)}(h:0<zs.length):∃z,z∈zs/\atI (zs.map fun z=>V.ref z.1) (-1)=some (.ref z.1):=by
 have hk:zs.length-1<zs.length:=by lia
 exact⟨zs[zs.length-1],jd6 hk,Ze (by rw[jp,xc,qv hk];rfl)⟩
theorem Xb.same{zs:List (Addr×PT)}(R:Xb D H l zs)(s:Ax H H'):Xb D H' l zs:=⟨s _ _ R.1,fun z hz=>(R.2 z hz).same s⟩
theorem Xb.app{zs:List (Addr×PT)}{p:PT}(R:Xb D H l zs)(N:Nd D H a p):Xb D (upd H l (.lst ((zs.map fun z=>V.ref z.1)++[.ref a]))) l (zs++[(a,p)]):=by
 have go:∀{b:Addr} {q:PT} {o:HO},Nd D H b q->Nd D (upd H l o) b q:=fun{b q o} M=>⟨⟨(Aw fun z=>by have:=M.n.h;rw[z,R.1] at this;cases this).trans M.n.h,M.n.ok,M.n.kn,M.n.tl⟩,M.sz,M.mn⟩;refine⟨by rw[Ah,yi];rfl,fun z hz=>?_⟩;rcases vx.mp hz with h | h
 ·exact go (R.2 z h)
 ·obtain rfl:=vj.mp h;exact go N
theorem Nd.fine{p:PT}(N:Nd D H a p):p.fine D:=⟨N.n.ok,N.n.kn,by have:=N.n.tl;have:=N.mn;lia,by have:=PT.lv_br p;have:=N.mn;lia,by have:=N.mn;lia,by have:=N.sz;lia⟩
noncomputable def qC(K:Fr):Sp:=fun vs H Q _=>Ex3 fun(a:Addr) (ns:List Int) (D:Int)=>An6 (vs=[.ref a,.int D]) (SqL K H a (ns.map V.int)) (ns.length<=63) (1<=D) (D<=60) (∀(p:PT) H',Ax H H'->p.fine D->p.sz D<=60->Q (.str (sW p.tx)) H')
structure Ut(D n:Int)(j:Nat)(u:PT×List Int):Prop where
 ok:u.1.ok
 kn:u.1.kn
 sz:u.1.sz D=n
 on:∀b,u.1.EV D b->∀d,On n b d=hit n u.2 d
 lv:u.1.lv=u.2.length
 br:u.1.br+1=u.2.length
 tl:u.1.tx.length+6<=23*u.2.length
 dp:u.1.deep<=j
noncomputable def jn2(a b:PT×List Int):PT×List Int:=(.pr .or a.1 b.1,a.2++b.2)
theorem Ut.mono{n:Int}{j i:Nat}{u:PT×List Int}(U:Ut D n j u)(h:j<=i):Ut D n i u:=⟨U.ok,U.kn,U.sz,U.on,U.lv,U.br,U.tl,zv U.dp h⟩
theorem Ut.two{n:Int}{j:Nat}{a b:PT×List Int}(A:Ut D n j a)(B:Ut D n j b)(n0:0<n):Ut D n (j+1) (jn2 a b):=by
 have e:Bx n n=n:=by
  unfold Bx;rw[Int.gcd_self,show((n.natAbs:Nat):Int)=n by lia,Int.ediv_self (by lia),Int.one_mul]
 have h1:=A.br;have h2:=B.br;refine⟨⟨A.ok,B.ok⟩,⟨A.kn,B.kn⟩,?_,?_,?_,?_,?_,?_⟩
 ·show Bx (a.1.sz D) (b.1.sz D)=n;rw[A.sz,B.sz,e]
 ·rintro c ⟨b1,b2,E1,E2,BB⟩ d;rw[A.sz,B.sz,e] at BB;rw[BB.on n0 n0 n0 (Int.dvd_refl n) (Int.dvd_refl n),A.on b1 E1,B.on b2 E2];unfold hit jn2;rw[List.any_append]
 ·show a.1.lv+b.1.lv=(a.2++b.2).length;rw[A.lv,B.lv,qf]
 ·show(PT.br (.pr .or a.1 b.1))+1=(a.2++b.2).length;rw[qf];simp only[PT.br];lia
 ·show(PT.tx (.pr .or a.1 b.1)).length+6<=23*(a.2++b.2).length;have t1:=A.tl;have t2:=B.tl;have c1:(sg "(").length=1:=by ac_rfl
  have c2:(sg ")").length=1:=by ac_rfl
  have c3:(sg (PK.t .or)).length=4:=by ac_rfl
  rw[PT.tx_pr];simp only[qf,c1,c2,c3];lia
 ·have d1:=A.dp;have d2:=B.dp;show max a.1.deep b.1.deep+1<=j+1;lia
noncomputable def pr2:List (PT×List Int)->List (PT×List Int)
 | a::b::r=>jn2 a b::pr2 r
 | r=>r
theorem cg:∀us,(pr2 us).length=(us.length+1)/2
 | []=>rfl
 | [a]=>by simp[pr2]
 | a::b::r=>by simp only[pr2,qq,cg r];lia
theorem lW:∀us,(pr2 us).flatMap (·.2)=us.flatMap (·.2)
 | []=>rfl
 | [a]=>rfl
 | a::b::r=>by simp only[pr2,Zs,lW r,jn2,ke]
theorem lV{n:Int}{j:Nat}(n0:0<n):∀us,(∀u∈us,Ut D n j u)->∀u∈pr2 us,Ut D n (j+1) u
 | [],h,u,hu=>(h u hu).mono (Nat.le_succ j)
 | [a],h,u,hu=>(h u hu).mono (Nat.le_succ j)
 | a::b::r,h,u,hu=>by
  rcases qm.mp hu with e | e
  ·rw[e];exact(h a (by simp)).two (h b (by simp)) n0
  ·exact lV n0 r (fun v hv=>h v (by simp[hv])) u e
theorem Wc:∀us vs,us.length%2=0->pr2 (us++vs)=pr2 us++pr2 vs
 | [],vs,_=>rfl
 | [a],vs,h=>by simp at h
 | a::b::r,vs,h=>by
  show jn2 a b::pr2 (r++vs)=jn2 a b::(pr2 r++pr2 vs);rw[Wc r vs (by simp only[qq] at h;lia)]
noncomputable def txV(us:List (PT×List Int)):List V:=us.map fun u=>V.str (sW u.1.tx)
theorem jY{us:List (PT×List Int)}{i:Nat}(h:i<us.length):atI (txV us) (i:Int)=some (.str (sW us[i].1.tx)):=DX (by unfold txV;rw[xc,qv h];rfl)
theorem pN{us:List (PT×List Int)}{i:Nat}(h:2*i+1<us.length):txV (pr2 (us.take (2*(i+1))))=txV (pr2 (us.take (2*i)))++[V.str (sW (PT.tx (.pr .or us[2*i].1 us[2*i+1].1)))]:=by
 have e:us.take (2*(i+1))=us.take (2*i)++[us[2*i],us[2*i+1]]:=by
  rw[show 2*(i+1)=2*i+1+1 by lia,jf9 h,jf9 (by lia),ke];rfl
 rw[e,Wc _ _ (by rw[jd7];lia)];unfold txV;rw[yi];rfl
theorem pO{us:List (PT×List Int)}{i:Nat}(h:us.length=2*i+1):txV (pr2 us)=txV (pr2 (us.take (2*i)))++[V.str (sW (us[2*i]'(by lia)).1.tx)]:=by
 have e:us=us.take (2*i)++[us[2*i]'(by lia)]:=by
  have:=jf9 (l:=us) (i:=2*i) (by lia);rw[<-this,<-h,ja9]
 have:=Wc (us.take (2*i)) [us[2*i]'(by lia)] (by rw[jd7];lia);rw[<-e] at this;rw[this];unfold txV;rw[yi];rfl
noncomputable def qR:Sp:=fun vs H Q _=>Ex4 fun(l:Addr) (us:List (PT×List Int)) (D n:Int)=>An7 (vs=[.ref l]) (H l=some (.lst (txV us))) (us.length<=60) (∀u∈us,Ut D n 0 u) (0<n) ((us.flatMap (·.2)).length<=60) (∀(p:PT) (H':Hp),Ax H H'->(us=[]->p=.lf false)->(us≠[]->Ut D n 6 (p,us.flatMap (·.2)))->Q (.str (sW p.tx)) H')
theorem yQ:∀k:Fin 61,(nW ((k:Nat):Int)).length<=2:=by ac_rfl
theorem vL{k:Int}(h0:0<=k)(h1:k<=60):(nW k).length<=2:=by
 have:=yQ ⟨k.toNat,by lia⟩
 rwa [show ((k.toNat:Nat):Int)=k by lia] at this
theorem Ut.one{n k:Int}(n0:1<=n)(n6:n<=60)(k0:0<=k)(kn:k<n):Ut D n 0 (.each n k,[k]):=by
 refine⟨⟨Eh (by lia) (by lia),Eh (by lia) (by lia),n0,n6⟩,trivial,rfl,fun b hb d=>RB.bit hb d,rfl,rfl,?_,qh _⟩;have l1:=vL (k:=n) (by lia) n6;have l2:=vL k0 (by lia);have c1:(sg "each ").length=5:=by ac_rfl
 have c2:(sg " from ").length=6:=by ac_rfl
 show(PT.tx (.each n k)).length+6<=23;rw[PT.tx_each];unfold R8;simp only[qf];lia
theorem Ut.fine{n:Int}{u:PT×List Int}(U:Ut D n 6 u)(n1:n<=60)(l:u.2.length<=60):u.1.fine D:=⟨U.ok,U.kn,by have:=U.tl;lia,by have:=U.dp;lia,by have:=U.lv;have:=U.br;lia,by have:=U.sz;lia⟩
theorem vY:∀{vs:List (PT×List Int)} {u:PT×List Int},u∈vs->u.2.length<=(vs.flatMap (·.2)).length
 | v::vs,u,h=>by
  rw[Zs,qf];rcases qm.mp h with e | e
  ·rw[e];lia
  ·have:=vY e;lia
noncomputable def eaU(z:Int)(S:List Int):List (PT×List Int):=S.map fun k=>(.each z k,[k])
theorem W9(z:Int):∀S,(eaU z S).flatMap (·.2)=S
 | []=>rfl
 | k::S=>by
  have:=W9 z S;unfold eaU at this ⊢;rw[xk,Zs,this];rfl
theorem nq{z:Int}{S:List Int}(z0:1<=z)(z6:z<=60)(h:∀k∈S,0<=k/\k<z):∀u∈eaU z S,Ut D z 0 u:=fun u hu=>by
 obtain⟨k,hk,rfl⟩:=yk.mp hu;exact .one z0 z6 (h k hk).1 (h k hk).2
theorem du(z:Int)(S:List Int)(k:Int):txV (eaU z (S++[k]))=txV (eaU z S)++[V.str (sW (PT.tx (.each z k)))]:=by
 unfold txV eaU;rw[yi,yi];rfl
structure Un(D z:Int)(S:List Int)(p:PT):Prop where
 f:p.fine D
 n0:0<p.sz D
 n1:p.sz D<=60
 on:∀b,p.EV D b->∀d,On (p.sz D) b d=hit z S d
theorem tR(z d:Int):hit z [] d=false:=rfl
theorem Un.of{z:Int}{S:List Int}{p:PT}(z0:1<=z)(z6:z<=60)(l:S.length<=60)(h0:eaU z S=[]->p=.lf false)(h1:eaU z S≠[]->Ut D z 6 (p,(eaU z S).flatMap (·.2))):Un D z S p:=by
 rw[W9] at h1;cases S with
 | nil=>
  obtain rfl:=h0 rfl;refine⟨⟨trivial,trivial,by ac_rfl,by decide,by decide,by show(1:Int)<=150000;decide⟩,by show(0:Int)<1;decide,by show(1:Int)<=60;decide,fun b hb d=>?_⟩;obtain rfl:b=0:=hb;rw[tR];unfold On;exact jb0 _
 | cons k S=>
  have U:=h1 (by unfold eaU;simp);have e:p.sz D=z:=U.sz;exact⟨U.fine z6 l,by lia,by lia,fun b hb d=>by rw[e];exact U.on b hb d⟩
structure Hl(n b z:Nat)(hs:List Int):Prop where
 n0:0<n
 n1:n<=60
 z0:1<=z
 z1:z<=60
 l:hs.length<=60
 mem:∀k∈hs,0<=k/\k<(z:Int)
 on:∀d,On (n:Int) b d=hit (z:Int) hs d
theorem di{z:Int}{S:List Int}:hit z S d=true<->∃k∈S,(d-k)%z=0:=by
 unfold hit;rw[List.any_eq_true];exact⟨fun ⟨k,h,e⟩=>⟨k,h,of_decide_eq_true e⟩,fun⟨k,h,e⟩=>⟨k,h,decide_eq_true e⟩⟩
theorem W3{z:Int}{S:List Int}(h:∀k∈S,0<=k/\k<z)(z0:0<z)(hg:g∈S)(d:Int):hit z (S.filter fun k=>decide (k≠g)) d=(hit z S d&&!decide ((d-g)%z=0)):=by
 rw[vv,kc,di,di];constructor
 ·rintro⟨k,hk,e⟩;obtain⟨hk,kg⟩:=je4.mp hk;have kg:=of_decide_eq_true kg;refine⟨⟨k,hk,e⟩,?_⟩;rw[Bool.not_eq_true',decide_eq_false_iff_not];intro e';have h1:=h k hk;have h2:=h g hg;have e1:k%z=d%z:=((Ga z0).mp e).symm;have e2:g%z=d%z:=((Ga z0).mp e').symm;rw[jc5 h1.1 h1.2] at e1;rw[jc5 h2.1 h2.2] at e2;exact kg (by lia)
 ·rintro⟨⟨k,hk,e⟩,ng⟩;rw[Bool.not_eq_true',decide_eq_false_iff_not] at ng;exact⟨k,je4.mpr ⟨hk,decide_eq_true fun z=>ng (by rw[<-z];exact e)⟩,e⟩
theorem zL{hs:List Int}{c:Int}(h:hs≠[]):∃g,g∈hs/\atI (hs.map V.int) (c%(hs.length:Int))=some (.int g):=by
 have h0:0<hs.length:=List.length_pos_iff.mpr h;have a0:=qg c (show (hs.length:Int)≠0 by lia);have a1:=qc c (show (0:Int)<(hs.length:Int) by lia);have hk:(c%(hs.length:Int)).toNat<hs.length:=by lia
 refine⟨hs[(c%(hs.length:Int)).toNat],jd6 hk,?_⟩;have:=DX (xs:=hs.map V.int) (j:=(c%(hs.length:Int)).toNat) (v:=.int hs[(c%(hs.length:Int)).toNat]) (by rw[xc,qv hk];rfl)
 rwa [show (((c%(hs.length:Int)).toNat:Nat):Int)=c%(hs.length:Int) by lia] at this
theorem ABe{hs:List Int}{i:Nat}{v:V}(h:(hs.map V.int)[i]?=some v):∃k,k∈hs/\v=.int k/\hs.take (i+1)=hs.take i++[k]:=by
 rw[xc] at h;cases e:hs[i]? with
 | none=>rw[e] at h;cases h
 | some k=>
  rw[e] at h;cases h;exact⟨k,zh e,rfl,by rw[ja0,e];rfl⟩
theorem T2{s h x z:Wd}(e:s=h++32::(x++[32])):h++32::(x++32::z)=s++z:=by rw[e];simp
theorem T3{s h x y z:Wd}(e:s=h++32::(x++32::(y++[32]))):h++32::(x++32::(y++32::z))=s++z:=by rw[e];simp
theorem Uj:HB (sg "a"):=⟨by ac_rfl,by ac_rfl,by ac_rfl⟩
theorem gf:HB (sg "b"):=⟨by ac_rfl,by ac_rfl,by ac_rfl⟩
theorem sO:HB (sg "c"):=⟨by ac_rfl,by ac_rfl,by ac_rfl⟩
theorem WW{nm:Wd}{p:PT}(h:HB nm)(f:p.fine D):(Row.rule nm p).ok:=fun w hw=>by
 simp only[Row.ws,qm,yb,or_false] at hw;rcases hw with rfl | rfl
 ·exact h
 ·obtain⟨_,t,_⟩:=PT.rdy f.ok f.tl f.dp;exact⟨f.tl,fun c hc=>Fi.mp t.1 c (by rw[Bg];exact hc)⟩
theorem Jh{a b:Wd}(ha:HB a)(hb:HB b)(hd:Sm d):∀w∈[Wk.ru a,.ru b,.nu d],w.ok:=fun w hw=>by
 simp only[qm,yb,or_false] at hw;rcases hw with rfl | rfl | rfl
 ·exact ha
 ·exact hb
 ·exact hd
theorem diff{n nc bc z:Nat}{hs:List Int}(HL:Hl n b z hs)(gm:g∈hs)(oc:∀d,On (nc:Int) bc d=hit (z:Int) (hs.filter fun k=>decide (k≠g)) d)(d:Int):On (n:Int) b d=On (nc:Int) bc d<->¬(d-g)%(z:Int)=0:=by
 rw[HL.on,oc,W3 HL.mem (by have:=HL.z0;lia) gm];by_cases e:(d-g)%(z:Int)=0
 ·rw[di.mpr ⟨g,gm,e⟩,decide_eq_true e];exact⟨(fun z=>nomatch z),fun z=>absurd e z⟩
 ·rw[decide_eq_false e,Bool.not_false,Bool.and_true];exact⟨fun _=>e,fun _=>rfl⟩
theorem dw{z day:Int}(z0:0<z):(day+(g-day)%z-g)%z=0:=by
 have:=Int.emod_add_mul_ediv (g-day) z;refine je0 ⟨-((g-day)/z),?_⟩;rw[Int.mul_neg];lia
theorem rY{n nc bc z:Nat}{day e:Int}{hs:List Int}(HL:Hl n b z hs)(gm:g∈hs)(oc:∀d,On (nc:Int) bc d=hit (z:Int) (hs.filter fun k=>decide (k≠g)) d)(P:Prt n b nc bc day e):e=day+(g-day)%(z:Int):=by
 have z0:(0:Int)<(z:Int):=by have:=HL.z0;lia
 have r0:=qg (g-day) (show (z:Int)≠0 by lia);have r1:=qc (g-day) z0;have d0:=dw (g:=g) (day:=day) z0;obtain⟨due,hd⟩:∃due,due=day+(g-day)%(z:Int):=⟨_,rfl⟩;rw[<-hd] at d0 ⊢;have e0:(e-g)%(z:Int)=0:=Decidable.byContradiction fun c=>P.ne ((diff HL gm oc e).mpr c);have le:e<=due:=Int.not_lt.mp fun c=>((diff HL gm oc due).mp (P.eq due (by lia) c)) d0;have ge:=P.ge;have k:(due-e)%(z:Int)=0:=by
  have:=Int.dvd_sub (jg5 d0) (jg5 e0);rw[show due-g-(e-g)=due-e by lia] at this;exact je0 this
 rw[jc5 (by lia) (by lia)] at k;lia
theorem yR{j:Int}(hi:Sm i)(hj:Sm j)(h:nW i=nW j):i=j:=by rw[<-(Hn hi).2,<-(Hn hj).2,h]
theorem lF{a b:Wd}(h:sW a=sW b):a=b:=by rw[<-Bg a,<-Bg b,h]
theorem fY(h:7<=z.length):cpl (Txt.slice z none (some 7))=(cpl z).take 7:=by
 have e:=slice_closes_toL (x:=z) (j:=7) (by decide) (by lia);rw[eq_of_beq e];rfl
theorem cH(r:Wd):Txt.slice (sW (sg "within"++(sg " "++r))) none (some 7)=Str.ofString "within ":=Gw (by
 have l:(sg "within"++sg " ").length=7:=by ac_rfl
 rw[fY (by rw[Cr,<-ke,qf,l];lia),Bg,<-ke,jh4 (by lia)];ac_rfl)
theorem ACq(p:PT):Row.T (.rule (sg "a") p)=sg "rule a "++p.tx:=T2 (show sg "rule a "=cpl (Str.ofString "rule")++32::(sg "a"++[32]) by ac_rfl)
theorem ACp(p:PT):Row.T (.rule (sg "b") p)=sg "rule b "++p.tx:=T2 (show sg "rule b "=cpl (Str.ofString "rule")++32::(sg "b"++[32]) by ac_rfl)
theorem ACo(p:PT):Row.T (.rule (sg "c") p)=sg "rule c "++p.tx:=T2 (show sg "rule c "=cpl (Str.ofString "rule")++32::(sg "c"++[32]) by ac_rfl)
theorem ABn(d:Int):Row.T (.on (sg "a") d)=sg "on a "++nW d:=T2 (show sg "on a "=cpl (Str.ofString "on")++32::(sg "a"++[32]) by ac_rfl)
theorem ACr(d:Int):Row.T (.on (sg "b") d)=sg "on b "++nW d:=T2 (show sg "on b "=cpl (Str.ofString "on")++32::(sg "b"++[32]) by ac_rfl)
theorem ABm(d:Int):Row.T (.same (sg "a") (sg "b") d)=sg "same a b "++nW d:=T3 (show sg "same a b "=cpl (Str.ofString "same")++32::(sg "a"++32::(sg "b"++[32])) by ac_rfl)
theorem ABl(d:Int):Row.T (.same (sg "a") (sg "c") d)=sg "same a c "++nW d:=T3 (show sg "same a c "=cpl (Str.ofString "same")++32::(sg "a"++32::(sg "c"++[32])) by ac_rfl)
theorem ABk(d:Int):Row.T (.within (sg "a") (sg "b") d)=sg "within a b "++nW d:=T3 (show sg "within a b "=cpl (Str.ofString "within")++32::(sg "a"++32::(sg "b"++[32])) by ac_rfl)
theorem ABj(d:Int):Row.T (.within (sg "b") (sg "a") d)=sg "within b a "++nW d:=T3 (show sg "within b a "=cpl (Str.ofString "within")++32::(sg "b"++32::(sg "a"++[32])) by ac_rfl)
theorem ABi(d:Int):Row.T (.within (sg "c") (sg "a") d)=sg "within c a "++nW d:=T3 (show sg "within c a "=cpl (Str.ofString "within")++32::(sg "c"++32::(sg "a"++[32])) by ac_rfl)
theorem ABo(d:Int):Row.T (.meet (sg "a") (sg "c") d)=sg "meet a c "++nW d:=T3 (show sg "meet a c "=cpl (Str.ofString "meet")++32::(sg "a"++32::(sg "c"++[32])) by ac_rfl)
theorem nY{n:Nat}(n0:0<n)(n1:n<=60)(m0:0<m)(m1:m<=60):Ux n m/\Ux m n:=by
 have a:=dX (a:=(n:Int)) (b:=(m:Int)) (by lia) (by lia);have c:=VG (a:=(n:Int)) (b:=(m:Int)) (by lia) (by lia);have k:(n:Int)*(m:Int)<=60*60:=Int.mul_le_mul (by lia) (by lia) (by lia) (by decide);unfold Ux;lia
theorem Xf(h:Sm i):(sW (sg "within"++(sg " "++nW i))).length<=sizeLine:=by
 have l:(sg "within"++sg " ").length=7:=by ac_rfl
 have:=Df h;rw[Cr,<-ke,qf,l,sizeLine_eq];lia
theorem nM{n:Nat}(h:0<n/\n<=60):Sm ((Nat.gcd n m:Nat):Int):=by
 have:=Nat.gcd_le_left m h.1;exact Eh (by lia) (by lia)
theorem mW{r s:Wd}:sW (sg "never"++r)≠sW (sg "meet "++s):=fun h=>by
 have:=xo (List.take 1) (lF h);rw[jh4 (by ac_rfl),jh4 (by ac_rfl)] at this;exact absurd this (by ac_rfl)
theorem sV{e e':Int}(h:Sm e)(h':Sm e')(ne:e≠e'):sW (sg "meet"++(sg " "++nW e))≠sW (sg "meet "++nW e'):=fun c=>by
 have c:=lF c;rw[<-ke,show sg "meet"++sg " "=sg "meet " by ac_rfl] at c;exact ne (yR h h' (List.append_cancel_left c))
theorem ABH{c:Prop}[Decidable c]{Q:VK}{H:Hp}(hc:¬c)(q:Q (.bl true) H):Q (.bl (!decide c)) H:=by
 rw[decide_eq_false hc];exact q
noncomputable def qH(K:Fr)(cs:Cs):Sp:=fun vs H Q _=>ABv fun(x lh:Addr) (z:Nat) (cell day:Int) (hs:List Int) (D:Int) (j:Nat) (m:Wd->Option (Nat×Nat)) (n b:Nat)=>zY (vs=[.ref x,.int (z:Int),.ref lh,.int cell,.int day]) (H lh=some (.lst (hs.map V.int))) (Dk K cs H x (some D) j m) (j<=40) (1<=D) (m (sg "a")=some (n,b)) (Hl n b z hs) (hs≠[]) (-5000000000000000000000000000000000000000<=day) (day<5000000000000000000000000000000000000000) (∀H',Q (.bl true) H')
theorem ABp(s f g a b:Int):Row.T (.cal s f g a b)=sg "calendar sun sun "++nW s++sg " "++nW f++sg ","++nW g++sg " leap 2 +"++nW a++sg ","++nW b++sg ",2":=by
 have e:Row.T (.cal s f g a b)=cpl (Str.ofString "calendar")++32::(sg "sun"++32::(sg "sun"++32::(nW s++32::(Gn 44 ([f,g].map nW)++32::(sg "leap"++32::(nW 2++32::tmW a b)))))):=rfl;have e1:sg "calendar sun sun "=cpl (Str.ofString "calendar")++32::(sg "sun"++32::(sg "sun"++[32])):=by ac_rfl
 have e2:sg " leap 2 +"=32::(sg "leap"++32::(nW 2++[32,43])):=by ac_rfl
 have e3:sg ","=[44]:=by ac_rfl
 have e4:sg ",2"=44::nW 2:=by ac_rfl
 have e5:sg " "=[32]:=by ac_rfl
 rw[e,e1,e2,e3,e4,e5];simp[tmW,Gn]
noncomputable def rg(z:Nat):List Int:=(List.range z).map fun(t:Nat)=>(t:Int)
theorem qw(z:Nat):rg (z+1)=rg z++[(z:Int)]:=by
 unfold rg;rw[List.range_succ,yi];rfl
theorem aK{z:Nat}{k:Int}:k∈rg z<->0<=k/\k<(z:Int):=by
 unfold rg;rw[yk];constructor
 ·rintro⟨t,ht,rfl⟩;have:=je2.mp ht;lia
 ·intro h;exact⟨k.toNat,je2.mpr (by lia),by lia⟩
noncomputable def held(n b z:Nat):List Int:=(rg z).filter fun k=>On (n:Int) b k
theorem iM(n b z:Nat):held n b (z+1)=held n b z++(if On (n:Int) b (z:Int)=true then [(z:Int)] else []):=by
 unfold held;rw[qw,jh9];by_cases c:On (n:Int) b (z:Int)=true
 ·rw[xz c,List.filter_cons_of_pos c,List.filter_nil]
 ·rw[yv c,List.filter_cons_of_neg c,List.filter_nil]
theorem Yn(n b z:Nat):(held n b z).length<=z:=by
 have:=jf3 (fun k=>On (n:Int) b k) (rg z);unfold held;unfold rg at this ⊢;rw[jp,uu] at this;exact this
theorem tU{n z:Nat}(n0:0<n)(n1:n<=60)(L:Lst n b z c):Hl n b z (held n b z):=by
 have z0:=L.z0;have zn:=vc n0 L.dv;refine⟨n0,n1,z0,by lia,zv (Yn n b z) (by lia),fun k hk=>aK.mp (je4.mp hk).1,fun d=>?_⟩;have r0:=qg d (show (z:Int)≠0 by lia);have r1:=qc d (show (0:Int)<(z:Int) by lia);have e:On (n:Int) b d=On (n:Int) b (d%(z:Int)):=by
  rw[L.on n0,L.on n0];unfold On;rw[Int.emod_emod]
 rw[vv,di];constructor
 ·intro h;exact⟨d%(z:Int),je4.mpr ⟨aK.mpr ⟨r0,r1⟩,by rw[<-e];exact h⟩,by rw[Ga (by lia),Int.emod_emod]⟩
 ·rintro⟨k,hk,ek⟩;obtain⟨hm,hk⟩:=je4.mp hk;have hm:=aK.mp hm;rw[Ga (by lia),jc5 hm.1 hm.2] at ek;rw[e,ek];exact hk
theorem tO{z:Nat}(z0:1<=z)(z1:z<=60):inV (.str (sW (nW (z:Int)))) ((List.range 60).map fun(t:Nat)=>V.str (sW (nW (1+(t:Int)))))=true:=by
 unfold inV;refine List.any_eq_true.mpr ⟨.str (sW (nW (z:Int))),yk.mpr ⟨z-1,je2.mpr (by lia),by rw[show 1+((z-1:Nat):Int)=(z:Int) by lia]⟩,?_⟩;simp[eqV]
theorem u6:sW (Row.T (.size (sg "a")))=Str.ofString "size a"/\sW (Row.T (.size (sg "b")))=Str.ofString "size b":=by ac_rfl
theorem mR{a:Wd}(h:HB a):(Row.size a).ok:=fun w hw=>by
 obtain rfl:=vj.mp hw;exact h
theorem Zt{a:Wd}(h:HB a)(hd:Sm d):(Row.on a d).ok:=fun w hw=>by
 simp only[Row.ws,qm,yb,or_false] at hw;rcases hw with rfl | rfl
 ·exact h
 ·exact hd
theorem zA{s f a b:Int}(o:Ok9 s f g a b):(Row.cal s f g a b).ok:=fun w hw=>by
 simp only[Row.ws,qm,yb,or_false] at hw;obtain⟨_,l,t⟩:=o.tx;rcases hw with rfl | rfl
 ·exact aj
 ·exact⟨by lia,fun c hc=>Fi.mp t.1 c (by rw[Bg];exact hc)⟩
theorem SqL.kd(k:Kd H H'){xs:List V}(h:SqL K H x xs):SqL K H' x xs:=by
 rcases h with (h | ⟨o,h⟩) | h
 ·exact .inl (.inl (k.lst h))
 ·exact .inl (.inr ⟨o,k _ _ (fun _ z=>nomatch z) h⟩)
 ·exact .inr h
theorem ABf{lo:Int}{n i:Nat}{v:V}(h:((List.range n).map fun(t:Nat)=>V.int (lo+(t:Int)))[i]?=some v):i<n/\v=.int (lo+(i:Int)):=by
 have hi:i<n:=jd8 fun c=>by
  rw[jd1 (by rw[jp,uu];exact c)] at h;cases h
 rw[xc,List.getElem?_range hi] at h;exact⟨hi,(ki h).symm⟩
noncomputable def nmS:List Str:=[Str.ofString "a b ",Str.ofString "b a "]
theorem sS{w:Str}(h:w∈nmS):w=Str.ofString "a b "\/w=Str.ofString "b a ":=by
 simpa [nmS] using h
theorem Qv{d:Option Addr}{vs:Array Value}{n:Nat}{s:Array (Option Value)}(h:K.lookup a=some ⟨.type "tuple",d,.seq vs n,s⟩)(l:vs.size<=5)(r:Vals xs vs.toList)(H:Hp):SqT K H a xs:=.inr ⟨_,_,_,h,rfl,rfl,zv l (by decide),r⟩
theorem nR{P:Program}{w:World}{mg:Str->Option Value}{t:Nat->Addr}{a0 a2 a6 a11 a12 a13 a14:Addr}{x0 x1 x2 x3 x4 x5 x6 x7 x8 x9 y0 y1 y2 y3 y4 y5:Tok}{d0 d1 d2 d3 d4 d5 d6:Option Addr}{n0 n1 n2 n3 n4 n5 n6:Nat}{s0 s1 s2 s3 s4 s5 s6:Array (Option Value)}(m:mg "FORMS"=some (.ref a))(d:KD P w K a (bK t))(e0:t 0=a0)(e2:t 2=a2)(e6:t 6=a6)(e11:t 11=a11)(e12:t 12=a12)(e13:t 13=a13)(e14:t 14=a14)
 (h0:K.lookup a0=some ⟨.type "tuple",d0,.seq #[.str "NAME" x0,.str "TEXT" x1] n0,s0⟩)(h2:K.lookup a2=some ⟨.type "tuple",d1,.seq #[.str "NAME" x2,.str "TEXT" x3] n1,s1⟩)(h6:K.lookup a6=some ⟨.type "tuple",d2,.seq #[.str "RULE" x4,.str "NUMBER" x5] n2,s2⟩)(h11:K.lookup a11=some ⟨.type "tuple",d3,.seq #[.str "RULE" x6] n3,s3⟩)
 (h12:K.lookup a12=some ⟨.type "tuple",d4,.seq #[.str "RULE" x7,.str "RULE" x8,.str "NUMBER" x9] n4,s4⟩)(h13:K.lookup a13=some ⟨.type "tuple",d5,.seq #[.str "RULE" y0,.str "RULE" y1,.str "NUMBER" y2] n5,s5⟩)(h14:K.lookup a14=some ⟨.type "tuple",d6,.seq #[.str "RULE" y3,.str "RULE" y4,.str "NUMBER" y5] n6,s6⟩):pD P w K mg a t:=⟨m,d,fun R H=>by
 subst e0 e2 e6 e11 e12 e13 e14;cases R
 ·exact Qv (xs:=[V.str "NAME",V.str "TEXT"]) h0 (by show 2<=5;decide) (.cons ⟨_,rfl⟩ (.cons ⟨_,rfl⟩ .nil)) H
 ·exact Qv (xs:=[V.str "NAME",V.str "TEXT"]) h2 (by show 2<=5;decide) (.cons ⟨_,rfl⟩ (.cons ⟨_,rfl⟩ .nil)) H
 ·exact Qv (xs:=[V.str "RULE",V.str "NUMBER"]) h6 (by show 2<=5;decide) (.cons ⟨_,rfl⟩ (.cons ⟨_,rfl⟩ .nil)) H
 ·exact Qv (xs:=[V.str "RULE"]) h11 (by show 1<=5;decide) (.cons ⟨_,rfl⟩ .nil) H
 ·exact Qv (xs:=[V.str "RULE",V.str "RULE",V.str "NUMBER"]) h12 (by show 3<=5;decide) (.cons ⟨_,rfl⟩ (.cons ⟨_,rfl⟩ (.cons ⟨_,rfl⟩ .nil))) H
 ·exact Qv (xs:=[V.str "RULE",V.str "RULE",V.str "NUMBER"]) h13 (by show 3<=5;decide) (.cons ⟨_,rfl⟩ (.cons ⟨_,rfl⟩ (.cons ⟨_,rfl⟩ .nil))) H
 ·exact Qv (xs:=[V.str "RULE",V.str "RULE",V.str "NUMBER"]) h14 (by show 3<=5;decide) (.cons ⟨_,rfl⟩ (.cons ⟨_,rfl⟩ (.cons ⟨_,rfl⟩ .nil))) H⟩
end Fw
namespace Fw
open PySem L2 PyProof.Rows
local macro_rules | `(tactic| nofun)=> `(tactic| (repeat (first | walk_at"rd1" | ((with_reducible refine' Fw.KZ ?hc1 ?hc2 ?hc3 ?_);(case hc1=>assumption);(case hc2=>assumption);(case hc3=>decide)) | with_reducible refine Fw.rd_whole ?_)))
local macro_rules | `(tactic| walk_at"mm")=> `(tactic| (repeat (first | exact List.Mem.head _ | refine List.Mem.tail _ ?_)))
local macro_rules | `(tactic| walk_at"i2")=> `(tactic| (intro R1 R2 lz q hx rc;have fl:=Br R1.n0 R2.n0;symm;obtain⟨C,dr,fs,m,hr,l1,_⟩:=R1.mt;refine⟨_,C,dr,fs,_,m _,rfl,hr,l1,?_⟩;symm;refine⟨ja2,_,_,_,rfl,R1,fun p hp=>?_⟩;symm;obtain⟨C',dr',fs',m',hr',l1',_⟩:=R2.mt;refine⟨_,C',dr',fs',_,m' _,rfl,hr',l1',?_⟩;symm;refine⟨ja2,_,_,_,rfl,R2,fun p' hp'=>?_⟩;symm;refine⟨p,p',_,_,_,_,rfl,⟨SqT.of hp,SqT.of hp',R1.n0,R2.n0,R1.n1,R2.n1,R1.lt,R2.lt⟩,lz,fun p2 c H1 s1 t1 lt Rr=>?_⟩;symm;refine⟨HH,fun pm hpm=>?_⟩;refine fresh hpm fun H2 s2 t2=>?_;symm;refine⟨(by show 3<=sizeLine;decide),fun pw hpw=>?_⟩;refine fresh hpw fun H3 s3 t3=>?_;have s3:=s2.trans s3;have hx3:=(s1.trans s3) _ _ hx;symm;exact⟨_,p2,pm,pw,_,_,rfl,hx3,rc,fun H' k e=>q _ H' (k.pre (s1.trans s3)) (Fg (by walk_at"mm") rc hx3 (s3 _ _ t1) k e fl.1 lz lt) Rr⟩))
local macro_rules | `(tactic| walk_at"nw")=> `(tactic| (refine CN (by first | exact vm (by ac_rfl) | exact cG (by ac_rfl) | exact fun z=>absurd (V.str.inj z) (by ac_rfl)) ?_;symm))
local macro_rules | `(tactic| walk_at"ew")=> `(tactic| (refine Hw (by first | exact HX _ | rfl) ?_;symm))
noncomputable def P:Program:=PySem.Challenge.rw_feastwheel_k97_whole_by_remainders.prog
theorem fill:(PySem.Challenge.rw_feastwheel_k97_whole_by_remainders.prog,Hd.K)=(PySem.Challenge.rw_feastwheel_k97_whole_by_remainders.prog,Hd.K):=by k_fill;rfl
structure Dt where
 (w:World) (mg:Str->Option Value) (b:Heap)
structure Gi(d:Dt):Prop where
 X:(Hd.K d.w.params).In d.b
 G:d.b.Ns mainGlobals d.mg
noncomputable def Ok(d:Dt):Prop:=∀{f:Addr} {fd:FuncData},Fun (Hd.K d.w.params) "law" "law" cV f fd->Et P d.w (Hd.K d.w.params) d.mg d.b CX0 136 f fd ["_law_script"] (cU (Hd.K d.w.params))
instance:Nonempty Dt:=⟨⟨⟨fun _ _=>0,⟨fun _=>0,fun _=>0,id,fun _=>0,fun _ _=>0,fun _=>true,fun _=>0,.refcount,.text,fun _=>0,fun _=>none,fun _=>true,fun _ _ _=>true,fun _ _ _=>true,true,fun _=>true,fun _=>none,fun _=>none,fun _ _ _=>0,fun _ _=>none,fun _=>none,fun _=>(0,true,""),fun _=>none,id,fun _=>true⟩⟩,fun _=>none,default⟩⟩
noncomputable def d0:Dt:=Classical.epsilon fun d=>Gi d/\¬Ok d
noncomputable def w:World:=d0.w
noncomputable def K:Fr:=Hd.K w.params
noncomputable def mg:Str->Option Value:=d0.mg
noncomputable def base:Heap:=d0.b
abbrev Av:Addr:=549
abbrev Bk:Addr:=649
abbrev oW:Addr:=786
abbrev Ba:Addr:=978
abbrev Vk:Addr:=999
abbrev jJ:Addr:=1018
abbrev Ol:Addr:=1044
abbrev JV:Addr:=1078
abbrev Vi:Addr:=1097
abbrev TY:Addr:=1116
abbrev KH:Addr:=1135
abbrev Zb:Addr:=1154
abbrev KC:Addr:=1173
abbrev Kl:Addr:=1192
abbrev S7:Addr:=1211
abbrev Mr:Addr:=1230
abbrev TQ:Addr:=1249
abbrev S8:Addr:=1268
abbrev Vj:Addr:=1287
abbrev Km:Addr:=1306
abbrev BW:Addr:=1340
abbrev Ey:Addr:=1663
abbrev Fz:Tok:=1009
abbrev Xl:Tok:=1383
abbrev Xk:Tok:=1384
abbrev Jg:Tok:=1669
abbrev Jf:Tok:=1670
abbrev Zw:Tok:=577
abbrev je:Tok:=579
abbrev Tq:Tok:=820
abbrev M8:Tok:=816
abbrev Tj:Tok:=818
abbrev Qw:Tok:=932
abbrev M7:Tok:=934
abbrev Pq:Tok:=429
abbrev Zx:Tok:=427
abbrev Tn:Tok:=431
abbrev Pr:Tok:=425
abbrev Zy:Tok:=423
abbrev M6:Tok:=1994
abbrev Gv:Addr:=1309
abbrev Pn:Tok:=1996
abbrev Pk:Tok:=1997
abbrev Pj:Tok:=1998
abbrev Ph:Tok:=1999
abbrev Pg:Tok:=2000
abbrev Pb:Tok:=2001
abbrev Pa:Tok:=2002
abbrev PX:Tok:=2003
abbrev Tp:Tok:=1269
abbrev mq:Addr:=1469
noncomputable def Ym:Nat->Addr:=fun i=>([1470,1471,1472,1473,1474,1475,1476,1477,1478,1479,1480,1481,1482,1483,1484,1485,1486,1488]:List Nat).getD i 0
abbrev bG:Addr:=1608
noncomputable def bF:Nat->Addr:=fun i=>([1495,1502,1509,1516,1530,1537,1544,1551,1558,1565,1579,1586,1593,1600,1607]:List Nat).getD i 0
abbrev iT:Addr:=385
abbrev iR:Addr:=392
class Giv:Prop where
 X:K.In base
 G:base.Ns mainGlobals mg
variable{f:Addr}{fd:FuncData}
section
variable[Giv]
theorem gX:K.In base:=Giv.X
theorem gG:base.Ns mainGlobals mg:=Giv.G
local macro_rules | `(tactic| walk_at"k")=> `(tactic| (delta K;first | k_is | kit_is | k_exc))
local macro_rules | `(tactic| walk_at"o")=> `(tactic| first | exact Or.inl rfl | exact Or.inr rfl)
local macro_rules | `(tactic| walk_at"s")=> `(tactic| exact⟨rfl,rfl,rfl,by ac_rfl,rfl,by ac_rfl,by ac_rfl⟩)
local macro_rules | `(tactic| walk_at"hr")=> `(tactic| exact Do.mono (by assumption) (by first | decide | lia))
local macro_rules | `(tactic| walk_at"kk")=> `(tactic| first | walk_at"k" | (constructor<;>walk_at"kk"))
local macro_rules | `(tactic| walk_at"g")=> `(tactic| (delta K;refine' L2.nU ?_ ?_ ?_ ?_<;>first | k_is | skip))
local macro_rules | `(tactic| walk_at"h")=> `(tactic| (delta K;refine' L2.yo ?_ ?_ ?_ ?_ ?_<;>first | k_is | skip))
local macro_rules | `(tactic| walk_at"dg")=> `(tactic| (delta K;refine' L2.tZ ?_ ?_ ?_ ?_ ?_<;>first | k_is | skip))
local macro_rules | `(tactic| walk_at"dm")=> `(tactic| (delta K;refine' L2.tY ?_ ?_ ?_ ?_ ?_ ?_<;>first | k_is | skip))
local macro_rules | `(tactic| walk_at"db")=> `(tactic| (delta K;refine' L2.tu ?_ ?_ ?_ ?_ ?_<;>first | k_is | skip))
local macro_rules | `(tactic| walk_at"b")=> `(tactic| first | walk_at"b1" | walk_at"b2" | walk_at"b3" | walk_at"b4" | walk_at"b0" | walk_at"b5" | walk_at"b6" | walk_at"b7" | walk_at"b8")
theorem mgo{x:Str}{v:Value}(h:PySem.W.nsIn K mainGlobals x=some (some v)):mg x=some v:=jg9 gX gG h
noncomputable abbrev C0(k:Nat)(x:Str)(ps:List Str)(sp:Sp):Prop:=Cal P w K mg base k x ps sp
noncomputable abbrev C1(k:Nat)(x:Str)(ps:List Str)(sp:Sp):Prop:=ACt P w K mg base k x ps sp
noncomputable abbrev CM0(k:Nat)(C:Addr)(x:Str)(ps:List Str)(sp:Sp):Prop:=jM P w K mg base CX0 k C x ps sp
noncomputable abbrev CI0(k:Nat)(x:Str)(C:Addr)(ps:List Str)(sp:Sp):Prop:=jN P w K mg base CX0 k x C ps sp
noncomputable abbrev F0(k:Nat)(f:Addr)(fd:FuncData)(ps:List Str)(sp:Sp):Prop:=Et P w K mg base CX0 k f fd ps sp
noncomputable abbrev CL:List Addr:=[Vk,jJ,Ol,JV,Vi,TY,KH,Zb,KC,Kl,S7,Mr,TQ,S8,Vj,Km]
theorem BV:Cls K Av:=by walk_at"kk"
theorem Cu:Dm K Av "base":=by walk_at"kk"
theorem CQ:Dm K Av "terms":=by walk_at"kk"
theorem Eb:Dm K Av "full_count":=by walk_at"kk"
theorem Gk:Dm K Av "full_sum":=by walk_at"kk"
theorem CK:Cls K Bk:=by walk_at"kk"
theorem Jd:Dm K Bk "start":=by walk_at"kk"
theorem Io:Dm K Bk "months":=by walk_at"kk"
theorem Hq:Dm K Bk "leap":=by walk_at"kk"
theorem CZ:Dm K Bk "years":=by walk_at"kk"
theorem Bd:Cls K BW:=by walk_at"kk"
theorem GF:Dm K BW "words":=by walk_at"kk"
theorem Dj:Dm K BW "place":=by walk_at"kk"
theorem Bu:Cls K Ey:=by walk_at"kk"
theorem FZ:Dm K Ey "calendars":=by walk_at"kk"
theorem Gr:Dm K Ey "rules":=by walk_at"kk"
theorem Vd:Cls K Vk:=by walk_at"kk"
theorem VV:RC K Ba Vk:=by walk_at"kk"
theorem Yt:Cls K jJ:=by walk_at"kk"
theorem Ys:RC K Ba jJ:=by walk_at"kk"
theorem Ry:Cls K Ol:=by walk_at"kk"
theorem Rt:RC K Ba Ol:=by walk_at"kk"
theorem PN:Cls K JV:=by walk_at"kk"
theorem O8:RC K Ba JV:=by walk_at"kk"
theorem Va:Cls K Vi:=by walk_at"kk"
theorem VP:RC K Ba Vi:=by walk_at"kk"
theorem Rz:Cls K TY:=by walk_at"kk"
theorem bO:RC K Ba TY:=by walk_at"kk"
theorem Ml:Cls K KH:=by walk_at"kk"
theorem W8:RC K Ba KH:=by walk_at"kk"
theorem Vc:Cls K Zb:=by walk_at"kk"
theorem iY:RC K Ba Zb:=by walk_at"kk"
theorem Mj:Cls K KC:=by walk_at"kk"
theorem W7:RC K Ba KC:=by walk_at"kk"
theorem PB:Cls K Kl:=by walk_at"kk"
theorem O6:RC K Ba Kl:=by walk_at"kk"
theorem Ru:Cls K S7:=by walk_at"kk"
theorem bL:RC K Ba S7:=by walk_at"kk"
theorem O9:Cls K Mr:=by walk_at"kk"
theorem Yr:RC K Ba Mr:=by walk_at"kk"
theorem Rx:Cls K TQ:=by walk_at"kk"
theorem bN:RC K Ba TQ:=by walk_at"kk"
theorem Rv:Cls K S8:=by walk_at"kk"
theorem bM:RC K Ba S8:=by walk_at"kk"
theorem Vb:Cls K Vj:=by walk_at"kk"
theorem VR:RC K Ba Vj:=by walk_at"kk"
theorem PL:Cls K Km:=by walk_at"kk"
theorem O7:RC K Ba Km:=by walk_at"kk"
theorem Gu:mg "range"=none:=vt gX gG (by walk_at"k")
theorem Cq:mg "len"=none:=vt gX gG (by walk_at"k")
theorem uo:mg "abs"=none:=vt gX gG (by walk_at"k")
theorem uh:mg "zip"=none:=vt gX gG (by walk_at"k")
theorem Zn:mg "list"=none:=vt gX gG (by walk_at"k")
theorem jQ:mg "sum"=none:=vt gX gG (by walk_at"k")
theorem jT:mg "all"=none:=vt gX gG (by walk_at"k")
theorem Vs:mg "tuple"=none:=vt gX gG (by walk_at"k")
theorem um:mg "min"=none:=vt gX gG (by walk_at"k")
theorem zZ:mg "max"=none:=vt gX gG (by walk_at"k")
theorem Dp:mg "str"=none:=vt gX gG (by walk_at"k")
theorem Ir:mg "isinstance"=none:=vt gX gG (by walk_at"k")
theorem jR:mg "int"=none:=vt gX gG (by walk_at"k")
theorem VF:mg "LONGEST"=some (.int 150000 Zw):=mgo (by walk_at"k")
theorem IV:mg "PIECE"=some (.int 256 je):=mgo (by walk_at"k")
theorem Wy:mg "GREATEST_N"=some (.int 1000 Tq):=mgo (by walk_at"k")
theorem QM:mg "GREATEST_BASE"=some (.int 20000 M8):=mgo (by walk_at"k")
theorem Wv:mg "MOST_TERMS"=some (.int 6 Tj):=mgo (by walk_at"k")
theorem Ul:mg "MOST_MONTHS"=some (.int 20 Qw):=mgo (by walk_at"k")
theorem QL:mg "LONGEST_MONTH"=some (.int 1000 M7):=mgo (by walk_at"k")
theorem Rh:mg "MOST_LETTERS"=some (.int 8 Pq):=mgo (by walk_at"k")
theorem gw:mg "LETTERS"=some (.str "abcdefghijklmnopqrstuvwxyz" Zx):=mgo (by walk_at"k")
theorem Ww:mg "MOST_SIGNS"=some (.int 4000 Tn):=mgo (by walk_at"k")
theorem Ri:mg "MOST_FIGURES"=some (.int 60 Pr):=mgo (by walk_at"k")
theorem iC:mg "FIGURES"=some (.str "0123456789" Zy):=mgo (by walk_at"k")
theorem QK:mg "MOST_BRACKETS"=some (.int 40 M6):=mgo (by walk_at"k")
theorem Wu:mg "PAIR_WORDS"=some (.ref Gv):=mgo (by walk_at"k")
theorem WR:∀H,SqT K H Gv [.str "and",.str "or",.str "but",.str "unlike",.str "upon",.str "until",.str "near",.str "till"]:=by
 have l:K.lookup Gv=some ⟨.type "tuple",none,.seq #[.str "and" Pn,.str "or" Pk,.str "but" Pj,.str "unlike" Ph,.str "upon" Pg,.str "until" Pb,.str "near" Pa,.str "till" PX] 0,#[]⟩:=by walk_at"k"
 exact fun H=>.inr ⟨_,_,_,l,rfl,rfl,(by show 8<=sizeLine;decide),(.cons ⟨_,rfl⟩ (.cons ⟨_,rfl⟩ (.cons ⟨_,rfl⟩ (.cons ⟨_,rfl⟩ (.cons ⟨_,rfl⟩ (.cons ⟨_,rfl⟩ (.cons ⟨_,rfl⟩ (.cons ⟨_,rfl⟩ .nil))))))))⟩
theorem Wx:mg "MOST_PAIRS"=some (.int 1000 Tp):=mgo (by walk_at"k")
theorem Fy:pD P w K mg mq Ym:=nR (a0:=1470) (a2:=1472) (a6:=1476) (a11:=1481) (a12:=1482) (a13:=1483) (a14:=1484) (mgo (by walk_at"k")) (L2.vM (a:=1469) (n:=18) [("calendar",2215,1470),("change",2219,1471),("rule",2225,1472),("date",2229,1473),("day",2233,1474),("move",2237,1475),("on",2242,1476),("next",2246,1477),("last",2250,1478),("nth",2254,1479),("count",2259,1480),("size",2264,1481),("same",2267,1482),("meet",2272,1483),("within",2277,1484),("shorter",2282,1485),("show",2285,1486),("almanac",2288,1488)] (by walk_at"k") (by ac_rfl) rfl) rfl rfl rfl rfl rfl rfl rfl (by walk_at"k") (by walk_at"k") (by walk_at"k") (by walk_at"k") (by walk_at"k") (by walk_at"k") (by walk_at"k")
theorem Dh:ACv P w K mg bG bF:=⟨mgo (by walk_at"k"),(L2.vM (a:=1608) (n:=15) [("date",2417,1495),("day",2418,1502),("move",2419,1509),("on",2420,1516),("next",2421,1530),("last",2422,1537),("nth",2423,1544),("count",2424,1551),("size",2425,1558),("same",2426,1565),("meet",2427,1579),("within",2428,1586),("shorter",2429,1593),("show",2430,1600),("almanac",2431,1607)] (by walk_at"k") (by ac_rfl) rfl),mgo (by walk_at"k"),mgo (by walk_at"k"),mgo (by walk_at"k"),mgo (by walk_at"k"),mgo (by walk_at"k")⟩
theorem Ii:mg "either"=some (.ref iT):=mgo (by walk_at"k")
theorem Xi:mg "unlike"=some (.ref iR):=mgo (by walk_at"k")
theorem co{g n q st ps k sp}(Q:FnG K g n q st)(b:Hv n q st ps)(o:∀{f:Addr} {fd:FuncData},Fun K n q st f fd->F0 k f fd ps sp):C0 k g ps sp:=bU gX gG Q b o
theorem cm{g n q st ps k sp C CX}(Q:FnM K C g n q st)(b:Hv n q st ps)(o:∀{f:Addr} {fd:FuncData},Fun K n q st f fd->Et P w K mg base CX k f fd ps sp):jM P w K mg base CX k C g ps sp:=uJ Q b o
theorem ci{n q st ps k sp C CX x}(m:PySem.W.makesIn K C=true)(p:PySem.W.keepIn K (.ref C)=true)(e:PySem.W.nsIn K mainGlobals x=some (some (.ref C)))(Q:FnM K C "__init__" n q st)(b:Hv n q st ps)(o:∀{f:Addr} {fd:FuncData},Fun K n q st f fd->Et P w K mg base CX k f fd ps sp):jN P w K mg base CX k x C ps sp:=uK gX gG m p e Q b o
theorem co'{g n q ps k sp}(N:List Str)(st:Stmt)(len:∀{vs H Q E},sp vs H Q E->vs.length=ps.length)(o:∀{f:Addr} {cdv:Value} {A:Around} {outer:List Env} {s:Shared} (nd:N.Nodup) (H:Hp) (vs:List V) (Q:VK) (E:XK),Do k (A.deeper (envOfC q (BP st) s.heap.objs.size f cdv))->sp vs H Q E->∃t,PSs (Um CX0 P w K mg base N q (BP st) f cdv A outer s H E).nox (DW st) t/\t { nx:=fun _ H'=>Q .non H',rt:=Q } (start N vs) H)(S:Cp N ps (BP st):=by walk_at"s")(Q:FnG K g n q st:=by walk_at"g")(b:Hv n q st ps:=by walk_at"b"):C0 (k+1) g ps sp:=co Q b fun F=>F.ok S len o
theorem cm'{g n q ps k sp C}(N:List Str)(st:Stmt)(len:∀{vs H Q E},sp vs H Q E->vs.length=ps.length)(o:∀{f:Addr} {cdv:Value} {A:Around} {outer:List Env} {s:Shared} (nd:N.Nodup) (H:Hp) (vs:List V) (Q:VK) (E:XK),Do k (A.deeper (envOfC q (BP st) s.heap.objs.size f cdv))->sp vs H Q E->∃t,PSs (Um CX0 P w K mg base N q (BP st) f cdv A outer s H E).nox (DW st) t/\t { nx:=fun _ H'=>Q .non H',rt:=Q } (start N vs) H)(S:Cp N ps (BP st):=by walk_at"s")(Q:FnM K C g n q st:=by walk_at"h")(b:Hv n q st ps:=by walk_at"b"):CM0 (k+1) C g ps sp:=cm Q b fun F=>F.ok S len o
theorem ci'{n q ps k sp C x}(N:List Str)(st:Stmt)(len:∀{vs H Q E},sp vs H Q E->vs.length=ps.length)(o:∀{f:Addr} {cdv:Value} {A:Around} {outer:List Env} {s:Shared} (nd:N.Nodup) (H:Hp) (vs:List V) (Q:VK) (E:XK),Do k (A.deeper (envOfC q (BP st) s.heap.objs.size f cdv))->sp vs H Q E->∃t,PSs (Um CX0 P w K mg base N q (BP st) f cdv A outer s H E).nox (DW st) t/\t { nx:=fun _ H'=>Q .non H',rt:=Q } (start N vs) H)(S:Cp N ps (BP st):=by walk_at"s")(m:PySem.W.makesIn K C=true:=by walk_at"k")(p:PySem.W.keepIn K (.ref C)=true:=by walk_at"k")(e:PySem.W.nsIn K mainGlobals x=some (some (.ref C)):=by walk_at"k")(Q:FnM K C "__init__" n q st:=by walk_at"h")(b:Hv n q st ps:=by walk_at"b"):CI0 (k+1) x C ps sp:=ci m p e Q b fun F=>F.ok S len o
theorem CJ:C0 1 "refuse_below_one" ["number"] jx:=by
 refine co' ["number"] K4 (fun h=>?_) fun nd H vs Q E hr h=>?_
 ·obtain⟨n,rfl,_⟩:=h;rfl
 obtain⟨n,rfl,hn,q⟩:=h;refine⟨_,(Ad (Ay (Aj GP (pv 0) Af (Ao _))
  (Ad BX)
  Aq)),?_⟩
 symm;refine CN (by lia) ?_;symm;exact q
theorem Dy:C0 1 "refuse_too_long" ["size"] fL:=by
 refine co' ["size"] Lk (fun h=>?_) fun nd H vs Q E hr h=>?_
 ·obtain⟨n,rfl,_⟩:=h;rfl
 obtain⟨n,rfl,hn,q⟩:=h;refine⟨_,(Ad (Ay (Aj Fl (pv 0) (Bv rfl VF (Cj _ _)) (Ao _))
  (Ad BX)
  Aq)),?_⟩
 symm;refine CN (by lia) ?_;symm;exact q
theorem bj:C0 1 "equation" ["one","other"] ACN:=by
 refine co' ["one","other","row","below","times","rest"] aH (fun h=>?_) fun nd H vs Q E hr h=>?_
 ·obtain⟨a,b,rfl,_⟩:=h;rfl
 obtain⟨a,b,rfl,ha,hb,q⟩:=h;refine⟨_,(Ac (Ak 2 (Az (Aa Af (Aa Af (Aa (pv 0) Ab)))))
  (Ac (Ak 3 (Az (Aa Af (Aa Af (Aa (pv 1) Ab)))))
  (Ac (FT PassesOwn.never (Aj Ek (pxT 3) Af (Ao _))
   (Ac (Ak 4 (Ag mO (pxT 2) (pxT 3)))
  (Ac (Ak 5 (Az (Aa (Ag DN (pxT 2) (Ag CW (pv 4) (pxT 3))) (Aa (Ag DN (pxT 2) (Ag CW (pv 4) (pxT 3))) (Aa (Ag DN (pxT 2) (Ag CW (pv 4) (pxT 3))) Ab)))))
  (Ac (Ak 2 (pv 3))
  (Ad (Ak 3 (pv 5)))))))
  (Ac (Ay (Aj GP (pxT 2) Af (Ao _))
   (Ad (Al (Az (Aa (Gj El (pxT 2)) (Aa (Gj El (pxT 2)) (Aa (Gj El (pxT 2)) Ab))))))
   Aq)
  (Ad (Al (pv 2))))))),?_⟩
 symm;refine⟨three,fun p1 hp1=>?_⟩;symm;refine⟨three,fun p2 hp2=>?_⟩;symm;have n12:p1≠p2:=fun z=>by rw[<-z,Ah] at hp2;cases hp2
 refine⟨fun m Z' H'=>∃(pr pb:Addr) (u v r u' v' r':Int) (t1 t2:Option V),Z'=[some (.int a),some (.int b),some (.ref pr),some (.ref pb),t1,t2]/\Ax H H'/\
  H' pr=some (.tup [.int u,.int v,.int r])/\H' pb=some (.tup [.int u',.int v',.int r'])/\EqI a b u v r u' v' r'/\m=r'.natAbs,
  ⟨_,p1,p2,1,0,a,0,1,b,none,none,rfl,(Am hp1 _).trans (Am hp2 _),by rw[Aw n12];exact Ah,Ah,EqI.start a b,rfl⟩,?_⟩
 rintro m Z' H' ⟨pr,pb,u,v,r,u',v',r',t1,t2,rfl,sm,hpr,hpb,I,rfl⟩;have B:=I.bounds;have br:=zG (m:=510) ha hb (show r.natAbs<=a.natAbs+b.natAbs+4 by lia) (by decide);have br':=eO (m:=510) hb (show r'.natAbs<=4*b.natAbs+4 by lia) (by decide);have bu':=eO (m:=510) hb (show u'.natAbs<=4*b.natAbs+4 by lia) (by decide);have bv':=eO (m:=510) ha (show v'.natAbs<=4*a.natAbs+4 by lia) (by decide);symm;refine An (SqT.of hpb) Zf ?_;symm;by_cases hz:r'=0
 ·subst hz;refine FN rfl ?_;have D:=I.done;symm;refine An (SqT.of hpr) Zf ?_;symm;refine CG (fun c=>?_) (fun c=>?_)
  ·symm;refine An (SqT.of hpr) zP ?_;symm;refine An (SqT.of hpr) zO ?_;symm;refine An (SqT.of hpr) Zf ?_;symm;refine⟨three,fun p hp=>?_⟩;exact q p _ _ _ _ (sm.trans (Am hp _)) Ah (D.1 c)
  ·symm;exact q pr _ _ _ _ sm hpr (D.2 c)
 ·refine dZ (fun z=>hz (V.int.inj z)) ?_;refine⟨_,fun Z' H' hh=>hh,?_⟩;have St:=I.step hz;have bq:=eO (m:=520) br (show (r.fdiv r').natAbs<=4*r.natAbs+4 by have:=aP (r:=r) hz;lia) (by decide);symm;refine An (SqT.of hpr) Zf ?_;symm;refine An (SqT.of hpb) Zf ?_;refine DQ ⟨hz,br'.mono (by decide)⟩ ?_;symm;refine An (SqT.of hpr) zP ?_;symm;refine An (SqT.of hpb) zP ?_;refine DQ ⟨520,510,bq,bu',by decide⟩ ?_;symm;refine An (SqT.of hpr) zO ?_;symm;refine An (SqT.of hpb) zO ?_;refine DQ ⟨520,510,bq,bv',by decide⟩ ?_;symm;refine An (SqT.of hpr) Zf ?_;symm;refine An (SqT.of hpb) Zf ?_;refine DQ ⟨520,510,bq,br',by decide⟩ ?_;symm;refine⟨three,fun p hp=>?_⟩;symm;exact⟨_,St.2,pb,p,u',v',r',_,_,_,_,_,rfl,sm.trans (Am hp _),(Am hp _) _ _ hpb,Ah,St.1,rfl⟩
theorem Od:C0 2 "divisor" ["one","other"] fW:=by
 refine co' ["one","other"] gK (fun h=>?_) fun nd H vs Q E hr h=>?_
 ·obtain⟨a,b,rfl,_⟩:=h;rfl
 obtain⟨a,b,rfl,ha,hb,q⟩:=h;refine⟨_,(Ad (Al (CT Ho (Ae bj (Aa (pv 0) (Aa (pv 1) Ab))) Af (fun _ _=>rfl)))),?_⟩;symm;refine⟨a,b,rfl,ha,hb,fun p u v g H' sm hp e=>?_⟩;symm;refine An (SqT.of hp) Zf ?_;rw[e.gd];exact q _ sm
theorem Mq:C0 3 "common" ["one","other"] kW:=by
 refine co' ["one","other"] lE (fun h=>?_) fun nd H vs Q E hr h=>?_
 ·obtain⟨a,b,rfl,_⟩:=h;rfl
 obtain⟨a,b,rfl,a0,b0,ha,hb,q⟩:=h;refine⟨_,(Ac (BR (Ae CJ (Aa (pv 0) Ab)))
  (Ac (BR (Ae CJ (Aa (pv 1) Ab)))
  (Ad (Al (Ag CW (Ag Bs (pv 0) (Ae Od (Aa (pv 0) (Aa (pv 1) Ab)))) (pv 1)))))),?_⟩
 symm;refine⟨a,rfl,by lia,?_⟩;symm;refine⟨b,rfl,by lia,?_⟩;symm;refine⟨a,b,rfl,ha,hb,fun H' sm=>?_⟩;have g0:=Qs (b:=b) a0;have g1:=nO (b:=b) a0;refine DQ ⟨g0,(ha.le (x:=(Int.gcd a b:Int)) (by lia)).mono (by decide)⟩ ?_;symm;have d0:0<=a/(Int.gcd a b:Int):=Int.ediv_nonneg (by lia) (by lia);have d1:a/(Int.gcd a b:Int)<=a:=ji7 _ (by lia);refine DQ ⟨500,500,ha.le (by lia),hb,by decide⟩ ?_;exact q _ sm
theorem JP:C0 2 "round_by" ["size","days"] (fM K):=by
 refine co' ["size","days","pieces","day","bits","number","place"] Z7 (fun h=>?_) fun nd H vs Q E hr h=>?_
 ·obtain⟨a,ds,n,rfl,_⟩:=h;rfl
 obtain⟨a,ds,n,rfl,hS,n0,n1,fin⟩:=h;refine⟨_,(Ac (BR (Ae CJ (Aa (pv 0) Ab)))
  (Ac (BR (Ae Dy (Aa (pv 0) Ab)))
  (Ac (Ak 2 (Ag aY (En (Aa Af Ab)) (Ag Bq (Ag Bs (pv 0) (Bv rfl IV (Cj _ _))) Af)))
  (Ac (Ib PassesOwn.never rfl (Fx (pv 1)) (FJ (i:=3) nd rfl (by walk_at"o"))
   (Ac (Ak 6 (Ag Bp (pv 3) (pv 0)))
  (Ad (lU (Ag U9 (CT Ck (pv 2) (Ag Bs (pv 6) (Bv rfl IV (Cj _ _))) (fun _ _=>rfl)) (Ag MN Af (Ag Bp (pv 6) (Bv rfl IV (Cj _ _))))) (lZ (pv 2) (Ag Bs (pv 6) (Bv rfl IV (Cj _ _))) set_list)))))
  (Ac (Ak 4 Af)
  (Ac (Ib PassesOwn.never rfl (Nu rfl Gu (Aa (BJ BK rfl Cq xa (Aa (pv 2) Ab)) Ab)) (FJ (i:=5) nd rfl (by walk_at"o"))
   (Ad (Ak 4 (Ag U9 (pv 4) (Ag MN (CT Ck (pv 2) (pv 5) (fun _ _=>rfl)) (Ag CW (pv 5) (Bv rfl IV (Cj _ _))))))))
  (Ad (Al (Az (Aa (pv 0) (Aa (pv 4) Ab))))))))))),?_⟩
 ac_nf;refine⟨n,rfl,by lia,?_⟩;ac_nf;refine⟨n,rfl,n1,?_⟩;ac_nf;refine⟨(by show 1<=sizeLine;decide),fun l0 hl0=>?_⟩;ac_nf;refine aM Ah (by lia) (by lia) (by show 1*_<=sizeLine;unfold sizeLine;lia) (fun l hl=>?_);have s0:=Am hl0 (.lst [.int 0]);have s1:=s0.trans (Am hl (.lst (List.replicate (n/256+1).toNat [V.int 0]).flatten));have t1:upd (upd H l0 (.lst [.int 0])) l (.lst (List.replicate (n/256+1).toNat [V.int 0]).flatten) l=some (.lst (Ra 0 (n/256+1).toNat)):=by rw[Ah,gY]
 have hl':H l=none:=s0.free hl;generalize upd (upd H l0 (.lst [.int 0])) l (.lst (List.replicate (n/256+1).toNat [V.int 0]).flatten)=H1 at s1 t1 ⊢;generalize hk:(n/256+1).toNat=k at t1;ac_nf;refine⟨a,rfl,⟨_,s1.seq hS⟩,J3 (xs:=ds.map V.int) (fun i Z' H'=>Ax H H'/\Ex3 fun(b:Nat) (c c':Option V)=>An3 (H' l=some (.lst (Ra b k))) (Z'=[some (.int n),some (.ref a),some (.ref l),c,none,none,c']) (RB n (ds.take i) b)) ⟨s1,0,none,none,t1,rfl,?_⟩ ?_ ?_ ?_⟩
 ·simpa using RB.nil n
 ·rintro i Z' H' _ ⟨s,_⟩;exact s.seq hS
 ·rintro i x Z' H' hx ⟨s,b,c,c',t,rfl,B⟩;rw[xc] at hx;obtain⟨d,hd,rfl⟩:=ja4.mp hx;have m0:=qg d (show n≠0 by lia);have m1:=qc d (show 0<n by lia);ac_nf;have B':=B.snoc (x:=d) (by lia);obtain⟨p,hp⟩:∃p:Nat,d%n=(p:Int):=⟨(d%n).toNat,by lia⟩;rw[hp,zk] at B';rw[hp] at m1 ⊢;have e1:(p:Int)/256=((p/256:Nat):Int):=by lia
  have e2:(p:Int)%256=((p%256:Nat):Int):=by lia
  rw[e1];have pk:p/256<k:=by lia
  refine Bc (SqL.of t) (DX (MF pk)) ?_;ac_nf;rw[e2];refine DQ ⟨by lia,1,bt1,by lia⟩ ?_;ac_nf;rw[zk,lX,GX]
  try rw[e1]
  refine cX t (by rw[Lz];exact pk) ?_;rw[mH pk];refine⟨Cz hl' s,_,_,_,Ah,rfl,?_⟩;rw[ja0,hd];exact B'
 ·rintro Z' H2 ⟨s2,b,c,c',t2,rfl,B⟩;rw[jp,ja9] at B;ac_nf;walk_at"f";ac_nf;refine⟨l,_,rfl,.inl (SqL.of t2),?_⟩;ac_nf;rw[Lz];refine⟨(k:Int),rfl,by lia,by lia,iV (n:=((k:Int)).toNat) (fun i Z' H'=>H'=H2/\∃(c1:Option V),Z'=[some (.int n),some (.ref a),some (.ref l),c,some (.int ((b%2^(256*i):Nat):Int)),c1,c']/\i<=k) ⟨rfl,none,?_,by lia⟩ ?_ ?_⟩
  ·rw[Nat.mul_zero,Nat.pow_zero,Nat.mod_one];rfl
  ·rintro i Z' H' hi ⟨rfl,c1,rfl,_⟩;have ik:i<k:=by lia
   ac_nf;rw[Int.zero_add];refine Bc (SqL.of t2) (DX (MF ik)) ?_;ac_nf;refine DQ ⟨20,10,JW (by lia),(by unfold Bt;decide),by decide⟩ ?_;ac_nf;refine DQ ⟨by lia,256,JW (ABM _ _),by lia⟩ ?_;ac_nf;rw[show ((i:Int)*256).toNat=256*i by lia,Q5,GX,rT];exact⟨rfl,_,rfl,by lia⟩
  ·rintro Z' H' ⟨rfl,c1,rfl,_⟩;ac_nf;have e:256*((k:Int)).toNat=256*(n/256+1).toNat:=by lia
   rw[e,rJ (by lia) B.lt];refine⟨HH,fun p hp=>?_⟩;exact fin p b _ (s2.trans (Am hp _)) Ah B
theorem Dz:C0 1 "full_bits" ["size"] wZ:=by
 refine co' ["size"] YK (fun h=>?_) fun nd H vs Q E hr h=>?_
 ·obtain⟨n,rfl,_⟩:=h;rfl
 obtain⟨n,rfl,h0,h1,q⟩:=h;refine⟨_,(Ad (Al (Ag DN (Ag MN Af (pv 0)) Af))),?_⟩;symm;refine DQ ⟨h0,1,(by unfold Bt;decide),by lia⟩ ?_;symm;rw[iU];exact q
theorem Vh:C0 2 "days_in" ["turn"] (kO K):=by
 refine co' ["turn","days","first","piece"] gM (fun h=>?_) fun nd H vs Q E hr h=>?_
 ·obtain⟨a,n,b,rfl,_⟩:=h;rfl
 obtain⟨a,n,b,rfl,hS,h0,h1,hb,q⟩:=h;refine⟨_,(Ac (Ak 1 (En Ab))
  (Ac (Ib PassesOwn.never rfl (Ka rfl Gu (Aa Af (Aa (pxT 0) (Aa (Bv rfl IV (Cj _ _)) Ab)))) (FJ (i:=2) nd rfl (by walk_at"o"))
   (Ac (Ak 3 (Ag GD (Ag Js (pxT 0) (pv 2)) (Ae Dz (Aa (Bv rfl IV (Cj _ _)) Ab))))
  (Ad (Ei (Ay (Aj Fl (pv 3) Af (Ao _))
   (Ad (BR (GK ve jd2 jd3 Ik (pv 1) (Aa (Ff rfl (Cw ["turn","days","first","piece"] ["turn","days","first","piece"] rfl rfl (by with_unfolding_all rfl) (by ac_rfl) rfl (by ac_rfl) rfl (by ac_rfl) (by walk_at"fm") (by with_unfolding_all rfl) (by with_unfolding_all rfl)) (Nu rfl Gu (Aa (Bv rfl IV (Cj _ _)) Ab)) (fun _ _ _ _=>(Jq (yD (Ag GD (Ag Js (pv 4) (pv 0)) Af) (fun _=>rfl)))) (fun _ _ _ _=>(Ag Bq (pv 3) (pv 0)))) Ab))))
   Aq)))))
  (Ad (Al (pv 1))))),?_⟩
 symm;refine⟨(by show 0<=sizeLine;decide),fun l hl=>?_⟩;have s1:=Am hl (.lst []);have t1:upd H l (.lst []) l=some (.lst ((dli b (256*0)).map V.int)):=Ah;generalize upd H l (.lst [])=H1 at s1 t1 ⊢;have hS1:=s1.tup hS;symm;walk_at"f";symm;refine An hS1 at0 ?_;symm;refine⟨0,n,256,rfl,by decide,by decide,Hh (by decide) (by decide) (by lia) (by lia) (by decide) (by decide),((n-1)/256+1).toNat,?_,?_⟩
 ·rw[Gf (by decide),xz h0,show n-0-1=n-1 by lia];lia
 refine LQ (fun i Z' H'=>An3 (Ax H H') (H' l=some (.lst ((dli b (256*i)).map V.int))) (Ex2 fun(c c':Option V)=>Z'=[some (.ref a),some (.ref l),c,c']/\i<=700)) ⟨s1,t1,none,none,rfl,by decide⟩ ?_ ?_
 ·rintro i Z' H2 hi ⟨s2,t2,c,c',rfl,_⟩;have hS2:=s2.tup hS;have i1:i<700:=by lia
  rw[show (0:Int)+(i:Int)*256=((256*i:Nat):Int) by lia];generalize hm:256*i=m at*
  symm;refine An hS2 at1 ?_;symm;refine DQ (show (0:Int)<=(m:Int) by lia) ?_;symm;refine⟨256,rfl,by decide,by decide,?_⟩;symm;rw[zk,Gb,Ca,Nat.and_two_pow_sub_one_eq_mod,ua,show(256:Int).toNat=256 from rfl];refine EY (fun Z' H'=>An3 (Ax H H') (H' l=some (.lst ((dli b (256*(i+1))).map V.int))) (Ex2 fun(c c':Option V)=>Z'=[some (.ref a),some (.ref l),c,c']/\i+1<=700)) ?_ (fun Z' H' h=>h);symm;refine CG (fun _=>?_) (fun p0=>?_)
  rotate_left
  ·symm;refine⟨s2,?_,_,_,rfl,by lia⟩;rw[t2,show 256*(i+1)=m+256 by lia,<-Yv];have:((((List.range 256).map fun i=>V.int (0+(i:Nat)))).filter fun v=>match v with | .int d=>b.testBit (m+d.toNat) | _=>false)=[]:=by
    rw[List.filter_eq_nil_iff];intro v hv;obtain⟨j,hj,rfl⟩:=yk.mp hv;have hj':j<256:=je2.mp hj;show ¬b.testBit (m+(0+(j:Int)).toNat)=true;rw[show (0+(j:Int)).toNat=j by lia];have e:(b/2^m%2^256).testBit j=b.testBit (m+j):=by
     rw[jc0,<-ua,kr,decide_eq_true hj',Bool.true_and]
    rw[<-e,show b/2^m%2^256=0 by lia,jb0];exact ze
   rw[this,List.map_nil,ya]
  symm;refine Nr rfl t2 ?_;symm;refine Em (WY ?_);symm;refine⟨256,rfl,by decide,by decide,?_⟩;refine IW Zq ?_ (fun _ _ _=>trivial) (fun v=>match v with | .int d=>b.testBit (m+d.toNat) | _=>false) (fun v=>match v with | .int d=>V.int ((m:Int)+d) | _=>.non) (fun x hx D ys Q' hD h=>?_) (fun x hx _ D ys Q' hD h=>?_) (fun D hD=>?_)
  ·rw[jp,uu];exact Eu (by decide)
  ·obtain⟨j,hj,rfl⟩:=yk.mp hx;have hj':j<256:=je2.mp hj;symm;refine DQ (show (0:Int)<=0+(j:Int) by lia) ?_;symm;rw[show (0+(j:Int)).toNat=j by lia,gU,decide_eq_true hj',Bool.true_and];replace h:Q' (b.testBit (m+(0+(j:Int)).toNat)) _:=h;rw[show (0+(j:Int)).toNat=j by lia] at h;exact h
  ·obtain⟨j,hj,rfl⟩:=yk.mp hx;symm;exact h
  have s3:=Am hD (.lst ((((List.range (Int.toNat 256)).map fun i=>V.int (0+(i:Nat))).filter fun v=>match v with | .int d=>b.testBit (m+d.toNat) | _=>false).map fun v=>match v with | .int d=>V.int ((m:Int)+d) | _=>.non))
  symm;refine⟨l,D,_,_,rfl,rfl,s3 _ _ t2,Ah,?_,?_⟩
  ·rw[jp,jp];refine zv (Nat.add_le_add (XC _ _) (jf3 _ _)) ?_;rw[jp,uu];exact zv (show m+Int.toNat 256<=200000 by have:Int.toNat 256=256:=rfl;lia) (by decide)
  symm;refine⟨Cz hl (s2.trans s3),?_,_,_,rfl,by lia⟩;rw[Ah,show Int.toNat 256=256 from rfl,Yv,show 256*(i+1)=m+256 by lia]
 ·rintro Z' H2 ⟨s2,t2,c,c',rfl,_⟩;symm;refine q l _ hl s2 ?_;rw[t2];unfold dli;obtain⟨k,hk⟩:∃k,256*((n-1)/256+1).toNat=n.toNat+k:=⟨256*((n-1)/256+1).toNat-n.toNat,by lia⟩;rw[hk,uA hb]
theorem Ex:C0 2 "bits_by" ["turn","size"] (fX K):=by
 refine co' ["turn","size","bits","width"] gO (fun h=>?_) fun nd H vs Q E hr h=>?_
 ·obtain⟨a,n,z,b,rfl,_⟩:=h;rfl
 obtain⟨a,n,z,b,rfl,hS,h0,h1,hb,z0,z1,q⟩:=h;refine⟨_,(Ac (Ak 2 (pxT 0))
  (Ac (Ak 3 (pxT 0))
  (Ac (FT PassesOwn.never (Aj GP (pv 3) (pv 1) (Ao _))
   (Ac (Ak 2 (Ag U9 (pv 2) (Ag MN (pv 2) (pv 3))))
  (Ad (Ak 3 (Ag CW (pv 3) Af)))))
  (Ad (Al (Ag GD (pv 2) (Ae Dz (Aa (pv 1) Ab)))))))),?_⟩
 symm;refine An hS at1 ?_;symm;refine An hS at0 ?_;symm;refine⟨fun m Z' H'=>H'=H/\∃wd c:Nat,Z'=[some (.ref a),some (.int z),some (.int (c:Int)),some (.int (wd:Int))]/\n.toNat∣wd/\0<wd/\wd<=300000/\Ez n.toNat b wd c/\m=z.toNat-wd,
  ⟨_,rfl,n.toNat,b,?_,Nat.dvd_refl _,by lia,by lia,Ez.start hb,rfl⟩,?_⟩
 ·have e:((n.toNat:Nat):Int)=n:=by lia
  rw[e];rfl
 rintro m Z' H' ⟨rfl,wd,c,rfl,hd,w0,w1,S,rfl⟩;symm;refine CG (fun cc=>?_) (fun cc=>?_)
 ·refine⟨_,fun Z' H' hh=>hh,?_⟩;symm;refine DQ ⟨by lia,wd,JW S.lt,by lia⟩ ?_;symm;refine DQ ⟨20,2,JW (by lia),(by unfold Bt;decide),by decide⟩ ?_;symm;rw[zk,Q5,GX];refine⟨z.toNat-wd*2,by lia,rfl,wd*2,c ||| (c <<< wd),?_,Nat.dvd_trans hd (Nat.dvd_mul_right _ _),by lia,by lia,S.dbl hd,rfl⟩;rfl
 ·symm;refine⟨z,rfl,by lia,by lia,?_⟩;symm;rw[Ca];exact q _ (S.cut (by lia))
theorem Dw:C0 3 "stretched" ["turn","size"] (Ov K):=by
 refine co' ["turn","size"] X4 (fun h=>?_) fun nd H vs Q E hr h=>?_
 ·obtain⟨a,n,z,b,rfl,_⟩:=h;rfl
 obtain⟨a,n,z,b,rfl,hS,h0,h1,hb,z0,z1,hd,q⟩:=h;refine⟨_,(Ac (BR (Ae CJ (Aa (pv 1) Ab)))
  (Ac (Ay (Aj Ek (Ag Bp (pv 1) (pxT 0)) Af (Ao _))
   (Ad BX)
   Aq)
  (Ac (BR (Ae Dy (Aa (pv 1) Ab)))
  (Ad (Al (Az (Aa (pv 1) (Aa (Ae Ex (Aa (pv 0) (Aa (pv 1) Ab))) Ab)))))))),?_⟩
 symm;refine⟨z,rfl,by lia,?_⟩;symm;refine An hS at0 ?_;refine DQ h0 ?_;symm;rw[je0 hd];refine FN rfl ?_;symm;refine⟨z,rfl,z1,?_⟩;symm;refine⟨a,n,z,b,rfl,hS,h0,(by lia),hb,z0,z1,fun c S=>?_⟩;symm;exact⟨(by show 2<=sizeLine;decide),fun p hp=>q p c hp S⟩
theorem Ec:C0 4 "common_size" ["one","other"] (ACO K):=by
 refine co' ["one","other","size"] Ua (fun h=>?_) fun nd H vs Q E hr h=>?_
 ·obtain⟨a1,a2,n1,n2,b1,b2,rfl,_⟩:=h;rfl
 obtain⟨a1,a2,n1,n2,b1,b2,rfl,S1,S2,p1,p2,l1,l2,lz,q⟩:=h;refine⟨_,(Ac (Ak 2 (Ae Mq (Aa (pxT 0) (Aa (pxT 1) Ab))))
  (Ac (BR (Ae Dy (Aa (pv 2) Ab)))
  (Ad (Al (pv 2))))),?_⟩
 symm;refine An S1 at0 ?_;symm;refine An S2 at0 ?_;symm;refine⟨n1,n2,rfl,p1,p2,Bh (by lia) (by lia) (by decide),Bh (by lia) (by lia) (by decide),fun H1 s1=>?_⟩;symm;refine⟨_,rfl,lz,?_⟩;symm;exact q _ s1
theorem JT:C0 5 "both" ["one","other"] (spJ K (Bo and)):=by
 refine co' ["one","other","size"] xM (fun h=>?_) fun nd H vs Q E hr h=>?_
 ·obtain⟨a1,a2,n1,n2,b1,b2,rfl,_⟩:=h;rfl
 obtain⟨a1,a2,n1,n2,b1,b2,rfl,W,lz,q⟩:=h;have fl:=Br W.p1 W.p2;have l1:=W.l1;have l2:=W.l2;refine⟨_,(Ac (Ak 2 (Ae Ec (Aa (pv 0) (Aa (pv 1) Ab))))
  (Ad (Al (Az (Aa (pv 2) (Aa (Ag GD (Ae Ex (Aa (pv 0) (Aa (pv 2) Ab))) (Ae Ex (Aa (pv 1) (Aa (pv 2) Ab)))) Ab)))))),?_⟩
 ac_nf;refine⟨a1,a2,n1,n2,b1,b2,rfl,W.s1,W.s2,W.p1,W.p2,W.l1,W.l2,lz,fun H1 s1=>?_⟩;ac_nf;refine⟨a1,n1,_,b1,rfl,s1.tup W.s1,W.p1,(by lia),W.k1,fl.1,lz,fun c1 T1=>?_⟩;ac_nf;refine⟨a2,n2,_,b2,rfl,s1.tup W.s2,W.p2,(by lia),W.k2,fl.1,lz,fun c2 T2=>?_⟩;ac_nf;rw[Ca];refine⟨HH,fun p hp=>?_⟩;have l:c1 &&& c2<2^(Bx n1 n2).toNat:=Nat.and_lt_two_pow _ T2.lt;exact q p _ _ (s1.trans (Am hp _)) Ah l ⟨l,fun i hi=>by rw[Qr,T1.bit i hi,T2.bit i hi]⟩
theorem Sw:C0 5 "either" ["one","other"] (spJ K (Bo or)):=by
 refine co' ["one","other","size"] lC (fun h=>?_) fun nd H vs Q E hr h=>?_
 ·obtain⟨a1,a2,n1,n2,b1,b2,rfl,_⟩:=h;rfl
 obtain⟨a1,a2,n1,n2,b1,b2,rfl,W,lz,q⟩:=h;have fl:=Br W.p1 W.p2;have l1:=W.l1;have l2:=W.l2;refine⟨_,(Ac (Ak 2 (Ae Ec (Aa (pv 0) (Aa (pv 1) Ab))))
  (Ad (Al (Az (Aa (pv 2) (Aa (Ag U9 (Ae Ex (Aa (pv 0) (Aa (pv 2) Ab))) (Ae Ex (Aa (pv 1) (Aa (pv 2) Ab)))) Ab)))))),?_⟩
 ac_nf;refine⟨a1,a2,n1,n2,b1,b2,rfl,W.s1,W.s2,W.p1,W.p2,W.l1,W.l2,lz,fun H1 s1=>?_⟩;ac_nf;refine⟨a1,n1,_,b1,rfl,s1.tup W.s1,W.p1,(by lia),W.k1,fl.1,lz,fun c1 T1=>?_⟩;ac_nf;refine⟨a2,n2,_,b2,rfl,s1.tup W.s2,W.p2,(by lia),W.k2,fl.1,lz,fun c2 T2=>?_⟩;ac_nf;rw[GX];refine⟨HH,fun p hp=>?_⟩;have l:=Nat.or_lt_two_pow T1.lt T2.lt;exact q p _ _ (s1.trans (Am hp _)) Ah l ⟨l,fun i hi=>by rw[jb6,T1.bit i hi,T2.bit i hi]⟩
theorem Y8:C0 5 "unlike" ["one","other"] (spJ K (Bo xor)):=by
 refine co' ["one","other","size"] lA (fun h=>?_) fun nd H vs Q E hr h=>?_
 ·obtain⟨a1,a2,n1,n2,b1,b2,rfl,_⟩:=h;rfl
 obtain⟨a1,a2,n1,n2,b1,b2,rfl,W,lz,q⟩:=h;have fl:=Br W.p1 W.p2;have l1:=W.l1;have l2:=W.l2;refine⟨_,(Ac (Ak 2 (Ae Ec (Aa (pv 0) (Aa (pv 1) Ab))))
  (Ad (Al (Az (Aa (pv 2) (Aa (Ag aX (Ae Ex (Aa (pv 0) (Aa (pv 2) Ab))) (Ae Ex (Aa (pv 1) (Aa (pv 2) Ab)))) Ab)))))),?_⟩
 ac_nf;refine⟨a1,a2,n1,n2,b1,b2,rfl,W.s1,W.s2,W.p1,W.p2,W.l1,W.l2,lz,fun H1 s1=>?_⟩;ac_nf;refine⟨a1,n1,_,b1,rfl,s1.tup W.s1,W.p1,(by lia),W.k1,fl.1,lz,fun c1 T1=>?_⟩;ac_nf;refine⟨a2,n2,_,b2,rfl,s1.tup W.s2,W.p2,(by lia),W.k2,fl.1,lz,fun c2 T2=>?_⟩;ac_nf;rw[Lb];refine⟨HH,fun p hp=>?_⟩;have l:=Nat.xor_lt_two_pow T1.lt T2.lt;exact q p _ _ (s1.trans (Am hp _)) Ah l ⟨l,fun i hi=>by rw[Nat.testBit_xor,T1.bit i hi,T2.bit i hi]⟩
theorem HR:C0 2 "other_days" ["turn"] (qI K):=by
 refine co' ["turn"] WF (fun h=>?_) fun nd H vs Q E hr h=>?_
 ·obtain⟨a,n,b,rfl,_⟩:=h;rfl
 obtain⟨a,n,b,rfl,S,n0,n1,hb,q⟩:=h;refine⟨_,(Ad (Al (Az (Aa (pxT 0) (Aa (Ag aX (pxT 0) (Ae Dz (Aa (pxT 0) Ab))) Ab))))),?_⟩;symm;refine An S at0 ?_;symm;refine An S at1 ?_;symm;refine An S at0 ?_;symm;refine⟨n,rfl,by lia,by lia,?_⟩;symm;rw[Lb];refine⟨HH,fun p hp=>q p _ hp ?_ fun i hi=>?_⟩
 ·exact Nat.xor_lt_two_pow hb (by have:=kx n.toNat;lia)
 ·rw[Nat.testBit_xor,Nat.testBit_two_pow_sub_one];simp[hi]
theorem Oa:C0 6 "without" ["one","other"] (spJ K (Bo bn)):=by
 refine co' ["one","other"] f9 (fun h=>?_) fun nd H vs Q E hr h=>?_
 ·obtain⟨a1,a2,n1,n2,b1,b2,rfl,_⟩:=h;rfl
 obtain⟨a1,a2,n1,n2,b1,b2,rfl,W,lz,q⟩:=h;refine⟨_,(Ad (Al (Ae JT (Aa (pv 0) (Aa (Ae HR (Aa (pv 1) Ab)) Ab))))),?_⟩;ac_nf;refine⟨a2,n2,b2,rfl,W.s2,W.p2,W.l2,W.k2,fun p c hp hc hbit=>?_⟩;ac_nf;refine⟨a1,p,n1,n2,b1,c,rfl,⟨(Am hp _).tup W.s1,SqT.of Ah,W.p1,W.p2,W.l1,W.l2,W.k1,hc⟩,lz,fun p3 c3 H3 s3 hp3 lt B=>?_⟩;have:=W.p2;exact q p3 c3 H3 ((Am hp _).trans s3) hp3 lt ⟨lt,fun i hi=>by rw[B.bit i hi,hbit _ (ji6 _ (by lia))];rfl⟩
theorem HS:C0 2 "later" ["turn","number"] (qQ K):=by
 refine co' ["turn","number","shift","bits"] qp (fun h=>?_) fun nd H vs Q E hr h=>?_
 ·obtain⟨a,n,num,b,rfl,_⟩:=h;rfl
 obtain⟨a,n,num,b,rfl,hS,h0,h1,hb,q⟩:=h;refine⟨_,(Ac (Ak 2 (Ag Bp (pv 1) (pxT 0)))
  (Ac (Ak 3 (Ag U9 (Ag MN (pxT 0) (pv 2)) (Ag Js (pxT 0) (Ag DN (pxT 0) (pv 2)))))
  (Ad (Al (Az (Aa (pxT 0) (Aa (Ag GD (pv 3) (Ae Dz (Aa (pxT 0) Ab))) Ab))))))),?_⟩
 have m0:=qg num (show n≠0 by lia);have m1:=qc num h0;symm;refine An hS at0 ?_;refine DQ h0 ?_;symm;refine An hS at1 ?_;symm;refine DQ ⟨m0,n.toNat,JW hb,by lia⟩ ?_;symm;refine An hS at1 ?_;symm;refine An hS at0 ?_;symm;refine DQ (show (0:Int)<=n-num%n by lia) ?_;symm;refine An hS at0 ?_;symm;refine An hS at0 ?_;symm;refine⟨n,rfl,by lia,by lia,?_⟩;symm;have e:(n-num%n).toNat=n.toNat-(num%n).toNat:=by lia
 rw[Q5,Gb,GX,Ca,e];refine⟨(by show 2<=sizeLine;decide),fun p hp=>?_⟩;exact q p hp
theorem Kh:C0 3 "ones_in" ["bits"] wN:=by
 refine co' ["bits","fields","width","each_second"] gC (fun h=>?_) fun nd H vs Q E hr h=>?_
 ·obtain⟨b,n,rfl,_⟩:=h;rfl
 obtain⟨b,n,rfl,hb,hn,q⟩:=h;refine⟨_,(Ac (Ak 1 (pv 0))
  (Ac (Ak 2 Af)
  (Ac (FT PassesOwn.never (Aj Fl (Ag Js (pv 1) (pv 2)) Af (Ao _))
   (Ac (Ak 3 (Ae Ex (Aa (Az (Aa (Ag CW Af (pv 2)) (Aa (Ae Dz (Aa (pv 2) Ab)) Ab))) (Aa (aV PySem.F.plainAttrs_int PySem.F.slot_int_bit_length PySem.F.type_int_bit_length Wt (pv 1)) Ab))))
  (Ac (Ak 1 (Ag Bq (Ag GD (pv 1) (pv 3)) (Ag GD (Ag Js (pv 1) (pv 2)) (pv 3))))
  (Ad (Ak 2 (Ag CW Af (pv 2)))))))
  (Ad (Al (pv 1)))))),?_⟩
 symm;refine⟨fun m Z' H'=>Ax H H'/\∃f w:Nat,∃x:Option V,Z'=[some (.int (b:Int)),some (.int (f:Int)),some (.int (w:Int)),x]/\0<w/\w<=300000/\f<2^n/\Dg w f (cnt b n)/\m=n-w,
  ⟨_,Ax.refl _,b,1,none,rfl,by decide,by decide,hb,Dg.start n b hb,rfl⟩,?_⟩
 rintro m Z' H1 ⟨s1,f,w,x,rfl,w0,w1,hf,D,rfl⟩;symm;refine DQ (show (0:Int)<=(w:Int) by lia) ?_;symm;rw[zk,Gb];refine CG (fun cc=>?_) (fun cc=>?_)
 ·have f1:2^w<=f:=by
   have h1:0<f >>> w:=by lia
   rw[ua] at h1;exact Nat.le_of_not_lt fun z=>by rw[Nat.div_eq_of_lt z] at h1;lia
  have wn:w<n:=by
   refine jd8 fun z=>?_;have:=vk (show 0<2 by decide) z;lia
  have f0:f≠0:=by have:=kx w;lia
  have l1:f<2^(f.log2+1):=Nat.lt_log2_self;have l2:f.log2+1<=n:=by
   have:=Nat.log2_self_le f0;refine jd8 fun z=>?_;have:=vk (show 0<2 by decide) z;lia
  refine⟨_,fun Z' H' hh=>hh,?_⟩;symm;refine DQ ⟨3,20,(by unfold Bt;decide),JW (by lia),by decide⟩ ?_;symm;refine⟨(w:Int),rfl,by lia,by lia,?_⟩;symm;rw[zk,show(2:Int)*(w:Int)=((2*w:Nat):Int) by lia];refine⟨HH,fun p hp=>?_⟩;have s2:=Am hp (.tup [.int ((2*w:Nat):Int),.int ((2^w-1:Nat):Int)]);have t2:upd H1 p (.tup [.int ((2*w:Nat):Int),.int ((2^w-1:Nat):Int)]) p=some (.tup [.int ((2*w:Nat):Int),.int ((2^w-1:Nat):Int)]):=Ah;generalize upd H1 p (.tup [.int ((2*w:Nat):Int),.int ((2^w-1:Nat):Int)])=H2 at s2 t2 ⊢;symm;rw[J2 f0];symm;refine⟨p,_,_,_,rfl,SqT.of t2,by lia,by lia,?_,by lia,by lia,fun c S=>?_⟩
  ·rw[zk];have:=vk (show 0<2 by decide) (show w<=2*w by lia);have:=kx w;lia
  rw[zk,show(((f.log2+1:Nat):Int)).toNat=f.log2+1 by lia] at S;symm;refine DQ (show (0:Int)<=(w:Int) by lia) ?_;symm;refine DQ ⟨3,20,(by unfold Bt;decide),JW (by lia),by decide⟩ ?_;symm;have E1:=dq w0 l1 S 0;have E2:=dq w0 l1 S w;rw[Nat.pow_zero,Nat.div_one] at E1;obtain⟨d1,d2⟩:=D.pair w0 E1 E2;rw[zk,Gb,ua,Ca,Ca];refine⟨n-2*w,by lia,s1.trans s2,(f &&& c)+(f/2^w &&& c),2*w,some (.int (c:Int)),?_,by lia,by lia,by lia,d1,rfl⟩;rw[jg1];rfl
 ·have fl:f<2^w:=by
   have h1:f >>> w=0:=Nat.eq_zero_of_not_pos fun z=>cc (Int.natCast_pos.mpr z);rw[ua] at h1;exact jd8 fun z=>by
    have:=(Nat.le_div_iff_mul_le (kx w)).mpr (show 1*2^w<=f by lia);lia
  symm;rw[D.last fl];exact q _ s1
theorem Mp:C0 4 "days_ahead" ["turn","day"] (qY K):=by
 refine co' ["turn","day","part"] WN (fun h=>?_) fun nd H vs Q E hr h=>?_
 ·obtain⟨a,n,d,b,rfl,_⟩:=h;rfl
 obtain⟨a,n,d,b,rfl,hS,h0,h1,hb,bd,q⟩:=h;have m0:=qg d (show n≠0 by lia);have m1:=qc d h0;refine⟨_,(Ac (Ak 2 (Ag GD (pxT 0) (Ae Dz (Aa (Ag Bp (pv 1) (pxT 0)) Ab))))
  (Ad (Al (Ag Bq (Ag CW (Ag Bs (pv 1) (pxT 0)) (Ae Kh (Aa (pxT 0) Ab))) (Ae Kh (Aa (pv 2) Ab)))))),?_⟩
 symm;refine An hS at1 ?_;symm;refine An hS at0 ?_;refine DQ h0 ?_;symm;refine⟨d%n,rfl,m0,by lia,?_⟩;symm;rw[Ca];refine An hS at0 ?_;symm;refine DQ (Fb h0 (by lia)) ?_;symm;refine An hS at1 ?_;symm;refine⟨b,n.toNat,rfl,hb,by lia,fun H1 s1=>?_⟩;have cl:=oN b n.toNat;refine DQ ⟨260,20,oY bd h0,JW (by lia),by decide⟩ ?_;symm;refine⟨_,(d%n).toNat,rfl,GZ _ _,by lia,fun H2 s2=>?_⟩;symm;rw[Y4 (c:=b) fun i hi=>Es _ _ _ hi];exact q _ (s1.trans s2)
theorem bh:C0 5 "how_many" ["turn","first","end"] (wR K):=by
 refine co' ["turn","first","end"] aF (fun h=>?_) fun nd H vs Q E hr h=>?_
 ·obtain⟨a,n,f',e,b,rfl,_⟩:=h;rfl
 obtain⟨a,n,f',e,b,rfl,hS,h0,h1,hb,b1,b2,q⟩:=h;refine⟨_,(Ad (Al (Ag DN (Ae Mp (Aa (pv 0) (Aa (pv 2) Ab))) (Ae Mp (Aa (pv 0) (Aa (pv 1) Ab)))))),?_⟩;symm;refine⟨a,n,e,b,rfl,hS,h0,h1,hb,b2.mono (by decide),fun H1 s1=>?_⟩;symm;refine⟨a,n,f',b,rfl,s1.tup hS,h0,h1,hb,b1.mono (by decide),fun H2 s2=>?_⟩;symm;exact q _ (s1.trans s2)
theorem JS:C0 6 "gathered" ["turn","barred","step","join"] (ACL K mg [("either",spJ K (Bo or)),("unlike",spJ K (Bo xor))]):=by
 refine co' ["turn","barred","step","join","told","free","stride"] aG (fun h=>?_) fun nd H vs Q E hr h=>?_
 ·obtain⟨a1,a2,f',n,e,b,c,x,J,rfl,_⟩:=h;rfl
 obtain⟨a1,a2,f',n,e,b,c,x,J,rfl,hxj,hmg,S1,S2,n0,n1,hb,hc,he,q⟩:=h;refine⟨_,(Ac (Ak 4 (pv 0))
  (Ac (Ak 5 (Ae HR (Aa (pv 1) Ab)))
  (Ac (Ak 6 (pv 2))
  (Ac (FT PassesOwn.never (Aj GP (BJ Y6 rfl uo PyProof.Rows.boot_abs (Aa (pv 6) Ab)) (pxT 0) (Ao _))
   (Ac (Ak 4 (rR (i:=3) (k:=5) (HF.cons Sw (HF.cons Y8 HF.nil)) (hr.mono (by decide)) rfl (by first | exact Or.inl rfl | exact Or.inr (Or.inl rfl) | exact Or.inr (Or.inr rfl)) (Aa (pv 4) (Aa (Ae JT (Aa (Ae HS (Aa (pv 4) (Aa (pv 6) Ab))) (Aa (pv 5) Ab))) Ab))))
  (Ac (Ak 5 (Ae JT (Aa (pv 5) (Aa (Ae HS (Aa (pv 5) (Aa (pv 6) Ab))) Ab))))
  (Ad (Ak 6 (Ag CW Af (pv 6)))))))
  (Ad (Al (pv 4))))))),?_⟩
 ac_nf;refine⟨a2,n,c,rfl,S2,n0,n1,hc,fun pf fc hpf lf bf=>?_⟩;have s1:=Am hpf (.tup [.int n,.int (fc:Int)]);have t1:upd H pf (.tup [.int n,.int (fc:Int)]) pf=some (.tup [.int n,.int (fc:Int)]):=Ah;generalize upd H pf (.tup [.int n,.int (fc:Int)])=H1 at s1 t1 ⊢;have ls:=lcm_self n0;ac_nf;refine⟨fun m Z' H'=>Ax H H'/\∃(pt pf:Addr) (g fr k:Nat),0<k/\k<=300000/\H' pt=some (.tup [.int n,.int (g:Int)])/\SqT K H' pf [.int n,.int (fr:Int)]/\g<2^n.toNat/\fr<2^n.toNat/\(∀r,Zh J n g fr (e*(k:Int)) r->Zh J n b fc e r)/\
  Z'=[some (.ref a1),some (.ref a2),some (.int e),some (.ref f'),some (.ref pt),some (.ref pf),some (.int (e*(k:Int)))]/\m=n.toNat-k,
  ⟨_,s1,a1,pf,b,fc,1,by decide,by decide,s1 _ _ S1,SqT.of t1,hb,lf,(fun r h=>by rwa [show e*((1:Nat):Int)=e by lia] at h),(by rw[show e*((1:Nat):Int)=e by lia];rfl),rfl⟩,?_⟩
 rintro m Z' H2 ⟨s2,pt,pf,g,fr,k,k0,k1,Tt,Tf,lg,lfr,G,rfl,rfl⟩;have ek:(e*(k:Int)).natAbs=k:=by rcases he with h | h<;>rw[h]<;>lia
 ac_nf;refine⟨_,rfl,?_⟩;ac_nf;refine An (SqT.of (s2 _ _ S1)) at0 ?_;ac_nf;have mulb:∀x:Int,e*x=x\/e*x= -x:=fun x=>by rcases he with h | h<;>rw[h]<;>lia
 refine CG (fun hlt=>?_) (fun hge=>?_)
 ·have kn:(k:Int)<n:=by
   have:=mulb k;split at hlt<;>lia
  refine⟨fun Z' H'=>∃m',m'<n.toNat-k/\Ax H H'/\∃(pt pf:Addr) (g fr k:Nat),0<k/\k<=300000/\H' pt=some (.tup [.int n,.int (g:Int)])/\SqT K H' pf [.int n,.int (fr:Int)]/\g<2^n.toNat/\fr<2^n.toNat/\(∀r,Zh J n g fr (e*(k:Int)) r->Zh J n b fc e r)/\
   Z'=[some (.ref a1),some (.ref a2),some (.int e),some (.ref f'),some (.ref pt),some (.ref pf),some (.int (e*(k:Int)))]/\m'=n.toNat-k,fun Z' H' hh=>hh,?_⟩
  ac_nf;refine lO rfl hxj hmg ?_;ac_nf;refine⟨pt,n,_,g,rfl,SqT.of Tt,n0,n1,lg,fun p1 h1=>?_⟩;have s3:=Am h1 (.tup [.int n,.int ((lat n.toNat g (e*(k:Int)%n).toNat:Nat):Int)]);have t3:upd H2 p1 (.tup [.int n,.int ((lat n.toNat g (e*(k:Int)%n).toNat:Nat):Int)]) p1=some _:=Ah;generalize upd H2 p1 (.tup [.int n,.int ((lat n.toNat g (e*(k:Int)%n).toNat:Nat):Int)])=H3 at s3 t3 ⊢;ac_nf;refine⟨p1,pf,n,n,_,fr,rfl,⟨SqT.of t3,s3.tup Tf,n0,n0,n1,n1,JL _ _ _,lfr⟩,by rw[ls];exact n1,fun p2 c2 H4 s4 t4 B2 R2=>?_⟩;rw[ls] at t4 B2 R2;ac_nf;refine⟨pt,p2,n,n,g,c2,rfl,⟨SqT.of (s4 _ _ (s3 _ _ Tt)),SqT.of t4,n0,n0,n1,n1,lg,B2⟩,(by rw[ls];exact n1),fun p3 c3 H5 s5 t5 B3 R3=>?_⟩;rw[ls] at t5 B3 R3;ac_nf;refine⟨pf,n,_,fr,rfl,s5.tup (s4.tup (s3.tup Tf)),n0,n1,lfr,fun p4 h4=>?_⟩;have s6:=Am h4 (.tup [.int n,.int ((lat n.toNat fr (e*(k:Int)%n).toNat:Nat):Int)]);have t6:upd H5 p4 (.tup [.int n,.int ((lat n.toNat fr (e*(k:Int)%n).toNat:Nat):Int)]) p4=some _:=Ah;generalize upd H5 p4 (.tup [.int n,.int ((lat n.toNat fr (e*(k:Int)%n).toNat:Nat):Int)])=H6 at s6 t6 ⊢;ac_nf;refine⟨pf,p4,n,n,fr,_,rfl,⟨s6.tup (s5.tup (s4.tup (s3.tup Tf))),SqT.of t6,n0,n0,n1,n1,lfr,JL _ _ _⟩,by rw[ls];exact n1,fun p5 c5 H7 s7 t7 B5 R5=>?_⟩;rw[ls] at t7 B5 R5;ac_nf;refine DQ ⟨2,20,JW (by decide),(by show(e*(k:Int)).natAbs<2^20;rw[ek];lia),by decide⟩ ?_;ac_nf;have e2:e*((2*k:Nat):Int)=2*(e*(k:Int)):=by rw[ji2,Int.mul_left_comm];rfl
  refine⟨n.toNat-2*k,by lia,s2.trans (s3.trans (s4.trans (s5.trans (s6.trans s7)))),p3,p5,c3,c5,2*k,by lia,by lia,s7 _ _ (s6 _ _ t5),SqT.of t7,B3,B5,(fun r h=>G r (.step (by lia) R2 R3 R5 (by rwa [e2] at h))),by rw[e2];rfl,rfl⟩
 ·have kn:n.toNat<=k:=by
   have:=mulb k;split at hge<;>lia
  ac_nf;exact q pt g H2 s2 Tt lg ⟨fc,⟨lf,bf⟩,G g (.stop (by lia))⟩
theorem bW:C0 7 "upon" ["R","S"] (spJ K (UpR 1)):=by
 refine co' ["R","S","size","days"] xF (fun h=>?_) fun nd H vs Q E hr h=>?_
 ·obtain⟨a1,a2,n1,n2,b1,b2,rfl,_⟩:=h;rfl
 obtain⟨a1,a2,n1,n2,b1,b2,rfl,W,lz,q⟩:=h;have fl:=Br W.p1 W.p2;refine⟨_,(Ac (Ak 2 (Ae Ec (Aa (pv 0) (Aa (pv 1) Ab))))
  (Ac (Ak 3 (Ae Dw (Aa (pv 0) (Aa (pv 2) Ab))))
  (Ad (Al (Ae JT (Aa (pv 3) (Aa (Ae JS (Aa (Ae Dw (Aa (pv 1) (Aa (pv 2) Ab))) (Aa (Ae HS (Aa (pv 3) (Aa Af Ab))) (Aa Af (Aa (Bv rfl Ii (Gx _)) Ab))))) Ab))))))),?_⟩
 ac_nf;refine⟨a1,a2,n1,n2,b1,b2,rfl,W.s1,W.s2,W.p1,W.p2,W.l1,W.l2,lz,fun H1 s1=>?_⟩;generalize hz:Bx n1 n2=z at*
 have z0:=fl.1;have d1:n1∣z:=fl.2.1;have d2:n2∣z:=fl.2.2.1;have ls:=lcm_self z0;ac_nf;refine⟨a1,n1,z,b1,rfl,s1.tup W.s1,W.p1,W.l1,W.k1,z0,lz,d1,fun pr cr hr1 Sr=>?_⟩;have s2:=Am hr1 (.tup [.int z,.int (cr:Int)]);have t2:upd H1 pr (.tup [.int z,.int (cr:Int)]) pr=some (.tup [.int z,.int (cr:Int)]):=Ah;generalize upd H1 pr (.tup [.int z,.int (cr:Int)])=H2 at s2 t2 ⊢;ac_nf;refine⟨a2,n2,z,b2,rfl,s2.tup (s1.tup W.s2),W.p2,W.l2,W.k2,z0,lz,d2,fun ps cs hs1 Ss=>?_⟩;have s3:=Am hs1 (.tup [.int z,.int (cs:Int)]);have t3:upd H2 ps (.tup [.int z,.int (cs:Int)]) ps=some (.tup [.int z,.int (cs:Int)]):=Ah;generalize upd H2 ps (.tup [.int z,.int (cs:Int)])=H3 at s3 t3 ⊢;ac_nf;refine⟨pr,z,_,cr,rfl,s3.tup (SqT.of t2),z0,lz,Sr.lt,fun pl hl1=>?_⟩;have s4:=Am hl1 (.tup [.int z,.int ((lat z.toNat cr (1%z).toNat:Nat):Int)]);have t4:upd H3 pl (.tup [.int z,.int ((lat z.toNat cr (1%z).toNat:Nat):Int)]) pl=some _:=Ah;generalize upd H3 pl (.tup [.int z,.int ((lat z.toNat cr (1%z).toNat:Nat):Int)])=H4 at s4 t4 ⊢;ac_nf;refine⟨ps,pl,_,z,1,cs,_,_,or,rfl,qk,Ii,s4 _ _ t3,SqT.of t4,z0,lz,Ss.lt,JL _ _ _,.inl rfl,fun pg g H5 s5 t5 lg G=>?_⟩;ac_nf;refine⟨pr,pg,z,z,cr,g,rfl,⟨s5.tup (s4.tup (s3.tup (SqT.of t2))),SqT.of t5,z0,z0,lz,lz,Sr.lt,lg⟩,by rw[ls];exact lz,fun p c H6 s6 t6 B R=>?_⟩;rw[ls] at t6 B R;exact q p c H6 (s1.trans (s2.trans (s3.trans (s4.trans (s5.trans s6))))) t6 B ⟨cr,cs,g,Sr,Ss,G,R⟩
theorem XF:C0 7 "until" ["R","S"] (spJ K (UpR (-1))):=by
 refine co' ["R","S","size","days"] qj (fun h=>?_) fun nd H vs Q E hr h=>?_
 ·obtain⟨a1,a2,n1,n2,b1,b2,rfl,_⟩:=h;rfl
 obtain⟨a1,a2,n1,n2,b1,b2,rfl,W,lz,q⟩:=h;have fl:=Br W.p1 W.p2;refine⟨_,(Ac (Ak 2 (Ae Ec (Aa (pv 0) (Aa (pv 1) Ab))))
  (Ac (Ak 3 (Ae Dw (Aa (pv 0) (Aa (pv 2) Ab))))
  (Ad (Al (Ae JT (Aa (pv 3) (Aa (Ae JS (Aa (Ae Dw (Aa (pv 1) (Aa (pv 2) Ab))) (Aa (Ae HS (Aa (pv 3) (Aa (Gj El Af) Ab))) (Aa (Gj El Af) (Aa (Bv rfl Ii (Gx _)) Ab))))) Ab))))))),?_⟩
 ac_nf;refine⟨a1,a2,n1,n2,b1,b2,rfl,W.s1,W.s2,W.p1,W.p2,W.l1,W.l2,lz,fun H1 s1=>?_⟩;generalize hz:Bx n1 n2=z at*
 have z0:=fl.1;have d1:n1∣z:=fl.2.1;have d2:n2∣z:=fl.2.2.1;have ls:=lcm_self z0;ac_nf;refine⟨a1,n1,z,b1,rfl,s1.tup W.s1,W.p1,W.l1,W.k1,z0,lz,d1,fun pr cr hr1 Sr=>?_⟩;have s2:=Am hr1 (.tup [.int z,.int (cr:Int)]);have t2:upd H1 pr (.tup [.int z,.int (cr:Int)]) pr=some (.tup [.int z,.int (cr:Int)]):=Ah;generalize upd H1 pr (.tup [.int z,.int (cr:Int)])=H2 at s2 t2 ⊢;ac_nf;refine⟨a2,n2,z,b2,rfl,s2.tup (s1.tup W.s2),W.p2,W.l2,W.k2,z0,lz,d2,fun ps cs hs1 Ss=>?_⟩;have s3:=Am hs1 (.tup [.int z,.int (cs:Int)]);have t3:upd H2 ps (.tup [.int z,.int (cs:Int)]) ps=some (.tup [.int z,.int (cs:Int)]):=Ah;generalize upd H2 ps (.tup [.int z,.int (cs:Int)])=H3 at s3 t3 ⊢;ac_nf;refine⟨pr,z,_,cr,rfl,s3.tup (SqT.of t2),z0,lz,Sr.lt,fun pl hl1=>?_⟩;have s4:=Am hl1 (.tup [.int z,.int ((lat z.toNat cr (-1%z).toNat:Nat):Int)]);have t4:upd H3 pl (.tup [.int z,.int ((lat z.toNat cr (-1%z).toNat:Nat):Int)]) pl=some _:=Ah;generalize upd H3 pl (.tup [.int z,.int ((lat z.toNat cr (-1%z).toNat:Nat):Int)])=H4 at s4 t4 ⊢;ac_nf;refine⟨ps,pl,_,z,-1,cs,_,_,or,rfl,qk,Ii,s4 _ _ t3,SqT.of t4,z0,lz,Ss.lt,JL _ _ _,.inr rfl,fun pg g H5 s5 t5 lg G=>?_⟩;ac_nf;refine⟨pr,pg,z,z,cr,g,rfl,⟨s5.tup (s4.tup (s3.tup (SqT.of t2))),SqT.of t5,z0,z0,lz,lz,Sr.lt,lg⟩,by rw[ls];exact lz,fun p c H6 s6 t6 B R=>?_⟩;rw[ls] at t6 B R;exact q p c H6 (s1.trans (s2.trans (s3.trans (s4.trans (s5.trans s6))))) t6 B ⟨cr,cs,g,Sr,Ss,G,R⟩
theorem oU:C0 7 "till" ["R","S"] (spJ K TiR):=by
 refine co' ["R","S","size"] xG (fun h=>?_) fun nd H vs Q E hr h=>?_
 ·obtain⟨a1,a2,n1,n2,b1,b2,rfl,_⟩:=h;rfl
 obtain⟨a1,a2,n1,n2,b1,b2,rfl,W,lz,q⟩:=h;have fl:=Br W.p1 W.p2;refine⟨_,(Ac (Ak 2 (Ae Ec (Aa (pv 0) (Aa (pv 1) Ab))))
  (Ad (Al (Ae JS (Aa (Ae Dw (Aa (pv 0) (Aa (pv 2) Ab))) (Aa (Ae Dw (Aa (pv 1) (Aa (pv 2) Ab))) (Aa Af (Aa (Bv rfl Ii (Gx _)) Ab)))))))),?_⟩
 ac_nf;refine⟨a1,a2,n1,n2,b1,b2,rfl,W.s1,W.s2,W.p1,W.p2,W.l1,W.l2,lz,fun H1 s1=>?_⟩;generalize hz:Bx n1 n2=z at*
 have z0:=fl.1;have d1:n1∣z:=fl.2.1;have d2:n2∣z:=fl.2.2.1;have ls:=lcm_self z0;ac_nf;refine⟨a1,n1,z,b1,rfl,s1.tup W.s1,W.p1,W.l1,W.k1,z0,lz,d1,fun pr cr hr1 Sr=>?_⟩;have s2:=Am hr1 (.tup [.int z,.int (cr:Int)]);have t2:upd H1 pr (.tup [.int z,.int (cr:Int)]) pr=some (.tup [.int z,.int (cr:Int)]):=Ah;generalize upd H1 pr (.tup [.int z,.int (cr:Int)])=H2 at s2 t2 ⊢;ac_nf;refine⟨a2,n2,z,b2,rfl,s2.tup (s1.tup W.s2),W.p2,W.l2,W.k2,z0,lz,d2,fun ps cs hs1 Ss=>?_⟩;have s3:=Am hs1 (.tup [.int z,.int (cs:Int)]);have t3:upd H2 ps (.tup [.int z,.int (cs:Int)]) ps=some (.tup [.int z,.int (cs:Int)]):=Ah;generalize upd H2 ps (.tup [.int z,.int (cs:Int)])=H3 at s3 t3 ⊢;ac_nf;refine⟨pr,ps,_,z,1,cr,cs,_,or,rfl,qk,Ii,s3 _ _ t2,SqT.of t3,z0,lz,Sr.lt,Ss.lt,.inl rfl,fun pg g H5 s5 t5 lg G=>?_⟩;exact q pg g H5 (s1.trans (s2.trans (s3.trans s5))) t5 lg ⟨cr,cs,Sr,Ss,G⟩
theorem Su:C0 8 "nearer_ahead" ["R"] (AAX K):=by
 refine co' ["R","days","behind","first_nearer"] RD (fun h=>?_) fun nd H vs Q E hr h=>?_
 ·obtain⟨a,n,b,rfl,_⟩:=h;rfl
 obtain⟨a,n,b,rfl,hS,h0,h1,hb,q⟩:=h;refine⟨_,(Ac (Ak 1 (Ae Vh (Aa (pv 0) Ab)))
  (Ac (Ak 2 (Ag Wm (Ej Iv (pv 1) (Fd Af) Fe) (Ff rfl (Cw ["R","days","behind","first_nearer"] ["R","days","behind","first_nearer"] rfl rfl (by with_unfolding_all rfl) (by ac_rfl) rfl (by ac_rfl) rfl (by ac_rfl) (by walk_at"fm") (by with_unfolding_all rfl) (by with_unfolding_all rfl)) (Fx (Ej Iv (pv 1) Fe (Fd Af))) (fun _ _ _ _=>Dr) (fun _ _ _ _=>(Ag Bq (pv 0) (CT Gz (pv 1) Af))))))
  (Ac (O1 (i:=3) nd rfl (by walk_at"o") (xs:=["day","other"]) rfl (Ks ["day","other"] ["R","days","behind","first_nearer"] ["R","days","behind","first_nearer"] rfl rfl (by with_unfolding_all rfl) (by ac_rfl) rfl (by ac_rfl) (by ac_rfl) (by ac_rfl) (by walk_at"fm") (by with_unfolding_all rfl) (by with_unfolding_all rfl)) (yH rfl uh (Aa (pv 1) (Aa (pv 2) Ab))) (fun _ _ _ _=>Dr) (fun _ _ _ _=>(YZ (n:=2) rfl (Lw (FJ (i:=0) (show (["day","other","R","days","behind","first_nearer"]:List Str).Nodup from by ac_rfl) rfl (by walk_at"o")) (Lw (FJ (i:=1) (show (["day","other","R","days","behind","first_nearer"]:List Str).Nodup from by ac_rfl) rfl (by walk_at"o")) c7)))) (fun _ _ _ _=>(Ag Bq (Ag Bs (Ag Bq (pv 0) (pv 1)) Af) Af)))
  (Ad (Al (Ae oU (Aa (pv 0) (Aa (Ae JP (Aa (pxT 0) (Aa (pv 3) Ab))) Ab)))))))),?_⟩
 ac_nf;refine⟨a,n,b,rfl,hS,h0,h1,hb,fun l H1 hl s1 t1=>?_⟩;have len:=XC b n.toNat;generalize hds:dli b n.toNat=ds at t1 len;ac_nf;refine Np (SqL.of t1) (fun l2 hl2=>?_);rw[ir];have s2:=Am hl2 (.lst ((ds.drop 1).map V.int));have t2:upd H1 l2 (.lst ((ds.drop 1).map V.int)) l2=some _:=Ah;generalize upd H1 l2 (.lst ((ds.drop 1).map V.int))=H2 at s2 t2 ⊢;refine Em (Jp ?_);ac_nf;refine Np (SqL.of (s2 _ _ t1)) (fun l3 hl3=>?_);rw[ig,<-List.map_take];have s3:=Am hl3 (.lst ((ds.take 1).map V.int));have t3:upd H2 l3 (.lst ((ds.take 1).map V.int)) l3=some _:=Ah;generalize upd H2 l3 (.lst ((ds.take 1).map V.int))=H3 at s3 t3 ⊢;have s13:=s1.trans (s2.trans s3);refine⟨l3,rfl,⟨_,SqL.of t3⟩,?_⟩;refine IW K1 ?_ (fun D ys hD=>(Am hD _).seq (SqL.of t3)) (fun _=>true) (fun v=>match v with | .int d=>V.int (d+n) | _=>.non) (fun x hx D ys Q' hD h=>h) (fun x hx _ D ys Q' hD h=>?_) (fun D hD=>?_)
 ·rw[jp,jd7];exact ub (Nat.min_le_left _ _) (by decide)
 ·obtain⟨d,hd,rfl⟩:=yk.mp hx;ac_nf;refine An ((Am hD _).tup (s13.tup hS)) at0 ?_;ac_nf;exact h
 rw[jc6.mpr (fun _ _=>rfl),vi];rw[show ((fun v:V=>match v with | .int d=>V.int (d+n) | _=>.non) ∘ V.int)=V.int ∘ (· +n) from rfl,<-vi]
 have s4:=Am hD (.lst (((ds.take 1).map (· +n)).map V.int));have t4:upd H3 D (.lst (((ds.take 1).map (· +n)).map V.int)) D=some _:=Ah;generalize upd H3 D (.lst (((ds.take 1).map (· +n)).map V.int))=H4 at s4 t4 ⊢;ac_nf;have bl:=bx n ds;refine xg ((s3.trans s4) _ _ t2) t4 ?_ (fun l5 hl5=>?_)
 ·rw[<-qf,<-yi,jp];exact zv (jj3 bl) (zv (show ds.length<=150000 by lia) (by decide))
 rw[<-yi];show Il _ _ _ (upd H4 l5 (.lst ((Hu n ds).map V.int))) _;have s5:=Am hl5 (.lst ((Hu n ds).map V.int));have t5:upd H4 l5 (.lst ((Hu n ds).map V.int)) l5=some _:=Ah;generalize upd H4 l5 (.lst ((Hu n ds).map V.int))=H5 at s5 t5 ⊢;have s15:=s13.trans (s4.trans s5);have t15:=(s2.trans (s3.trans (s4.trans s5))) _ _ t1;ac_nf;refine YT (xN ?_);ac_nf;refine⟨l,l5,rfl,⟨_,_,SqL.of t15,SqL.of t5⟩,?_⟩;refine oK (SqL.of t15) (SqL.of t5) ?_ (fun x y=>(x+y)/2+1) (fun x y H' Q' h=>?_) (fun D6 H6 hD6 s6 t6=>?_)
 ·exact ub (show ds.length<=150000 by lia) (by decide)
 ·ac_nf;exact h
 ac_nf;refine An (s6.tup (s15.tup hS)) at0 ?_;ac_nf;have ls:=lcm_self h0;refine⟨D6,mids n ds,n,rfl,SqL.of t6,h0,h1,fun p c H7 s7 t7 B=>?_⟩;ac_nf;refine⟨a,p,n,n,b,c,rfl,⟨(s6.trans s7).tup (s15.tup hS),SqT.of t7,h0,h0,h1,h1,hb,B.lt⟩,by rw[ls];exact h1,fun p8 e H8 s8 t8 le R=>?_⟩;rw[ls] at t8 le R;exact q p8 e H8 (s15.trans (s6.trans (s7.trans s8))) t8 le ⟨c,by rw[hds];exact B,R⟩
theorem zE:C0 9 "near" ["R","S"] (spJ K NeR):=by
 refine co' ["R","S","early"] xJ (fun h=>?_) fun nd H vs Q E hr h=>?_
 ·obtain⟨a1,a2,n1,n2,b1,b2,rfl,_⟩:=h;rfl
 obtain⟨a1,a2,n1,n2,b1,b2,rfl,W,lz,q⟩:=h;have p1:=W.p1;have p2:=W.p2;have fl:=Br p1 p2;have fl':=VG p1 p2;refine⟨_,(Ac (Ak 2 (Ae Su (Aa (pv 0) Ab)))
  (Ad (Al (Ae Sw (Aa (Ae XF (Aa (pv 0) (Aa (Ae JT (Aa (pv 1) (Aa (pv 2) Ab))) Ab))) (Aa (Ae bW (Aa (pv 0) (Aa (Ae Oa (Aa (pv 1) (Aa (pv 2) Ab))) Ab))) Ab)))))),?_⟩
 ac_nf;refine⟨a1,n1,b1,rfl,W.s1,p1,W.l1,W.k1,fun pe e H1 s1 t1 le N=>?_⟩;ac_nf;refine⟨a2,pe,n2,n1,b2,e,rfl,⟨s1.tup W.s2,SqT.of t1,p2,p1,W.l2,W.l1,W.k2,le⟩,by rw[<-fl'];exact lz,fun pb cb H2 s2 t2 Bb Rb=>?_⟩;rw[<-fl'] at t2 Bb Rb;generalize hz:Bx n1 n2=z at*
 have z0:=fl.1;have d1:n1∣z:=fl.2.1;have d2:n2∣z:=fl.2.2.1;have lz1:Bx n1 z=z:=dW p1 z0 d1;have ls:=lcm_self z0;ac_nf;refine⟨a1,pb,n1,z,b1,cb,rfl,⟨(s1.trans s2).tup W.s1,SqT.of t2,p1,z0,W.l1,lz,W.k1,Bb⟩,by rw[lz1];exact lz,fun pu cu H3 s3 t3 lu U=>?_⟩;rw[lz1] at t3 lu U;have s13:=s1.trans (s2.trans s3);ac_nf;refine⟨a2,pe,n2,n1,b2,e,rfl,⟨s13.tup W.s2,SqT.of ((s2.trans s3) _ _ t1),p2,p1,W.l2,W.l1,W.k2,le⟩,by rw[<-fl'];exact lz,fun pw cw H4 s4 t4 Bw Rw=>?_⟩;rw[<-fl'] at t4 Bw Rw;ac_nf;refine⟨a1,pw,n1,z,b1,cw,rfl,⟨(s13.trans s4).tup W.s1,SqT.of t4,p1,z0,W.l1,lz,W.k1,Bw⟩,by rw[lz1];exact lz,fun pv cv H5 s5 t5 lv V=>?_⟩;rw[lz1] at t5 lv V;ac_nf;refine⟨pu,pv,z,z,cu,cv,rfl,⟨SqT.of ((s4.trans s5) _ _ t3),SqT.of t5,z0,z0,lz,lz,lu,lv⟩,by rw[ls];exact lz,fun p c H6 s6 t6 B R=>?_⟩;rw[ls] at t6 B R;exact q p c H6 (s13.trans (s4.trans (s5.trans s6))) t6 B ⟨p1,e,cb,cu,cw,cv,N,Rb,U,Rw,V,R⟩
theorem ABb:C0 8 "kth" ["number","R","S"] (ACJ K):=by
 refine co' ["number","R","S","size","step","ends","days","place","odd"] AAk (fun h=>?_) fun nd H vs Q E hr h=>?_
 ·obtain⟨k,a1,a2,n1,n2,b1,b2,rfl,_⟩:=h;rfl
 obtain⟨k,a1,a2,n1,n2,b1,b2,rfl,W,k0,lz,q⟩:=h;have fl:=Br W.p1 W.p2;refine⟨_,(Ac (Ay (Aj Bm (pv 0) Af (Ao _))
  (Ad BX)
  Aq)
  (Ac (Ak 3 (Ae Ec (Aa (pv 1) (Aa (pv 2) Ab))))
  (Ac (Ei (Ak 4 (Ds (Aj Fl (pv 0) Af (Ao _)) Af (Gj El Af))))
  (Ac (Ei (Ak 5 (Ds (Aj Fl (pv 0) Af (Ao _)) (Ae Dw (Aa (pv 2) (Aa (pv 3) Ab))) (Ae HS (Aa (Ae Dw (Aa (pv 2) (Aa (pv 3) Ab))) (Aa (Gj El Af) Ab))))))
  (Ac (Ak 6 (Ae Dw (Aa (pv 1) (Aa (pv 3) Ab))))
  (Ac (Ak 7 (BJ Y6 rfl uo PyProof.Rows.boot_abs (Aa (pv 0) Ab)))
  (Ac (FT PassesOwn.never (PW.pt (K6 (Aj Fl (pv 7) Af (Ao _)) (JD (Aj Fl (pxT 6) Af (Ao _)))))
   (Ac (Ak 8 (Ae JT (Aa (pv 6) (Aa (Ae JS (Aa (pv 6) (Aa (pv 5) (Aa (pv 4) (Aa (Bv rfl Xi (Gx _)) Ab))))) Ab))))
  (Ac (Ei (Ak 6 (Ds (Aj Bm (Ag Bp (pv 7) Af) Af (Ao _)) (pv 8) (Ae Oa (Aa (pv 6) (Aa (pv 8) Ab))))))
  (Ad (Ak 7 (Ag Bs (Ag Bq (pv 7) Af) Af))))))
  (Ad (Al (Ds (Aj Fl (pv 0) Af (Ao _)) (Ae bW (Aa (pv 6) (Aa (pv 5) Ab))) (Ae XF (Aa (pv 6) (Aa (pv 5) Ab))))))))))))),?_⟩
 ac_nf;refine CN (fun c=>k0 (by injection c)) ?_;ac_nf;refine⟨a1,a2,n1,n2,b1,b2,rfl,W.s1,W.s2,W.p1,W.p2,W.l1,W.l2,lz,fun H1 s1=>?_⟩;generalize hz:Bx n1 n2=z at*
 have z0:=fl.1;have d1:n1∣z:=fl.2.1;have d2:n2∣z:=fl.2.2.1;have ls:=lcm_self z0;have str2:∀(H':Hp) (Q':VK) (E':XK),Ax H H'->(∀(p:Addr) (c:Nat),H' p=none->Ez n2.toNat b2 z.toNat c->Q' (.ref p) (upd H' p (.tup [.int z,.int (c:Int)])))->Ov K ([.ref a2,.int z]++[]) H' Q' E':=fun H' Q' E' s hq=>
  ⟨a2,n2,z,b2,rfl,s.tup W.s2,W.p2,W.l2,W.k2,z0,lz,d2,hq⟩
 ac_nf;obtain⟨e,he⟩:∃e:Int,(0<k->e=1)/\(¬0<k->e= -1):=⟨if 0<k then 1 else -1,fun c=>xz c,fun c=>yv c⟩;have he':e=1\/e= -1:=by
  by_cases c:0<k
  ·exact .inl (he.1 c)
  ·exact .inr (he.2 c)
 refine EY (fun Z' H'=>Z'=[some (.int k),some (.ref a1),some (.ref a2),some (.int z),some (.int e),none,none,none,none]/\H'=H1) ?_ ?_
 ·ac_nf;refine CG (fun c=>?_) (fun c=>?_)
  ·rw[he.1 c];ac_nf;exact⟨rfl,rfl⟩
  ·rw[he.2 c];ac_nf;exact⟨rfl,rfl⟩
 rintro Z' H1' ⟨rfl,rfl⟩;ac_nf;refine EY (fun Z' H'=>Ex2 fun(pe:Addr) (ce:Nat)=>An5 (Z'=[some (.int k),some (.ref a1),some (.ref a2),some (.int z),some (.int e),some (.ref pe),none,none,none]) (Ax H1' H') (H' pe=some (.tup [.int z,.int (ce:Int)])) (ce<2^z.toNat) (∃s,An3 (Ez n2.toNat b2 z.toNat s) (0<k->e=1/\ce=s) (¬0<k->e= -1/\ce=ltr z s (-1)))) ?_ ?_
 ·ac_nf;refine CG (fun c=>?_) (fun c=>?_)
  ·ac_nf;refine str2 _ _ _ s1 fun ps cs hs1 Ss=>?_;ac_nf;exact⟨ps,cs,rfl,Am hs1 _,Ah,Ss.lt,cs,Ss,fun c=>⟨he.1 c,rfl⟩,fun z=>absurd c z⟩
  ·ac_nf;refine str2 _ _ _ s1 fun ps cs hs1 Ss=>?_;ac_nf;refine⟨ps,z,-1,cs,rfl,SqT.of Ah,z0,lz,Ss.lt,fun p hp=>?_⟩;ac_nf;exact⟨p,_,rfl,(Am hs1 _).trans (Am hp _),Ah,JL _ _ _,cs,Ss,fun z=>absurd z c,fun c=>⟨he.2 c,rfl⟩⟩
 rintro Z' H2 ⟨pe,ce,rfl,s2,t2,lce,sx,Sx,x1,x2⟩;ac_nf;refine⟨a1,n1,z,b1,rfl,s2.tup (s1.tup W.s1),W.p1,W.l1,W.k1,z0,lz,d1,fun pr cr hr1 Sr=>?_⟩;have s3:=Am hr1 (.tup [.int z,.int (cr:Int)]);have t3:upd H2 pr (.tup [.int z,.int (cr:Int)]) pr=some (.tup [.int z,.int (cr:Int)]):=Ah;generalize upd H2 pr (.tup [.int z,.int (cr:Int)])=H3 at s3 t3 ⊢;ac_nf;refine⟨_,rfl,?_⟩;obtain⟨p0,hp0⟩:∃p0:Int,(if k<0 then -k else k)=p0:=⟨_,rfl⟩;have ap:p0=(k.natAbs:Int):=by split at hp0<;>lia
 rw[hp0];ac_nf;refine⟨fun m Z' H'=>Ax H3 H'/\∃(pd:Addr) (t:Nat) (p:Int) (od:Option V),1<=p/\p<=p0/\H' pd=some (.tup [.int z,.int (t:Int)])/\t<2^z.toNat/\(∀c,KlR z ce e p t c->KlR z ce e p0 cr c)/\
  Z'=[some (.int k),some (.ref a1),some (.ref a2),some (.int z),some (.int e),some (.ref pe),some (.ref pd),some (.int p),od]/\m=p.toNat,
  ⟨_,Ax.refl _,pr,cr,p0,none,by lia,by lia,t3,Sr.lt,(fun _ h=>h),rfl,rfl⟩,?_⟩
 rintro m Z' H4 ⟨s4,pd,t,p,od,p1,pp,td,lt,G,rfl,rfl⟩;ac_nf;have te:=s4 _ _ (s3 _ _ t2);have fin:¬(1<p/\0<t)->∀(E':XK),spJ K (UpR e) ([.ref pd,.ref pe]++[]) H4 Q E':=fun nn E'=>
  ⟨pd,pe,z,z,t,ce,rfl,⟨SqT.of td,SqT.of te,z0,z0,lz,lz,lt,lce⟩,(by rw[ls];exact lz),fun p' c' H' s' t' lc' R=>by
   rw[ls] at t' lc' R;exact q p' c' H' (s1.trans (s2.trans (s3.trans (s4.trans s')))) t' lc' ⟨cr,sx,ce,e,Sx,x1,x2,Sr,by have:=G c' (.stop nn R);rwa [ap] at this⟩⟩
 refine CG (fun hp=>?_) (fun hp=>?_)
 ·ac_nf;refine An (SqT.of td) at1 ?_;ac_nf;refine CG (fun ht=>?_) (fun ht=>?_)
  ·refine⟨fun Z' H'=>∃m',m'<p.toNat/\Ax H3 H'/\∃(pd:Addr) (t:Nat) (p:Int) (od:Option V),1<=p/\p<=p0/\H' pd=some (.tup [.int z,.int (t:Int)])/\t<2^z.toNat/\(∀c,KlR z ce e p t c->KlR z ce e p0 cr c)/\
   Z'=[some (.int k),some (.ref a1),some (.ref a2),some (.int z),some (.int e),some (.ref pe),some (.ref pd),some (.int p),od]/\m'=p.toNat,fun Z' H' hh=>hh,?_⟩
   ac_nf;refine⟨pd,pe,_,z,e,t,ce,_,xor,rfl,qr _ qk,Xi,td,SqT.of te,z0,lz,lt,lce,he',fun pg g H5 s5 t5 lg GG=>?_⟩;ac_nf;refine⟨pd,pg,z,z,t,g,rfl,⟨s5.tup (SqT.of td),SqT.of t5,z0,z0,lz,lz,lt,lg⟩,(by rw[ls];exact lz),fun po c H6 s6 t6 B R=>?_⟩;rw[ls] at t6 B R;have td6:=s6 _ _ (s5 _ _ td);ac_nf;refine EY (fun Z' H'=>Ex2 fun(pn:Addr) (t':Nat)=>An6 (Z'=[some (.int k),some (.ref a1),some (.ref a2),some (.int z),some (.int e),some (.ref pe),some (.ref pn),some (.int p),some (.ref po)]) (Ax H6 H') (H' pn=some (.tup [.int z,.int (t':Int)])) (t'<2^z.toNat) (p%2=1->t'=c) (¬p%2=1->Bo bn z t z c z t')) ?_ ?_
   ·ac_nf;refine CG (fun o=>?_) (fun o=>?_)
    ·ac_nf;exact⟨po,c,rfl,Ax.refl _,t6,B,fun _=>rfl,fun z=>absurd (by injection o) z⟩
    ·ac_nf;refine⟨pd,po,z,z,t,c,rfl,⟨SqT.of td6,SqT.of t6,z0,z0,lz,lz,lt,B⟩,(by rw[ls];exact lz),fun pn t' H7 s7 t7 B7 R7=>?_⟩;rw[ls] at t7 B7 R7;ac_nf;exact⟨pn,t',rfl,s7,t7,B7,fun z=>absurd (xo V.int z) o,fun _=>R7⟩
   rintro Z' H7 ⟨pn,t',rfl,s7,t7,lt',w1,w2⟩;ac_nf;exact⟨_,(by lia:((p+1)/2).toNat<p.toNat),s4.trans (s5.trans (s6.trans s7)),pn,t',(p+1)/2,_,by lia,by lia,t7,lt',(fun c' h=>G c' (.step hp (by lia) GG R w1 w2 h)),rfl,rfl⟩
  ·ac_nf;have nn:¬(1<p/\0<t):=fun z=>ht (by lia);refine CG (fun c=>?_) (fun c=>?_)
   ·ac_nf;have f:=fin nn;rw[he.1 c] at f;exact f _
   ·ac_nf;have f:=fin nn;rw[he.2 c] at f;exact f _
 ·refine Ep ?_;have nn:¬(1<p/\0<t):=fun z=>hp z.1;ac_nf;refine CG (fun c=>?_) (fun c=>?_)
  ·ac_nf;have f:=fin nn;rw[he.1 c] at f;exact f _
  ·ac_nf;have f:=fin nn;rw[he.2 c] at f;exact f _
theorem uL:C0 6 "every" ["number","R","day"] (ACM K):=by
 refine co' ["number","R","day","size","days","first","places"] qt (fun h=>?_) fun nd H vs Q E hr h=>?_
 ·obtain⟨k,d,a,n,b,rfl,_⟩:=h;rfl
 obtain⟨k,d,a,n,b,rfl,hS,h0,h1,hb,bd,bk,k1,lz,q⟩:=h;have bn:Bt 64 n:=Bh (by lia) (by lia) (by decide);refine⟨_,(Ac (BR (Ae CJ (Aa (pv 0) Ab)))
  (Ac (Ak 3 (Ag CW (pxT 1) (pv 0)))
  (Ac (BR (Ae Dy (Aa (pv 3) Ab)))
  (Ac (Ak 4 (Ae Vh (Aa (pv 1) Ab)))
  (Ac (Ak 5 (Ag Bp (Ae bh (Aa (pv 1) (Aa Af (Aa (pv 2) Ab)))) (pv 0)))
  (Ac (Ak 6 (aU rfl rfl Zn rfl Gu (Aa (pv 5) (Aa (Ag CW (BJ BK rfl Cq xa (Aa (pv 4) Ab)) (pv 0)) (Aa (pv 0) Ab)))))
  (Ad (Al (Ae JP (Aa (pv 3) (Aa (Ff rfl (Cw ["number","R","day","size","days","first","places"] ["number","R","day","size","days","first","places"] rfl rfl (by with_unfolding_all rfl) (by ac_rfl) rfl (by ac_rfl) rfl (by ac_rfl) (by walk_at"fm") (by with_unfolding_all rfl) (by with_unfolding_all rfl)) (Fx (pv 6)) (fun _ _ _ _=>Dr) (fun _ _ _ _=>(Ag Bq (Ag CW (Ag Bs (pv 0) (BJ SM rfl Cq xa (Aa (pv 5) Ab))) (CT Gz (pv 2) Af)) (CT N8 (pv 5) (Ag Bp (pv 0) (BJ SM rfl Cq xa (Aa (pv 5) Ab))) (fun _ _=>rfl))))) Ab))))))))))),?_⟩
 ac_nf;refine⟨k,rfl,k1,?_⟩;ac_nf;refine An hS at0 ?_;ac_nf;refine DQ ⟨64,400,bn,bk,by decide⟩ ?_;ac_nf;refine⟨n*k,rfl,lz,?_⟩;have kn:=dU h0 (show 0<k by lia);ac_nf;refine⟨a,n,b,rfl,hS,h0,h1,hb,fun ld H1 _ s1 t1=>?_⟩;have len:=XC b n.toNat;generalize hds:dli b n.toNat=ds at t1 len;have hS1:=s1.tup hS;ac_nf;refine⟨a,n,0,d,b,rfl,hS1,h0,h1,hb,(by unfold Bt;decide),bd,fun H2 s2=>?_⟩;rw[ue,Int.sub_zero];ac_nf;have f0:=qg (CC n b d) (show k≠0 by lia);have f1:=qc (CC n b d) (show 0<k by lia);have t2:=s2 _ _ t1;have hS2:=s2.tup hS1;refine⟨ld,_,rfl,.inl (SqL.of t2),?_⟩;rw[jp];ac_nf;refine DQ ⟨64,64,Bh (by lia) (by lia) (by decide),Bh (by lia) (by lia) (by decide),by decide⟩ ?_;ac_nf;have mk:(ds.length:Int)*k<=n*k:=jd0 (by lia) (by lia);have mk0:0<=(ds.length:Int)*k:=jh5 (by lia) (by lia);refine⟨CC n b d%k,(ds.length:Int)*k,k,ds.length,.inl rfl,by lia,by lia,Hh (by lia) (by lia) (by lia) (by lia) (by lia) (by lia),?_,by lia,fun lp hlp=>?_⟩
 ·rw[Gf (by lia)];rcases ji0 ds.length with z | z
  ·rw[z,yv (by simp;lia)];rfl
  ·have e1:(ds.length:Int)*k-CC n b d%k-1=(k-1-CC n b d%k)+k*((ds.length:Int)-1):=by
    rw[Int.mul_sub,Int.mul_comm k];lia
   have e2:k<=(ds.length:Int)*k:=dU (by lia) (by lia);rw[xz (by lia),e1,Int.add_mul_ediv_left _ _ (by lia),jh6 (by lia) (by lia)];lia
 have s3:=Am hlp (.lst ((List.range ds.length).map fun(i:Nat)=>V.int (CC n b d%k+(i:Int)*k)));have t3:=s3 _ _ t2;have p3:upd H2 lp (.lst ((List.range ds.length).map fun(i:Nat)=>V.int (CC n b d%k+(i:Int)*k))) lp=some (.lst ((List.range ds.length).map fun(i:Nat)=>V.int (CC n b d%k+(i:Int)*k))):=Ah;have hS3:=s3.tup hS2;generalize upd H2 lp (.lst ((List.range ds.length).map fun(i:Nat)=>V.int (CC n b d%k+(i:Int)*k)))=H3 at s3 t3 p3 hS3 ⊢;ac_nf;refine Em (Jp ?_);ac_nf;refine⟨lp,rfl,⟨_,SqL.of p3⟩,?_⟩;refine IW K1 ?_ (fun D' ys hD'=>(Am hD' _).seq (SqL.of p3)) (fun _=>true) (fun v=>match v with | .int P=>.int (J4 n ds P) | _=>.non) (fun x hx D' ys Q' hD' h=>h) (fun x hx _ D' ys Q' hD' h=>?_) (fun D' hD'=>?_)
 ·rw[jp,uu];exact ub (show ds.length<=150000 by lia) (by decide)
 ·obtain⟨i,hi,rfl⟩:=yk.mp hx;have hi':=je2.mp hi;replace h:Q' (.int (J4 n ds (CC n b d%k+(i:Int)*k))) _:=h;have ik:(i:Int)*k<=(ds.length:Int)*k:=jd0 (by lia) (by lia);have ik0:0<=(i:Int)*k:=jh5 (by lia) (by lia);generalize hP:CC n b d%k+(i:Int)*k=P at h ⊢;have m0:=qg P (show (ds.length:Int)≠0 by lia);have m1:=qc P (show (0:Int)<(ds.length:Int) by lia);obtain⟨x,hx⟩:∃x,ds[(P%(ds.length:Int)).toNat]?=some x:=⟨_,qv (by lia)⟩;have ed:J4 n ds P=P/(ds.length:Int)*n+x:=by
   unfold J4;rw[hx];rfl
  rw[ed] at h;have P0:0<=P:=by lia
  have P1:P/(ds.length:Int)<=P:=ji7 _ P0;have P2:0<=P/(ds.length:Int):=Int.ediv_nonneg P0 (by lia);have t4:=Am hD' (.lst ys) _ _ t3;ac_nf;refine⟨ld,_,rfl,.inl (SqL.of t4),?_⟩;rw[jp];ac_nf;refine DQ (Fb (by lia) (by lia)) ?_;ac_nf;refine An ((Am hD' _).tup hS3) at0 ?_;refine DQ ⟨64,64,Bh (by lia) (by lia) (by decide),bn,by decide⟩ ?_;ac_nf;refine⟨ld,_,rfl,.inl (SqL.of t4),?_⟩;rw[jp];ac_nf;rw[show P%(ds.length:Int)=(((P%(ds.length:Int)).toNat:Nat):Int) by lia];refine Bc (SqL.of t4) (DX (zM hx)) ?_;ac_nf;exact h
 have e:((((List.range ds.length).map fun(i:Nat)=>V.int (CC n b d%k+(i:Int)*k)).filter fun _=>true).map fun v=>match v with | .int P=>V.int (J4 n ds P) | _=>.non)=(((List.range ds.length).map fun(i:Nat)=>J4 n ds (CC n b d%k+(i:Int)*k)).map V.int):=by
  rw[jc6.mpr (fun _ _=>rfl),vi,vi];rfl
 rw[e];ac_nf;refine⟨D',_,n*k,rfl,SqL.of Ah,by lia,lz,fun p c H5 s5 t5 B=>?_⟩;exact q p c H5 ((((s1.trans s2).trans s3).trans (Am hD' _)).trans s5) t5 (by unfold evl;rw[hds];exact B)
theorem jE:C0 1 "term_on" ["term","k"] ju:=by
 refine co' ["term","k"] gA (fun h=>?_) fun nd H vs Q E hr h=>?_
 ·obtain⟨p,k,t,rfl,_⟩:=h;rfl
 obtain⟨p,k,t,rfl,hp,ok,bk,q⟩:=h;have n0:=ok.n0;have n1:=ok.n1;have a0:=ok.a0;have a1:=ok.a1;refine⟨_,(Ad (Al (HN vI (Ag Bq (Ag Bp (Ag Bq (Ag CW (pxT 0) (pv 1)) (pxT 0)) (pxT 0)) (pxT 0)) (pxT 0) (Ao _)))),?_⟩;symm;refine An (SqT.of hp) ou ?_;symm;refine DQ ⟨64,400,Bh (by lia) (by lia) (by decide),bk,by decide⟩ ?_;symm;refine An (SqT.of hp) uR ?_;symm;refine An (SqT.of hp) Uw ?_;symm;refine An (SqT.of hp) ou ?_;symm;refine An (SqT.of hp) Uw ?_;symm;exact q
theorem XH:C0 1 "signs_upto" ["terms","k"] (qF K):=by
 refine co' ["terms","k"] V8 (fun h=>?_) fun nd H vs Q E hr h=>?_
 ·obtain⟨p,k,ts,rfl,_⟩:=h;rfl
 obtain⟨p,k,ts,rfl,T,bk,q⟩:=h;obtain⟨us,hS,hT⟩:=T.ex;refine⟨_,(Ad (Al (BJ (SJ rfl) rfl jQ PyProof.Rows.boot_sum (Aa (Ff rfl (Cw ["terms","k"] ["terms","k"] rfl rfl (by with_unfolding_all rfl) (by ac_rfl) rfl (by ac_rfl) rfl (by ac_rfl) (by walk_at"fm") (by with_unfolding_all rfl) (by with_unfolding_all rfl)) (RX (pv 0)) (fun _ _ _ _=>Dr) (fun _ _ _ _=>(Ag CW (CT Gz (pv 0) Af) (Ag Bs (Ag Bq (Ag CW (CT Gz (pv 0) Af) (pv 2)) (CT Gz (pv 0) Af)) (CT Gz (pv 0) Af))))) Ab)))),?_⟩;symm;refine bR rfl hS (by rw[hT.len];exact Eu (by have:=T.few;lia)) (fun v=>((Ti H v).map fun _=>true).getD false) (fun v=>((Ti H v).map fun t=>V.int (t.1*ctT t k)).getD .non) (fun x hx D ys Q' hD h=>?_) (fun x hx _ D ys Q' hD h=>?_) (fun D hD=>?_)
 ·obtain⟨a,t,rfl,ht,ha⟩:=hT.mem hx;rw[Iu ha] at h;exact h
 ·obtain⟨a,t,rfl,ht,ha⟩:=hT.mem hx;rw[Iu ha] at h;have ok:=T.ok t ht;have n0:=ok.n0;have n1:=ok.n1;have a0:=ok.a0;have a1:=ok.a1;have sg:=ok.sg;have b0:=ok.b0;have b1:=ok.b1;have ha':=Am hD (.lst ys) _ _ ha;symm;refine An (SqT.of ha') o6 ?_;symm;refine An (SqT.of ha') ou ?_;symm;refine DQ ⟨64,400,Bh (by lia) (by lia) (by decide),bk,by decide⟩ ?_;symm;refine An (SqT.of ha') uR ?_;symm;refine An (SqT.of ha') Uw ?_;refine DQ (Fb (by lia) (by lia)) ?_;have bb:Bt 465 (t.2.1*k+t.2.2.1):=((show Bt 64 t.2.1 from Bh (by lia) (by lia) (by decide)).mul bk).add ((show Bt 64 t.2.2.1 from Bh (by lia) (by lia) (by decide)).mono (by decide));refine DQ ⟨200,465,Zc (by lia) (by lia),oY bb (by lia),by decide⟩ ?_;exact h
 rw[hT.fm (fun _=>true) fun t=>V.int (t.1*ctT t k),jc6.mpr (fun _ _=>rfl)];have e:(ts.map fun t=>V.int (t.1*ctT t k))=(ts.map fun t=>t.1*ctT t k).map V.int:=by rw[vi];rfl
 rw[e];symm;refine⟨D,_,rfl,SqL.of Ah,?_⟩;exact q _ (Am hD _)
theorem jH:C0 1 "is_term" ["term"] j9:=by
 refine co' ["term"] gH (fun h=>?_) fun nd H vs Q E hr h=>?_
 ·obtain⟨p,t,rfl,_⟩:=h;rfl
 obtain⟨p,t,rfl,hp,ok,q⟩:=h;have n0:=ok.n0;have n1:=ok.n1;have a0:=ok.a0;have a1:=ok.a1;have sg:=ok.sg;have b0:=ok.b0;have b1:=ok.b1;refine⟨_,(Ac (Ay (PW.pt (K6 (Aj Ek (pxT 0) Af (Ao _)) (JD (Aj Ek (pxT 0) (Gj El Af) (Ao _)))))
  (Ad (Al Jr))
  Aq)
  (Ad (Al (Wi (Ly Ja Ja Af (pxT 0) (Bv rfl Wy (Cj _ _))) (Wi (Ly Ja Ja Af (pxT 0) (pxT 0)) (Wg (Ly Ja GP Af (pxT 0) (pxT 0)))))))),?_⟩
 symm;refine An (SqT.of hp) o6 ?_;symm;have rest:True:=trivial;rcases sg with e | e
 ·refine FN (xo V.int e) (Ep ?_);symm;refine An (SqT.of hp) Uw ?_;symm;refine Hw n0 ?_;symm;rw[decide_eq_true n1];refine FW ?_;symm;refine An (SqT.of hp) ou ?_;symm;refine Hw a0 ?_;symm;refine An (SqT.of hp) Uw ?_;symm;rw[decide_eq_true a1];refine FW ?_;symm;refine An (SqT.of hp) uR ?_;symm;refine Hw b0 ?_;symm;refine An (SqT.of hp) Uw ?_;symm;rw[decide_eq_true b1];exact q
 ·refine dZ (fun z=>by have:=V.int.inj z;lia) ?_;symm;refine An (SqT.of hp) o6 ?_;symm;refine FN (xo V.int e) ?_;symm;refine An (SqT.of hp) Uw ?_;symm;refine Hw n0 ?_;symm;rw[decide_eq_true n1];refine FW ?_;symm;refine An (SqT.of hp) ou ?_;symm;refine Hw a0 ?_;symm;refine An (SqT.of hp) Uw ?_;symm;rw[decide_eq_true a1];refine FW ?_;symm;refine An (SqT.of hp) uR ?_;symm;refine Hw b0 ?_;symm;refine An (SqT.of hp) Uw ?_;symm;rw[decide_eq_true b1];exact q
theorem Hs:C0 1 "least_length" ["base","terms"] (qO K):=by
 refine co' ["base","terms"] RG (fun h=>?_) fun nd H vs Q E hr h=>?_
 ·obtain⟨p,b,ts,rfl,_⟩:=h;rfl
 obtain⟨p,b,ts,rfl,T,q⟩:=h;obtain⟨us,hS,hT⟩:=T.ex;refine⟨_,(Ad (Al (Ag DN (pv 0) (BJ BK rfl Cq xa (Aa (Ff rfl (GJ ["base","terms"] rfl (by ac_rfl) rfl (by ac_rfl) rfl (by ac_rfl) (by ac_rfl)) (RX (pv 1)) (fun _ _ _ _=>(Jq (Aj Bm (CT Gz (pv 0) Af) (Gj El Af) (Ao _)))) (fun _ _ _ _=>(pv 0))) Ab))))),?_⟩;symm;refine bR rfl hS (by rw[hT.len];exact Eu (by have:=T.few;lia)) (fun v=>((Ti H v).map fun t=>decide (t.1= -1)).getD false) (fun v=>v) (fun x hx D ys Q' hD h=>?_) (fun x hx _ D ys Q' hD h=>h) (fun D hD=>?_)
 ·obtain⟨a,t,rfl,ht,ha⟩:=hT.mem hx;rw[Iu ha] at h;symm;refine An (SqT.of (Am hD _ _ _ ha)) o6 ?_;symm;rw[oG];exact h
 symm;refine⟨D,_,rfl,.inl (SqL.of Ah),?_⟩;symm;have e:((us.filter fun v=>((Ti H v).map fun t=>decide (t.1= -1)).getD false).map fun v=>v).length=(ts.filter fun t=>decide (t.1= -1)).length:=by
  have:=xo List.length (hT.fm (fun t=>decide (t.1= -1)) (fun _=>V.non));rw[jp,jp] at this;rw[jp];exact this
 rw[e];exact q _ (Am hD _)
theorem Ob:C0 2 "refuse_measure" ["base","terms"] (fO K):=by
 refine co' ["base","terms"] NT (fun h=>?_) fun nd H vs Q E hr h=>?_
 ·obtain⟨p,b,ts,rfl,_⟩:=h;rfl
 obtain⟨p,b,ts,rfl,T,g,q⟩:=h;obtain⟨us,hS,hT⟩:=T.ex;have b0:=g.b0;have b1:=g.b1;have fl:=g.fl;have few:=T.few;refine⟨_,(Ac (Ay (PW.pt (IK (Aj GP (pv 0) Af (Ao _)) (Gg (Aj Fl (pv 0) (Bv rfl QM (Cj _ _)) (Ao _)))))
  (Ad BX)
  Aq)
  (Ac (Ay (Aj Fl (BJ BK rfl Cq xa (Aa (pv 1) Ab)) (Bv rfl Wv (Cj _ _)) (Ao _))
   (Ad BX)
   Aq)
  (Ac (Ay (JF (Gh (BJ (SX rfl) rfl jT PyProof.Rows.boot_all (Aa (Ff rfl (GJ ["base","terms"] rfl (by ac_rfl) rfl (by ac_rfl) rfl (by ac_rfl) (by ac_rfl)) (RX (pv 1)) (fun _ _ _ _=>Dr) (fun _ _ _ _=>(Ae jH (Aa (pv 0) Ab)))) Ab))))
   (Ad BX)
   Aq)
  (Ad (Ay (Aj GP (Ae Hs (Aa (pv 0) (Aa (pv 1) Ab))) Af (Ao _))
   (Ad BX)
   Aq))))),?_⟩
 symm;refine CN (by lia) ?_;symm;refine CN (by lia) ?_;symm;refine⟨p,us,rfl,.inr hS,?_⟩;symm;refine CN (by rw[hT.len];lia) ?_;symm;refine bR rfl hS (by rw[hT.len];exact Eu (by lia)) (fun _=>true) (fun _=>.bl true) (fun x hx D ys Q' hD h=>h) (fun x hx _ D ys Q' hD h=>?_) (fun D hD=>?_)
 ·obtain⟨a,t,rfl,ht,ha⟩:=hT.mem hx;symm;exact⟨a,t,rfl,Am hD _ _ _ ha,T.ok t ht,h⟩
 have s1:=Am hD (.lst ((us.filter fun _=>true).map fun _=>V.bl true));have e:((us.filter fun _=>true).map fun _=>V.bl true)=(us.map fun _=>true).map V.bl:=by
  rw[jc6.mpr (fun _ _=>rfl),vi];rfl
 symm;refine⟨D,us.map (fun _=>true),rfl,SqL.of (by rw[Ah,e]),?_⟩;symm;rw[show ((us.map fun _=>true).all id)=true from va.mpr (fun x hx=>by obtain⟨_,_,rfl⟩:=yk.mp hx;rfl)];refine Ep ?_;symm;refine⟨p,b,ts,rfl,T.same s1,fun H2 s2=>?_⟩;symm;refine CN (by lia) ?_;symm;exact q _ (s1.trans s2)
theorem ZP:C0 4 "period_of" ["terms"] (j7 K):=by
 refine co' ["terms","told","term"] YC (fun h=>?_) fun nd H vs Q E hr h=>?_
 ·obtain⟨p,ts,rfl,_⟩:=h;rfl
 obtain⟨p,ts,rfl,T,q⟩:=h;obtain⟨us,hS,hT⟩:=T.ex;have few:=T.few;have ulen:=hT.len;refine⟨_,(Ac (Ak 1 Af)
  (Ac (Ib PassesOwn.never rfl (RX (pv 0)) (FJ (i:=2) nd rfl (by walk_at"o"))
   (Ad (Ak 1 (Ae Mq (Aa (pv 1) (Aa (pxT 2) Ab))))))
  (Ad (Al (pv 1))))),?_⟩
 symm;walk_at"f";symm;refine⟨p,rfl,⟨us,hS⟩,tX (xs:=us) (fun i Z' H'=>Ax H H'/\∃c:Option V,Z'=[some (.ref p),some (.int (PER (ts.take i))),c]) ⟨Ax.refl _,none,rfl⟩ ?_ ?_ ?_⟩
 ·rintro i Z' H' _ ⟨s,_⟩;exact s.tup hS
 ·rintro i x Z' H' hx ⟨s,c,rfl⟩;obtain⟨a,t,rfl,ht,ha⟩:=hT.at hx;have i6:i<6:=by
   have:=(xb.mp ht).1;lia
  obtain⟨h1,h2⟩:=Lx T.ok i (by lia);have h3:=yF (show i<=6 by lia);have ok:=T.ok t (zh ht);have n0:=ok.n0;have n1:=ok.n1;symm;refine An (SqT.of (s _ _ ha)) Uw ?_;symm;refine⟨_,_,rfl,h1,by lia,Bh (by lia) (by lia) (by decide),Bh (by lia) (by lia) (by decide),fun H2 s2=>?_⟩;symm;refine⟨s.trans s2,some (.ref a),?_⟩;have e2:PER (ts.take (i+1))=Bx (PER (ts.take i)) t.2.2.2:=by
   unfold PER;rw[ja0,ht,jf5,List.foldl_append];rfl
  rw[e2];rfl
 ·rintro Z' H' ⟨s,c,rfl⟩;symm;rw[ulen,ja9];exact q _ s
theorem Ht:CM0 2 Av "upto" ["self","k"] (wG K Av):=by
 refine cm' ["self","k"] RM (fun h=>?_) fun nd H vs Q E hr h=>?_
 ·obtain⟨x,p,dx,k,b,ts,fs,rfl,_⟩:=h;rfl
 obtain⟨x,p,dx,k,b,ts,fs,rfl,hx,fb,ft,T,b0,b1,bk,q⟩:=h;refine⟨_,(Ad (Al (Ag Bq (Ag CW (By (pv 0) (by rfl)) (pv 1)) (Ae XH (Aa (By (pv 0) (by rfl)) (Aa (pv 1) Ab)))))),?_⟩;symm;refine⟨x,Av,dx,fs,_,rfl,hx,BV,Cu,fb,?_⟩;symm;refine DQ ⟨64,400,Bh (by lia) (by lia) (by decide),bk,by decide⟩ ?_;symm;refine⟨x,Av,dx,fs,_,rfl,hx,BV,CQ,ft,?_⟩;symm;refine⟨p,k,ts,rfl,T,bk,fun H' s=>?_⟩;symm;exact q _ s
theorem Ko:Cp ["self","base","terms"] ["self","base","terms"] (BP GC):=by walk_at"s"
theorem Kp{ds:Array Value}(F:KQ K "__init__" "Measure.__init__" GC f fd ds):F0 5 f fd ["self","base","terms"] (V3 K Av):=by
 refine F.ok (k:=4) Ko (fun h=>?_) fun nd H vs Q E hr h=>?_
 ·obtain⟨x,dx,b,v,us,ts,rfl,_⟩:=h;rfl
 obtain⟨x,dx,b,v,us,ts,rfl,hx,hT,hv,ok,few,g,po,q⟩:=h;refine⟨_,(Ac (Fq (pv 0) (pv 1) (by rfl))
  (Ac (Fq (pv 0) (Ds (Aj K9 (pv 2) Hm (Ao _)) (Az Ab) (BZ Ie rfl Vs PyProof.Rows.boot_tuple (Aa (pv 2) Ab))) (by rfl))
  (Ac (BR (Ae Ob (Aa (By (pv 0) (by rfl)) (Aa (By (pv 0) (by rfl)) Ab))))
  (Ac (Fq (pv 0) (Ae ZP (Aa (By (pv 0) (by rfl)) Ab)) (by rfl))
  (Ac (Fq (pv 0) (DR Ht BV (pv 0) (Aa (By (pv 0) (by rfl)) Ab)) (by rfl))
  (Ad (Ay (Aj Bm (By (pv 0) (by rfl)) Af (Ao _))
   (Ad BX)
   Aq))))))),?_⟩
 ac_nf;refine⟨x,Av,dx,[],rfl,hx,BV,Cu,by decide,?_⟩;have k1:∀y o,y≠x->H y=some o->upd H x (.ins Av dx (Ea (Str.ofString "base") (.int b) [])) y=some o:=fun y o hy h=>by rw[Aw hy];exact h
 have x1:upd H x (.ins Av dx (Ea (Str.ofString "base") (.int b) [])) x=some (.ins Av dx [(Str.ofString "base",.int b)]):=Ah;generalize upd H x (.ins Av dx (Ea (Str.ofString "base") (.int b) []))=H1 at k1 x1 ⊢;have tmk:∀{H':Hp},(∀y o,y≠x->H y=some o->H' y=some o)->Tms H' us ts:=fun{H'} k=>by
  have:∀{vs:List V} {ts:List Tm},Tms H vs ts->Tms H' vs ts:=fun{vs ts} h=>by
   induction h with
   | nil=>exact .nil
   | cons h _ ih=>exact .cons (k _ _ (fun e=>by subst e;rw[hx] at h;cases h) h) ih
  exact this hT
 ac_nf;rcases hv with ⟨rfl,eu⟩ | ⟨l,rfl,hl⟩
 all_goals refine⟨rfl,?_⟩
 all_goals ac_nf
 all_goals first | refine Hw rfl ?_ | refine CN (fun z=>by cases z) ?_
 all_goals ac_nf
 all_goals first
  | refine⟨l,us,rfl,.inl ⟨SqL.of (k1 _ _ (Ij hl hx (by intro z;cases z)) hl),fun p hp=>?_⟩⟩
  | (refine ⟨ka _,fun p hp=>?_⟩
     rw[show upd H1 p (.tup [])=upd H1 p (.tup us) by rw[eu]])
 all_goals
  have px:x≠p:=Bj x1 hp;ac_nf;refine⟨x,Av,dx,_,rfl,by rw[Aw px];exact x1,BV,CQ,(by show 1<1000;decide),?_⟩;have k2:∀y o,y≠x->H1 y=some o->upd (upd H1 p (.tup us)) x (.ins Av dx (Ea (Str.ofString "terms") (.ref p) [(Str.ofString "base",.int b)])) y=some o:=fun y o hy h=>by
   rw[Aw hy];exact Am hp _ _ _ h
  have x2:upd (upd H1 p (.tup us)) x (.ins Av dx (Ea (Str.ofString "terms") (.ref p) [(Str.ofString "base",.int b)])) x=some (.ins Av dx [(Str.ofString "base",.int b),(Str.ofString "terms",.ref p)]):=Ah;have p2:upd (upd H1 p (.tup us)) x (.ins Av dx (Ea (Str.ofString "terms") (.ref p) [(Str.ofString "base",.int b)])) p=some (.tup us):=by rw[Aw (Ne.symm px),Ah]
  generalize upd (upd H1 p (.tup us)) x (.ins Av dx (Ea (Str.ofString "terms") (.ref p) [(Str.ofString "base",.int b)]))=H2 at k2 x2 p2 ⊢;have k02:∀y o,y≠x->H y=some o->H2 y=some o:=fun y o hy h=>k2 y o hy (k1 y o hy h);have T2:TmT K H2 p ts:=⟨⟨us,SqT.of p2,tmk k02⟩,ok,few⟩;ac_nf;refine⟨x,Av,dx,_,_,rfl,x2,BV,Cu,rfl,?_⟩;ac_nf;refine⟨x,Av,dx,_,_,rfl,x2,BV,CQ,rfl,?_⟩;ac_nf;refine⟨p,b,ts,rfl,T2,g,fun H3 s3=>?_⟩;have x3:=s3 _ _ x2;ac_nf;refine⟨x,Av,dx,_,_,rfl,x3,BV,CQ,rfl,?_⟩;ac_nf;refine⟨p,ts,rfl,T2.same s3,fun H4 s4=>?_⟩;have x4:=s4 _ _ x3;have p4:=(s3.trans s4) _ _ p2;ac_nf;refine⟨x,Av,dx,_,rfl,x4,BV,Eb,(by show 2<1000;decide),?_⟩;have pne:p≠x:=Ne.symm px;have k5:∀y o,y≠x->H4 y=some o->upd H4 x (.ins Av dx (Ea (Str.ofString "full_count") (.int (PER ts)) [(Str.ofString "base",.int b),(Str.ofString "terms",.ref p)])) y=some o:=fun y o hy h=>by rw[Aw hy];exact h
  have x5:upd H4 x (.ins Av dx (Ea (Str.ofString "full_count") (.int (PER ts)) [(Str.ofString "base",.int b),(Str.ofString "terms",.ref p)])) x=some (.ins Av dx [(Str.ofString "base",.int b),(Str.ofString "terms",.ref p),(Str.ofString "full_count",.int (PER ts))]):=Ah;generalize upd H4 x (.ins Av dx (Ea (Str.ofString "full_count") (.int (PER ts)) [(Str.ofString "base",.int b),(Str.ofString "terms",.ref p)]))=H5 at k5 x5 ⊢;have k05:∀y o,y≠x->H y=some o->H5 y=some o:=fun y o hy h=>k5 y o hy ((s3.trans s4) _ _ (k02 y o hy h));have T5:TmT K H5 p ts:=⟨⟨us,SqT.of (k5 _ _ pne p4),tmk k05⟩,ok,few⟩;obtain⟨h1,h2⟩:=Lx ok 6 (by decide);rw[yy few] at h1 h2;have h3:=yF (show 6<=6 by decide);ac_nf;refine⟨x,dx,_,rfl,x5,rfl,?_⟩;ac_nf;refine⟨x,Av,dx,_,_,rfl,x5,BV,Eb,rfl,?_⟩;ac_nf;refine⟨x,p,dx,PER ts,b,ts,_,rfl,x5,rfl,rfl,T5,g.b0,g.b1,Bh (by lia) (by lia) (by decide),fun H6 s6=>?_⟩;have x6:=s6 _ _ x5;ac_nf;refine⟨x,Av,dx,_,rfl,x6,BV,Gk,(by show 3<1000;decide),?_⟩;have k7:∀y o,y≠x->H6 y=some o->upd H6 x (.ins Av dx (Ea (Str.ofString "full_sum") (.int (UP b ts (PER ts))) [(Str.ofString "base",.int b),(Str.ofString "terms",.ref p),(Str.ofString "full_count",.int (PER ts))])) y=some o:=fun y o hy h=>by rw[Aw hy];exact h
  have x7:upd H6 x (.ins Av dx (Ea (Str.ofString "full_sum") (.int (UP b ts (PER ts))) [(Str.ofString "base",.int b),(Str.ofString "terms",.ref p),(Str.ofString "full_count",.int (PER ts))])) x=some (.ins Av dx (mF b p (PER ts) (UP b ts (PER ts)))):=Ah;generalize upd H6 x (.ins Av dx (Ea (Str.ofString "full_sum") (.int (UP b ts (PER ts))) [(Str.ofString "base",.int b),(Str.ofString "terms",.ref p),(Str.ofString "full_count",.int (PER ts))]))=H7 at k7 x7 ⊢;have k07:∀y o,y≠x->H y=some o->H7 y=some o:=fun y o hy h=>k7 y o hy (s6 _ _ (k05 y o hy h));ac_nf;refine⟨x,Av,dx,_,_,rfl,x7,BV,Gk,rfl,?_⟩;ac_nf;refine CN (fun z=>by have:=V.int.inj z;lia) ?_;ac_nf;refine q _ k07 ⟨⟨dx,p,x7,⟨us,SqT.of (k7 _ _ pne (s6 _ _ (k5 _ _ pne p4))),tmk k07⟩,ok,few⟩,g,po⟩
theorem La:CI0 5 "Measure" Av ["self","base","terms"] (V3 K Av):=Sg (st:=GC) (ds:= #[.none]) gX gG (by walk_at"k") (by walk_at"k") (by walk_at"k") (by walk_at"dm") (fun _ _ _ _ _ _ _ us hl=>by obtain⟨_,_,_,rfl⟩:=yW hl;exact⟨_,rfl,rfl⟩) Kp
theorem XR:CM0 2 Av "at" ["self","k"] (ACP K Av):=by
 refine cm' ["self","k"] WT (fun h=>?_) fun nd H vs Q E hr h=>?_
 ·obtain⟨x,k,b,ts,rfl,_⟩:=h;rfl
 obtain⟨x,k,b,ts,rfl,M,bk,q⟩:=h;obtain⟨dx,p,hx,T⟩:=M.ex;obtain⟨us,hS,hT⟩:=T.ex;refine⟨_,(Ad (Al (Ag Bq (By (pv 0) (by rfl)) (BJ (SJ rfl) rfl jQ PyProof.Rows.boot_sum (Aa (Ff rfl (Cw ["self","k"] ["self","k"] rfl rfl (by with_unfolding_all rfl) (by ac_rfl) rfl (by ac_rfl) rfl (by ac_rfl) (by walk_at"fm") (by with_unfolding_all rfl) (by with_unfolding_all rfl)) (RX (By (pv 0) (by rfl))) (fun _ _ _ _=>(Jq (Gh (Ae jE (Aa (pv 0) (Aa (pv 2) Ab)))))) (fun _ _ _ _=>(CT Gz (pv 0) Af))) Ab))))),?_⟩;ac_nf;refine⟨x,Av,dx,_,_,rfl,hx,BV,Cu,rfl,?_⟩;ac_nf;refine Em (vD ?_);ac_nf;refine⟨x,Av,dx,_,_,rfl,hx,BV,CQ,rfl,?_⟩;refine⟨p,rfl,⟨_,hS⟩,IW jU (by rw[hT.len];exact Eu (by have:=T.few;lia)) (fun D ys hD=>(Am hD _).tup hS) (fun v=>((Ti H v).map fun t=>onT t k).getD false) (fun v=>((Ti H v).map fun t=>V.int t.1).getD .non) (fun y hy D ys Q' hD h=>?_) (fun y hy _ D ys Q' hD h=>?_) (fun D hD=>?_)⟩
 ·obtain⟨a,t,rfl,ht,ha⟩:=hT.mem hy;rw[Iu ha] at h;ac_nf;exact⟨a,k,t,rfl,Am hD _ _ _ ha,T.ok t ht,bk,⟨_,rfl,h⟩⟩
 ·obtain⟨a,t,rfl,ht,ha⟩:=hT.mem hy;rw[Iu ha] at h;ac_nf;refine An (SqT.of (Am hD _ _ _ ha)) o6 ?_;exact h
 rw[hT.fm (fun t=>onT t k) fun t=>V.int t.1];have e:((ts.filter fun t=>onT t k).map fun t=>V.int t.1)=((ts.filter fun t=>onT t k).map fun t=>t.1).map V.int:=by rw[vi];rfl
 rw[e];ac_nf;refine⟨D,_,rfl,SqL.of Ah,?_⟩;ac_nf;exact q _ (Am hD _)
theorem Oh:CM0 1 Av "period" ["self"] (AAS K Av):=by
 refine cm' ["self"] Ni (fun h=>?_) fun nd H vs Q E hr h=>?_
 ·obtain⟨x,b,ts,rfl,_⟩:=h;rfl
 obtain⟨x,b,ts,rfl,M,q⟩:=h;obtain⟨dx,p,hx,T⟩:=M.ex;refine⟨_,(Ad (Al (By (pv 0) (by rfl)))),?_⟩;ac_nf;refine⟨x,Av,dx,_,_,rfl,hx,BV,Eb,rfl,?_⟩;exact q
theorem QS:C0 1 "refuse_months" ["lengths","leap"] (qG K):=by
 refine co' ["lengths","leap"] Py (fun h=>?_) fun nd H vs Q E hr h=>?_
 ·obtain⟨l,lp,ls,ts,rfl,_⟩:=h;rfl
 obtain⟨l,lp,ls,ts,rfl,hS,g,q⟩:=h;have l0:=g.l0;have l1:=g.l1;have p0:=g.p0;have p1:=g.p1;have ne:ls≠[]:=fun z=>by rw[z] at l0;simp at l0
 refine⟨_,(Ac (Ay (PW.pt (IK (Aj GP (BJ BK rfl Cq xa (Aa (pv 0) Ab)) Af (Ao _)) (Gg (Aj Fl (BJ BK rfl Cq xa (Aa (pv 0) Ab)) (Bv rfl Ul (Cj _ _)) (Ao _)))))
  (Ad BX)
  Aq)
  (Ac (Ay (PW.pt (IK (Aj GP (BJ (jA rfl) rfl um PyProof.Rows.boot_min (Aa (pv 0) Ab)) Af (Ao _)) (Gg (Aj Fl (BJ (jC rfl) rfl zZ PyProof.Rows.boot_max (Aa (pv 0) Ab)) (Bv rfl QL (Cj _ _)) (Ao _)))))
   (Ad BX)
   Aq)
  (Ad (Ay (PW.pt (IK (Aj GP (pv 1) Af (Ao _)) (Gg (Aj Fl (pv 1) (BJ BK rfl Cq xa (Aa (pv 0) Ab)) (Ao _)))))
   (Ad BX)
   Aq)))),?_⟩
 ac_nf;refine⟨l,_,rfl,.inl hS,?_⟩;rw[jp];ac_nf;refine CN (by lia) ?_;ac_nf;refine⟨l,_,rfl,.inl hS,?_⟩;rw[jp];ac_nf;refine CN (by lia) ?_;ac_nf;refine⟨l,ls,rfl,hS,ne,fun m hm _=>?_⟩;have:=g.m m hm;ac_nf;refine CN (by lia) ?_;ac_nf;refine⟨l,ls,rfl,hS,ne,fun m hm _=>?_⟩;have:=g.m m hm;ac_nf;refine CN (by lia) ?_;ac_nf;refine CN (by lia) ?_;ac_nf;refine⟨l,_,rfl,.inl hS,?_⟩;rw[jp];ac_nf;refine CN (by lia) ?_;ac_nf;exact q
theorem Pu:Cp ["self","start","lengths","leap","terms"] ["self","start","lengths","leap","terms"] (BP Gd):=by walk_at"s"
theorem Jb{ds:Array Value}(F:KQ K "__init__" "Sun.__init__" Gd f fd ds):F0 7 f fd ["self","start","lengths","leap","terms"] (Qk K Bk Av):=by
 refine F.ok (k:=6) Pu (fun h=>?_) fun nd H vs Q E hr h=>?_
 ·obtain⟨x,dx,ll,s,lp,v,us,ls,ts,rfl,_⟩:=h;rfl
 obtain⟨x,dx,ll,s,lp,v,us,ls,ts,rfl,hx,hl,hT,hv,g,bs,q⟩:=h;have lx:ll≠x:=Ij hl hx (by intro z;cases z);have l0:=g.l0;have l1:=g.l1;have p0:=g.p0;have p1:=g.p1;have f0:=g.f0;have f1:=g.f1;refine⟨_,(Ac (BR (Ae QS (Aa (pv 2) (Aa (pv 3) Ab))))
  (Ac (Fq (pv 0) (pv 1) (by rfl))
  (Ac (Fq (pv 0) (BZ Ie rfl Vs PyProof.Rows.boot_tuple (Aa (pv 2) Ab)) (by rfl))
  (Ac (Fq (pv 0) (pv 3) (by rfl))
  (Ac (Fq (pv 0) (Gm La (Aa (BJ (SJ rfl) rfl jQ PyProof.Rows.boot_sum (Aa (pv 2) Ab)) (Aa (pv 4) Ab))) (by rfl))
  (Ac (Ay (Aj GP (Ae Hs (Aa (CT Ck (pv 2) (Ag DN (pv 3) Af) (fun _ _=>rfl)) (Aa (By (By (pv 0) (by rfl)) (by rfl)) Ab))) Af (Ao _))
   (Ad BX)
   Aq)
  (Ad (Ay (Aj GP (Ae Hs (Aa (By (By (pv 0) (by rfl)) (by rfl)) (Aa (By (By (pv 0) (by rfl)) (by rfl)) Ab))) Af (Ao _))
   (Ad BX)
   Aq)))))))),?_⟩
 ac_nf;refine⟨ll,lp,ls,ts,rfl,SqL.of hl,g,?_⟩;ac_nf;refine⟨x,Bk,dx,[],rfl,hx,CK,Jd,by decide,?_⟩;have k1:But x H (upd H x (.ins Bk dx (Ea (Str.ofString "start") (.int s) []))):=But.upd;have x1:upd H x (.ins Bk dx (Ea (Str.ofString "start") (.int s) [])) x=some (.ins Bk dx [(Str.ofString "start",.int s)]):=Ah;generalize upd H x (.ins Bk dx (Ea (Str.ofString "start") (.int s) []))=H1 at k1 x1 ⊢;ac_nf;refine⟨ll,_,rfl,.inl ⟨SqL.of (k1 _ _ lx hl),fun p hp=>?_⟩⟩;have px:x≠p:=Bj x1 hp;ac_nf;refine⟨x,Bk,dx,_,rfl,by rw[Aw px];exact x1,CK,Io,(by show 1<1000;decide),?_⟩;have k2:But x H1 (upd (upd H1 p (.tup (ls.map V.int))) x (.ins Bk dx (Ea (Str.ofString "months") (.ref p) [(Str.ofString "start",.int s)]))):=fun y o hy h=>by
  rw[Aw hy];exact Am hp _ _ _ h
 have x2:upd (upd H1 p (.tup (ls.map V.int))) x (.ins Bk dx (Ea (Str.ofString "months") (.ref p) [(Str.ofString "start",.int s)])) x=some (.ins Bk dx [(Str.ofString "start",.int s),(Str.ofString "months",.ref p)]):=Ah;have t2:upd (upd H1 p (.tup (ls.map V.int))) x (.ins Bk dx (Ea (Str.ofString "months") (.ref p) [(Str.ofString "start",.int s)])) p=some (.tup (ls.map V.int)):=by rw[Aw (Ne.symm px),Ah]
 generalize upd (upd H1 p (.tup (ls.map V.int))) x (.ins Bk dx (Ea (Str.ofString "months") (.ref p) [(Str.ofString "start",.int s)]))=H2 at k2 x2 t2 ⊢;ac_nf;refine⟨x,Bk,dx,_,rfl,x2,CK,Hq,(by show 2<1000;decide),?_⟩;have k3:But x H2 (upd H2 x (.ins Bk dx (Ea (Str.ofString "leap") (.int lp) [(Str.ofString "start",.int s),(Str.ofString "months",.ref p)]))):=But.upd;have x3:upd H2 x (.ins Bk dx (Ea (Str.ofString "leap") (.int lp) [(Str.ofString "start",.int s),(Str.ofString "months",.ref p)])) x=some (.ins Bk dx [(Str.ofString "start",.int s),(Str.ofString "months",.ref p),(Str.ofString "leap",.int lp)]):=Ah;generalize upd H2 x (.ins Bk dx (Ea (Str.ofString "leap") (.int lp) [(Str.ofString "start",.int s),(Str.ofString "months",.ref p)]))=H3 at k3 x3 ⊢;have k03:But x H H3:=fun y o hy h=>k3 y o hy (k2 y o hy (k1 y o hy h));have l3:=k03 _ _ lx hl;have t3:=k3 _ _ (Ne.symm px) t2;ac_nf;refine⟨ll,ls,rfl,SqL.of l3,?_⟩;ac_nf;refine fun y dy hy hdy ne=>tM hy hdy ne (hT.but hx .ins k03) ?_ g.ok g.few g.gm g.po fun H4 s4 M4=>⟨rfl,?_⟩
 ·rcases hv with z | ⟨l,z,e⟩
  ·exact .inl z
  ·exact .inr ⟨l,z,k03 _ _ (Ij e hx (by intro z;cases z)) e⟩
 have x4:=s4 _ _ x3;have yx:y≠x:=fun e=>by subst e;rw[x3] at hy;cases hy
 ac_nf;refine⟨x,Bk,dx,_,rfl,x4,CK,CZ,(by show 3<1000;decide),?_⟩;have k5:But x H4 (upd H4 x (.ins Bk dx (Ea (Str.ofString "years") (.ref y) [(Str.ofString "start",.int s),(Str.ofString "months",.ref p),(Str.ofString "leap",.int lp)]))):=But.upd;have x5:upd H4 x (.ins Bk dx (Ea (Str.ofString "years") (.ref y) [(Str.ofString "start",.int s),(Str.ofString "months",.ref p),(Str.ofString "leap",.int lp)])) x=some (.ins Bk dx (sF s lp p y)):=Ah;generalize upd H4 x (.ins Bk dx (Ea (Str.ofString "years") (.ref y) [(Str.ofString "start",.int s),(Str.ofString "months",.ref p),(Str.ofString "leap",.int lp)]))=H5 at k5 x5 ⊢;have M5:=M4.butX x4 .ins yx k5;have t5:=k5 _ _ (Ne.symm px) (s4 _ _ t3);have l5:=k5 _ _ lx (s4 _ _ l3);have k05:∀y o,y≠x->H y=some o->H5 y=some o:=fun y o hy h=>k5 y o hy (s4 _ _ (k03 y o hy h));obtain⟨d5,tp,e5,T5⟩:=M5.ex;have elp:lp-1=(((lp-1).toNat:Nat):Int):=by lia
 have hat:atI (ls.map V.int) (lp-1)=some (V.int (ls.getD (lp-1).toNat 0)):=by
  conv=>lhs;rw[elp]
  refine DX ?_;rw[xc,List.getD_eq_getElem?_getD,qv (by lia)];rfl
 ac_nf;refine Bc (SqL.of l5) hat ?_;ac_nf;refine⟨x,Bk,dx,_,_,rfl,x5,CK,CZ,rfl,?_⟩;ac_nf;refine⟨y,Av,d5,_,_,rfl,e5,BV,CQ,rfl,?_⟩;ac_nf;refine⟨tp,_,ts,rfl,T5,fun H6 s6=>?_⟩;ac_nf;refine CN (by lia) ?_;ac_nf;have x6:=s6 _ _ x5;have e6:=s6 _ _ e5;refine⟨x,Bk,dx,_,_,rfl,x6,CK,CZ,rfl,?_⟩;ac_nf;refine⟨y,Av,d5,_,_,rfl,e6,BV,Cu,rfl,?_⟩;ac_nf;refine⟨x,Bk,dx,_,_,rfl,x6,CK,CZ,rfl,?_⟩;ac_nf;refine⟨y,Av,d5,_,_,rfl,e6,BV,CQ,rfl,?_⟩;ac_nf;refine⟨tp,_,ts,rfl,T5.same s6,fun H7 s7=>?_⟩;ac_nf;refine CN (by lia) ?_;ac_nf;refine q _ (fun y o hy h=>s7 _ _ (s6 _ _ (k05 y o hy h))) ⟨⟨dx,p,y,s7 _ _ x6,SqT.of (s7 _ _ (s6 _ _ t5)),(M5.same s6).same s7⟩,g,bs⟩
theorem S9:CI0 7 "Sun" Bk ["self","start","lengths","leap","terms"] (Qk K Bk Av):=Sg (st:=Gd) (ds:= #[(.int 1 Fz),.none]) gX gG (by walk_at"k") (by walk_at"k") (by walk_at"k") (by walk_at"dm") (fun _ _ _ _ _ _ _ us hl=>by obtain⟨_,_,_,_,_,rfl⟩:=yV hl;exact⟨_,rfl,rfl⟩) Jb
theorem Mt:pG P w K mg base CX0 7 "Sun" Bk ["self","start","lengths","leap","terms"] [(.int 1),.non] (Qk K Bk Av):=jD (st:=Gd) (ds:= #[(.int 1 Fz),.none]) (dv:=[(.int 1 Fz),.none]) 3 rfl gX gG (by walk_at"k") (by walk_at"k") (by walk_at"k") (by walk_at"dm") (fun _ _ _ _ _ _ _ us hl=>by obtain⟨_,_,_,rfl⟩:=yW hl;exact⟨_,rfl,rfl⟩) (.cons (by first | exact rfl | exact Cj _ _ | trivial) (.cons (by first | exact rfl | exact Cj _ _ | trivial) .nil)) Jb
theorem Og:CM0 3 Bk "year_start" ["self","year"] (ACI K Bk Av):=by
 refine cm' ["self","year"] Ng (fun h=>?_) fun nd H vs Q E hr h=>?_
 ·obtain⟨x,n,s,ls,lp,ts,rfl,_⟩:=h;rfl
 obtain⟨x,n,s,ls,lp,ts,rfl,S,bn,q⟩:=h;obtain⟨dx,p,y,hx,hp,M⟩:=S.ex;obtain⟨d,fs,ey,ly⟩:=M.meth;obtain⟨d2,tp,e2,T2⟩:=M.ex;refine⟨_,(Ad (Al (Ag Bq (By (pv 0) (by rfl)) (DR Ht BV (By (pv 0) (by rfl)) (Aa (pv 1) Ab))))),?_⟩;ac_nf;refine⟨x,Bk,dx,_,_,rfl,hx,CK,Jd,rfl,?_⟩;ac_nf;refine⟨x,Bk,dx,_,_,rfl,hx,CK,CZ,rfl,?_⟩;ac_nf;refine⟨y,d,fs,rfl,ey,ly.2.2.1,?_⟩;ac_nf;refine⟨y,tp,d2,n,_,ts,_,rfl,e2,rfl,rfl,T2,M.gd.b0,M.gd.b1,bn.mono (by decide),fun H' s'=>?_⟩;ac_nf;exact q _ s'
theorem Us:CM0 3 Bk "lengths" ["self","year"] (wV K Bk Av):=by
 refine cm' ["self","year","told"] Uc (fun h=>?_) fun nd H vs Q E hr h=>?_
 ·obtain⟨x,n,s,ls,lp,ts,rfl,_⟩:=h;rfl
 obtain⟨x,n,s,ls,lp,ts,rfl,S,bn,q⟩:=h;obtain⟨dx,p,y,hx,hp,M⟩:=S.ex;have g:=S.gd;have p0:=g.p0;have p1:=g.p1;have elp:lp-1=(((lp-1).toNat:Nat):Int):=by lia
 generalize hi:(lp-1).toNat=i at elp;have il:i<ls.length:=by lia
 refine⟨_,(Ac (Ak 2 (BZ XD rfl Zn PyProof.Rows.boot_list (Aa (By (pv 0) (by rfl)) Ab)))
  (Ac (lU (Ag DN (Ag Bq (CT Ck (pv 2) (Ag DN (By (pv 0) (by rfl)) Af) (fun _ _=>rfl)) (DR XR BV (By (pv 0) (by rfl)) (Aa (pv 1) Ab))) (By (By (pv 0) (by rfl)) (by rfl))) (lZ (pv 2) (Ag DN (By (pv 0) (by rfl)) Af) set_list))
  (Ad (Al (pv 2))))),?_⟩
 ac_nf;refine⟨x,Bk,dx,_,_,rfl,hx,CK,Io,rfl,?_⟩;ac_nf;refine⟨p,_,rfl,.inr hp,fun l hl=>?_⟩;have s1:=Am hl (.lst (ls.map V.int));have t1:upd H l (.lst (ls.map V.int)) l=some (.lst (ls.map V.int)):=Ah;generalize upd H l (.lst (ls.map V.int))=H1 at s1 t1 ⊢;have M1:=M.same s1;obtain⟨d1,fs,e1,l1⟩:=M1.meth;obtain⟨d2,tp,e2,T2⟩:=M1.ex;have x1:=s1 _ _ hx;ac_nf;refine⟨x,Bk,dx,_,_,rfl,x1,CK,Hq,rfl,?_⟩;ac_nf;rw[elp];have hat:atI (ls.map V.int) (i:Int)=some (V.int (ls.getD i 0)):=by
  refine DX ?_;rw[xc,List.getD_eq_getElem?_getD,qv il];rfl
 refine Bc (SqL.of t1) hat ?_;ac_nf;refine⟨x,Bk,dx,_,_,rfl,x1,CK,CZ,rfl,?_⟩;ac_nf;refine⟨y,d1,fs,rfl,e1,l1.2.1,?_⟩;ac_nf;refine⟨y,n,_,ts,rfl,M1,bn.mono (by decide),fun H2 s2=>?_⟩;have x2:=s2 _ _ x1;ac_nf;refine⟨x,Bk,dx,_,_,rfl,x2,CK,CZ,rfl,?_⟩;ac_nf;refine⟨y,Av,d2,_,_,rfl,s2 _ _ e2,BV,Cu,rfl,?_⟩;ac_nf;refine⟨x,Bk,dx,_,_,rfl,x2,CK,Hq,rfl,?_⟩;ac_nf;rw[elp];have t2:=s2 _ _ t1;refine cX t2 (by rw[jp];exact il) ?_;ac_nf;have ev:ls.getD i 0+AT ls.sum ts n-ls.sum=ls.getD i 0+ONS ts n:=by
  unfold AT;lia
 rw[ev];have el:(ls.map V.int).set i (V.int (ls.getD i 0+ONS ts n))=(Xc ls lp ts n).map V.int:=by
  unfold Xc;rw[hi,List.map_set]
 rw[el];refine q l _ hl (fun b o h=>?_) Ah;rw[Aw (Bj h hl)];exact s2 _ _ (s1 _ _ h)
theorem Za:CM0 3 Bk "cycle" ["self"] (AAh K Bk Av):=by
 refine cm' ["self","years"] YQ (fun h=>?_) fun nd H vs Q E hr h=>?_
 ·obtain⟨x,s,ls,lp,ts,rfl,_⟩:=h;rfl
 obtain⟨x,s,ls,lp,ts,rfl,S,q⟩:=h;obtain⟨dx,p,y,hx,hp,M⟩:=S.ex;obtain⟨d,fs,ey,ly⟩:=M.meth;obtain⟨d2,tp,e2,T2⟩:=M.ex;have pp:=dB S.gd.ok S.gd.few;refine⟨_,(Ac (Ak 1 (DG Oh BV (By (pv 0) (by rfl))))
  (Ad (Al (Az (Aa (pv 1) (Aa (DR Ht BV (By (pv 0) (by rfl)) (Aa (pv 1) Ab)) Ab)))))),?_⟩
 ac_nf;refine⟨x,Bk,dx,_,_,rfl,hx,CK,CZ,rfl,?_⟩;ac_nf;refine⟨y,d,fs,rfl,ey,ly.2.2.2,?_⟩;ac_nf;refine⟨y,_,ts,rfl,M,?_⟩;ac_nf;refine⟨x,Bk,dx,_,_,rfl,hx,CK,CZ,rfl,?_⟩;ac_nf;refine⟨y,d,fs,rfl,ey,ly.2.2.1,?_⟩;ac_nf;refine⟨y,tp,d2,_,_,ts,_,rfl,e2,rfl,rfl,T2,M.gd.b0,M.gd.b1,Bh (by lia) (by lia) (by decide),fun H' s'=>?_⟩;ac_nf;refine⟨two,fun c hc=>?_⟩;exact q _ _ (s'.trans (Am hc _)) Ah
theorem QR:C0 2 "refuse_wanted" ["month","day","step"] pZ:=by
 refine co' ["month","day","step"] Px (fun h=>?_) fun nd H vs Q E hr h=>?_
 ·obtain⟨m,d,st,rfl,_⟩:=h;cases m<;>cases d<;>rfl
 obtain⟨m,d,st,rfl,m0,d0,st1,q⟩:=h;refine⟨_,(Ac (Ei (Ay (Aj rZ (pv 0) Hm (Ao _))
  (Ad (BR (Ae CJ (Aa (pv 0) Ab))))
  Aq))
  (Ac (Ay (Aj Bm (pv 1) Af (Ao _))
   (Ad BX)
   Aq)
  (Ad (BR (Ae CJ (Aa (pv 2) Ab)))))),?_⟩
 symm;refine EY (fun Z' H'=>H'=H/\Z'=[some (oI m),some (oI d),some (.int st)]) ?_ ?_
 ·symm;refine⟨rfl,?_⟩;symm;cases m with
  | none=>
   refine Ep ?_;symm;exact⟨rfl,rfl⟩
  | some i=>
   refine FW ?_;symm;exact⟨i,rfl,m0 i rfl,⟨rfl,rfl⟩⟩
 rintro Z' H' ⟨rfl,rfl⟩;cases d with
 | none=>
  symm;refine CN (fun e=>nomatch e) ?_;symm;exact⟨st,rfl,st1,q⟩
 | some i=>
  symm;refine CN (fun e=>d0 (xo some (V.int.inj e))) ?_;symm;exact⟨st,rfl,st1,q⟩
theorem QV:C0 1 "days_of_month" ["first","length","day"] wk:=by
 refine co' ["first","length","day","place"] QB (fun h=>?_) fun nd H vs Q E hr h=>?_
 ·obtain⟨f,n,d,rfl,_⟩:=h;cases d<;>rfl
 obtain⟨f,n,d,rfl,n0,n1,q⟩:=h;refine⟨_,(Ac (Ay (Aj K9 (pv 2) Hm (Ao _))
  (Ad (Al (aR rfl rfl Zn rfl Gu (Aa (pv 0) (Aa (Ag Bq (pv 0) (pv 1)) Ab)))))
  Aq)
  (Ac (Ei (Ak 3 (Ds (Aj Fl (pv 2) Af (Ao _)) (Ag DN (pv 2) Af) (Ag Bq (pv 1) (pv 2)))))
  (Ac (Ay (PW.pt (IK (Aj GP (pv 3) Af (Ao _)) (Gg (Aj vI (pv 3) (pv 1) (Ao _)))))
   (Ad (Al (En Ab)))
   Aq)
  (Ad (Al (En (Aa (Ag Bq (pv 0) (pv 3)) Ab))))))),?_⟩
 cases d with
 | none=>
  ac_nf;refine⟨rfl,?_⟩;ac_nf;refine FW ?_;ac_nf;refine⟨f,f+n,rfl,by lia,by lia,fun l hl=>?_⟩;refine q l _ ((List.range (f+n-f).toNat).map fun(i:Nat)=>f+(i:Int)) hl (Am hl _) ?_ (by simp;lia);rw[Ah,vi];rfl
 | some i=>
  rw[show oI (some i)=V.int i from rfl];ac_nf;refine⟨rfl,?_⟩;ac_nf;refine Ep ?_;ac_nf;refine EY (fun Z' H'=>H'=H/\∃pl:Int,Z'=[some (.int f),some (.int n),some (.int i),some (.int pl)]) ?_ ?_
  ·ac_nf;refine CG (fun h=>?_) (fun h=>?_)
   ·ac_nf;exact⟨rfl,_,rfl⟩
   ·ac_nf;exact⟨rfl,_,rfl⟩
  rintro Z' H' ⟨rfl,pl,rfl⟩;have none:∀(l:Addr),H' l=none->Q (.ref l) (upd H' l (.lst [])):=fun l hl=>q l _ [] hl (Am hl _) Ah (by decide);ac_nf;refine CG (fun h1=>FW ?_) (fun h1=>?_)
  ·ac_nf;exact⟨ka _,none⟩
  ac_nf;refine CG (fun h2=>?_) (fun h2=>?_)
  ·ac_nf;exact⟨ka _,none⟩
  ·ac_nf;exact⟨(by show 1<=sizeLine;decide),fun l hl=>q l _ [f+pl] hl (Am hl _) Ah (by show 1<=1006;decide)⟩
theorem Sy:C0 4 "days_of_year" ["calendar","year","month","day"] (wj K Bk Av):=by
 refine co' ["calendar","year","month","day","told","first","number","length"] RK (fun h=>?_) fun nd H vs Q E hr h=>?_
 ·obtain⟨x,D,y,m,d,rfl,_⟩:=h;cases m<;>cases d<;>rfl
 obtain⟨x,D,y,m,i,rfl,S,y0,y1,q⟩:=h;obtain⟨s,ls,lp,ts,S,_⟩:=S.ex;have by':Bt 390 y:=Bh y0 (by lia) (by decide)
 have lm:=o9 S.gd y;have ln:(Xc ls lp ts y).length<=20:=by rw[pC];exact S.gd.l1
 refine⟨_,(Ac (Ak 4 (En Ab))
  (Ac (Ak 5 (DR Og CK (pv 0) (Aa (pv 1) Ab)))
  (Ac (Ak 6 Af)
  (Ac (Ib PassesOwn.never rfl (Fx (DR Us CK (pv 0) (Aa (pv 1) Ab))) (FJ (i:=7) nd rfl (by walk_at"o"))
   (Ac (Ei (Ay (PW.pt (IK (Aj K9 (pv 2) Hm (Ao _)) (Gg (Aj Bm (pv 2) (pv 6) (Ao _)))))
   (Ad (BR (GK ve jd2 jd3 Ik (pv 4) (Aa (Ae QV (Aa (pv 5) (Aa (pv 7) (Aa (pv 3) Ab)))) Ab))))
   Aq))
  (Ac (Ak 5 (Ag Bq (pv 5) (pv 7)))
  (Ad (Ak 6 (Ag Bq (pv 6) Af))))))
  (Ad (Al (pv 4))))))),?_⟩
 symm;refine⟨ka _,fun t0 ht0=>?_⟩;refine fresh ht0 fun H1 s1 e1=>?_;have S1:=S.same s1;symm;obtain⟨dx,fs,hx,l1,_,l2,_⟩:=S1.meth;refine⟨x,dx,fs,rfl,hx,l1,?_⟩;symm;refine⟨x,y,s,ls,lp,ts,rfl,S1,by',fun H2 s2=>?_⟩;have S2:=S1.same s2;have e2:=s2 _ _ e1;have s12:=s1.trans s2;symm;refine Nq (Jp ?_);symm;refine⟨x,dx,fs,rfl,s2 _ _ hx,l2,?_⟩;symm;refine⟨x,y,s,ls,lp,ts,rfl,S2,by',fun l H3 hl s3 t3=>?_⟩;have e3:=s3 _ _ e2;have s13:=s12.trans s3;have lt:l≠t0:=fun z=>by rw[z,e2] at hl;cases hl
 generalize Xc ls lp ts y=L at*
 refine⟨l,rfl,⟨_,SqL.of t3⟩,J3 (xs:=L.map V.int) (fun k Z' H'=>An4 (Ax H H') (H' l=some (.lst (L.map V.int))) (k<=L.length) (Ex4 fun(ds:List Int) (f u:Int) (v:Option V)=>An3 (ds.length<=1006*k) (H' t0=some (.lst (ds.map V.int))) (Z'=[some (.ref x),some (.int y),some (oI m),some (oI i),some (.ref t0),some (.int f),some (.int u),v]))) ⟨s13,t3,ka _,[],_,_,none,qh _,e3,rfl⟩ ?_ ?_ ?_⟩
 ·rintro k Z' H' hk ⟨_,t,_⟩;exact SqL.of t
 ·rintro k v0 Z' H' hv ⟨sH,tl,k1,ds,f,u,v,dl,td,rfl⟩;rw[xc] at hv;obtain⟨n,hn,rfl⟩:=ja4.mp hv;have kl:k<L.length:=(xb.mp hn).1;have hnm:=lm n (zh hn);symm;refine EY (fun Z' H'=>An3 (Ax H H') (H' l=some (.lst (L.map V.int))) (∃(ds:List Int),An3 (ds.length<=1006*(k+1)) (H' t0=some (.lst (ds.map V.int))) (Z'=[some (.ref x),some (.int y),some (oI m),some (oI i),some (.ref t0),some (.int f),some (.int u),some (.int n)]))) ?_ ?_
  ·have ext:∀(l5:Addr) (H5:Hp) (es:List Int) (s5:Ax H' H5) (t5:H5 l5=some (.lst (es.map V.int))) (le:es.length<=1006) {Q2:VK},(∀(H4:Hp) (ds:List Int),Ax H H4->H4 l=some (.lst (L.map V.int))->ds.length<=1006*(k+1)->H4 t0=some (.lst (ds.map V.int))->Q2 .non H4)->Qn (.ref t0) [.ref l5] H5 Q2:=fun l5 H5 es s5 t5 le {Q2} hQ=>by
    refine⟨t0,l5,_,_,rfl,rfl,s5 _ _ td,t5,?_,?_⟩
    ·rw[jp,jp,sizeLine_eq];lia
    ·rw[<-yi];refine hQ _ (ds++es) (fun r o ho=>?_) ?_ (by rw[qf];lia) Ah
     ·rw[Aw fun z=>by rw[z,ht0] at ho;cases ho];exact s5 _ _ (sH _ _ ho)
     ·rw[Aw lt];exact s5 _ _ tl
   cases m with
   | none=>
    symm;refine⟨rfl,?_⟩;symm;refine FW (FW ?_);symm;refine Nr rfl td ?_;symm;refine⟨_,n,i,rfl,hnm.1,hnm.2,fun l5 H5 es h5 s5 t5 le=>?_⟩;refine Ge ?_;exact ext l5 H5 es s5 t5 le fun H4 ds a1 a2 a3 a4=>⟨a1,a2,ds,a3,a4,rfl⟩
   | some j=>
    symm;refine⟨rfl,?_⟩;symm;refine Ep ?_;symm;refine CG (fun z=>?_) (fun z=>?_)
    ·symm;refine Nr rfl td ?_;symm;refine⟨_,n,i,rfl,hnm.1,hnm.2,fun l5 H5 es h5 s5 t5 le=>?_⟩;refine Ge ?_;exact ext l5 H5 es s5 t5 le fun H4 ds a1 a2 a3 a4=>⟨a1,a2,ds,a3,a4,rfl⟩
    ·symm;exact⟨sH,tl,ds,by lia,td,rfl⟩
  rintro Z' H4 ⟨sH,tl,ds,dl,td,rfl⟩;symm;exact⟨sH,tl,by lia,ds,_,_,some (.int n),dl,td,rfl⟩
 rintro Z' H' ⟨sH,tl,k1,ds,f,u,v,dl,td,rfl⟩;symm;rw[jp] at dl;exact q t0 _ ds ht0 sH td (by lia)
theorem kh:Cp ["calendar","month","day","step","rest","cycle","years","size","days","year"] ["calendar","month","day","step","rest"] (BP WQ):=by walk_at"s"
theorem mU{ds:Array Value}(F:KQ K "dated" "dated" WQ f fd ds):F0 5 f fd ["calendar","month","day","step","rest"] (Xu K Bk Av):=by
 refine F.ok (k:=4) kh (fun h=>?_) fun nd H vs Q E hr h=>?_
 ·obtain⟨x,D,st,rs,m,d,rfl,_⟩:=h;cases m<;>cases d<;>rfl
 obtain⟨x,D,st,rs,mo,d,rfl,S,m0,d0,st0,st1,q⟩:=h;obtain⟨⟨s,ls,lp,ts,S0,ep,eD⟩,D0,D1⟩:=id S;refine⟨_,(Ac (BR (Ae QR (Aa (pv 1) (Aa (pv 2) (Aa (pv 3) Ab)))))
  (Ac (Ak 5 (DG Za CK (pv 0)))
  (Ac (Ak 6 (Ae Mq (Aa (pxT 5) (Aa (pv 3) Ab))))
  (Ac (Ak 7 (Ag CW (Ag Bs (pv 6) (pxT 5)) (pxT 5)))
  (Ac (BR (Ae Dy (Aa (pv 7) Ab)))
  (Ac (Ak 8 (En Ab))
  (Ac (Ib PassesOwn.never rfl (Ka rfl Gu (Aa (Ag Bp (pv 4) (pv 3)) (Aa (pv 6) (Aa (pv 3) Ab)))) (FJ (i:=9) nd rfl (by walk_at"o"))
   (Ad (BR (GK ve jd2 jd3 Ik (pv 8) (Aa (Ae Sy (Aa (pv 0) (Aa (pv 9) (Aa (pv 1) (Aa (pv 2) Ab))))) Ab)))))
  (Ad (Al (Ae JP (Aa (pv 7) (Aa (pv 8) Ab)))))))))))),?_⟩
 symm;refine⟨mo,d,st,rfl,m0,d0,st0,?_⟩;symm;obtain⟨dx,fs,hx,_,_,_,l3,_⟩:=S0.meth;refine⟨x,dx,fs,rfl,hx,l3,?_⟩;symm;refine⟨x,s,ls,lp,ts,rfl,S0,fun c H1 s1 t1=>?_⟩;rw[ep,eD] at t1;symm;refine An (SqT.of t1) at0 ?_;symm;refine⟨_,_,rfl,by lia,by lia,Bh (by lia) (by lia) (by decide),Bh (by lia) (by lia) (by decide),fun H2 s2=>?_⟩;have lc:Bx 2 st=2:=by rcases(by lia:st=1\/st=2) with e | e<;>subst e<;>ac_rfl
 rw[lc];symm;refine An (SqT.of (s2 _ _ t1)) at0 ?_;symm;refine An (SqT.of (s2 _ _ t1)) at1 ?_;symm;rw[show (2:Int)/2=1 from rfl];refine DQ ⟨64,64,Bh (by lia) (by lia) (by decide),Bh (by lia) (by lia) (by decide),by decide⟩ ?_;symm;rw[Int.one_mul];refine⟨_,rfl,by lia,?_⟩;symm;refine⟨ka _,fun l hl=>?_⟩;have hlH:H l=none:=(s1.trans s2).free hl;refine fresh hl fun H3 s3 t3=>?_;have S3:=((S.same s1).same s2).same s3;symm;refine Nq (Qm ?_);symm;have r0:=qg rs (show st≠0 by lia);have r1:=qc rs (show 0<st by lia);generalize rs%st=R at*
 obtain⟨n,hn,n2,hk⟩:∃n:Nat,(n:Int)=Builtin.Range.rangeSize R 2 st/\n<=2/\∀k:Nat,k<n->R+(k:Int)*st<2:=by
  rw[Gf (by lia),xz (by lia)];rcases(by lia:st=1\/st=2) with e | e<;>subst e
  ·exact⟨2,by lia,by lia,fun k hk=>by lia⟩
  ·exact⟨1,by lia,by lia,fun k hk=>by lia⟩
 refine⟨R,2,st,rfl,by lia,by lia,Hh (by lia) (by lia) (by lia) (by lia) (by lia) (by lia),n,hn,LQ (fun i Z' H'=>An3 (Ax H H') (i<=2) (Ex2 fun(ds:List Int) (v:Option V)=>An4 (ds.length<=30000*i) (H' l=some (.lst (ds.map V.int))) (KR K Bk Av H' x D) (Z'=[some (.ref x),some (oI mo),some (oI d),some (.int st),some (.int rs),some (.ref c),some (.int 2),some (.int D),some (.ref l),v]))) ⟨s1.trans (s2.trans s3),by lia,[],none,qh _,t3,S3,rfl⟩ ?_ ?_⟩
 ·rintro i Z' H' hi ⟨sH,i1,ds,v,dl,tl,SH,rfl⟩;have ky:=hk i hi;have k0:0<=(i:Int)*st:=jh5 (by lia) (by lia);symm;refine Nr rfl tl ?_;symm;refine⟨x,D,_,mo,d,rfl,SH,by lia,by lia,fun l5 H5 es h5 s5 t5 le=>?_⟩;refine Ge ?_;have tl5:=s5 _ _ tl;refine⟨l,l5,_,_,rfl,rfl,tl5,t5,?_,?_⟩
  ·rw[jp,jp,sizeLine_eq];lia
  ·rw[<-yi];refine⟨fun u o ho=>?_,by lia,_,_,by rw[qf];lia,Ah,(SH.same s5).but tl5 But.upd,rfl⟩;rw[Aw fun z=>by rw[z,hlH] at ho;cases ho];exact s5 _ _ (sH _ _ ho)
 ·rintro Z' H' ⟨sH,_,ds,v,dl,tl,SH,rfl⟩;symm;refine⟨l,ds,D,rfl,SqL.of tl,by lia,by lia,fun p b H6 s6 t6 B=>?_⟩;exact q p b H6 (sH.trans s6) t6 B.lt
theorem uM:C0 5 "dated" ["calendar","month","day","step","rest"] (Xu K Bk Av):=uI (st:=WQ) (ds:= #[.none,.none,(.int 1 Xl),(.int 0 Xk)]) gX gG (by walk_at"dg") (fun _ _ _ _ _ _ _ us hl=>by obtain⟨_,_,_,_,_,rfl⟩:=yV hl;exact⟨_,rfl,rfl⟩) mU
theorem AAi:Cp ["turn","day"] ["turn","day"] (BP xH):=by walk_at"s"
theorem ABO(F:Fun K "on" "on" xH f fd):F0 1 f fd ["turn","day"] (AAV K):=by
 refine F.ok (k:=0) AAi (fun h=>?_) fun nd H vs Q E hr h=>?_
 ·obtain⟨a,n,d,b,rfl,_⟩:=h;rfl
 obtain⟨a,n,d,b,rfl,hS,h0,q⟩:=h;refine⟨_,(Ad (Al (HN Bm (Ag GD (Ag Js (pxT 0) (Ag Bp (pv 1) (pxT 0))) Af) Af (Ao _)))),?_⟩;symm;refine An hS at1 ?_;symm;refine An hS at0 ?_;refine DQ h0 ?_;symm;refine DQ (show (0:Int)<=d%n from qg d (by lia)) ?_;symm;rw[uT];exact q
theorem ZQ:C0 1 "on_rounds" ["turn","day"] (AAV K):=co (st:=xH) (by walk_at"g") (by walk_at"b") fun F=>ABO F
theorem NQ:Cp ["self","kept","made_of","words"] ["self","kept","made_of","words"] (BP G7):=by walk_at"s"
theorem N5{ds:Array Value}(F:KQ K "__init__" "Rule.__init__" G7 f fd ds):F0 1 f fd ["self","kept","made_of","words"] (cR K Ba):=by
 refine F.ok (k:=0) NQ (fun h=>?_) fun nd H vs Q E hr h=>?_
 ·obtain⟨x,p,pm,pw,C,dx,rfl,_⟩:=h;rfl
 obtain⟨x,p,pm,pw,C,dx,rfl,hx,R,q⟩:=h;refine⟨_,(Ac (Fq (pv 0) (Ds (Aj K9 (pv 1) Hm (Ao _)) (Az (Aa Af (Aa Af Ab))) (pv 1)) (by rfl))
  (Ac (Fq (pv 0) (Ds (Aj K9 (pv 2) Hm (Ao _)) (Az Ab) (pv 2)) (by rfl))
  (Ad (Fq (pv 0) (Ds (Aj K9 (pv 3) Hm (Ao _)) (Az (Aa Ai Ab)) (pv 3)) (by rfl))))),?_⟩
 symm;refine JC ?_;symm;refine⟨rfl,cZ (CN (fun e=>nomatch e) ?_)⟩;symm;refine⟨x,C,dx,[],rfl,hx,R.cl,R.k,by decide,?_⟩;symm;refine JC ?_;symm;refine⟨rfl,cZ (CN (fun e=>nomatch e) ?_)⟩;symm;refine⟨x,C,dx,_,rfl,Ah,R.cl,R.m,(show 1<1000 by decide),?_⟩;symm;refine JC ?_;symm;refine⟨rfl,cZ (CN (fun e=>nomatch e) ?_)⟩;symm;refine⟨x,C,dx,_,rfl,Ah,R.cl,R.w,(show 2<1000 by decide),?_⟩;symm;refine q _ (fun y o ne e=>?_) Ah;rw[Aw ne,Aw ne,Aw ne];exact e
theorem Bf:zW P w K mg base 1 "Rule" ["self","kept","made_of","words"] (cR K Ba):=oO (st:=G7) (ds:= #[.none,.none,.none]) gX gG (by walk_at"k") (by walk_at"k") (by walk_at"k") (by walk_at"db") (fun _ _ _ _ _ _ _ us hl=>by obtain⟨_,_,_,_,rfl⟩:=ABR hl;exact⟨_,rfl,rfl⟩) N5
theorem V7:Cp ["self"] ["self"] (BP Jm):=by walk_at"s"
theorem Wr{k d:Nat}(F:Fun K "turn" "Rule.turn" Jm f fd)(cr:Oq P w K mg base CX0 k "turn" ["self"] (CL.map fun C=>(C,(spR (Qj K Ba CL)) d)))(hk:1<=k):F0 (k+1) f fd ["self"] ((spR (Qj K Ba CL)) (d+1)):=by
 refine F.ok (k:=k) V7 (fun h=>?_) fun nd H vs Q E hr h=>?_
 ·obtain⟨_,x,n,b,rfl,_⟩:=h;rfl
 obtain⟨_,x,n,b,rfl,R,q⟩:=h;obtain⟨C,dx,p,pm,pw,hC,rc,hx,hp⟩:=R.ex;refine⟨_,(Ad (Al (By (pv 0) (by rfl)))),?_⟩;symm;exact⟨x,C,dx,_,_,rfl,hx,rc.cl,rc.k,rfl,q p hp⟩
theorem Be:Oq P w K mg base CX0 2 "turn" ["self"] (CL.map fun C=>(C,(spR (Qj K Ba CL)) 1)):=RV (k0:=1) (Cs:=CL) (sp:=(spR (Qj K Ba CL))) (st:=Jm) (all_cons ⟨Vd,by walk_at"h"⟩ (all_cons ⟨Yt,by walk_at"h"⟩ (all_cons ⟨Ry,by walk_at"h"⟩ (all_cons ⟨PN,by walk_at"h"⟩ (all_cons ⟨Va,by walk_at"h"⟩ (all_cons ⟨Rz,by walk_at"h"⟩ (all_cons ⟨Ml,by walk_at"h"⟩ (all_cons ⟨Vc,by walk_at"h"⟩ (all_cons ⟨Mj,by walk_at"h"⟩ (all_cons ⟨PB,by walk_at"h"⟩ (all_cons ⟨Ru,by walk_at"h"⟩ (all_cons ⟨O9,by walk_at"h"⟩ (all_cons ⟨Rx,by walk_at"h"⟩ (all_cons ⟨Rv,by walk_at"h"⟩ (all_cons ⟨Vb,by walk_at"h"⟩ (all_cons ⟨PL,by walk_at"h"⟩ all_nil)))))))))))))))) (by walk_at"b") (fun _ _ _ _ h=>Xp h) (fun d _ _ CL F=>Wr F CL (vn _ _)) 1
theorem Z5:Cp ["self","day"] ["self","day"] (BP Nh):=by walk_at"s"
theorem aZ{k d:Nat}(F:Fun K "on" "Rule.on" Nh f fd)(cr:Oq P w K mg base CX0 k "on" ["self","day"] (CL.map fun C=>(C,(spR (cT K Ba CL)) d)))(hk:2<=k):F0 (k+1) f fd ["self","day"] ((spR (cT K Ba CL)) (d+1)):=by
 refine F.ok (k:=k) Z5 (fun h=>?_) fun nd H vs Q E hr h=>?_
 ·obtain⟨_,x,n,d,b,rfl,_⟩:=h;rfl
 obtain⟨_,x,n,d,b,rfl,R,q⟩:=h;obtain⟨C,dx,p,pm,pw,hC,rc,hx,hp⟩:=R.ex;refine⟨_,(Ad (Al (Ae ZQ (Aa (By (pv 0) (by rfl)) (Aa (pv 1) Ab))))),?_⟩;symm;refine⟨x,C,dx,_,_,rfl,hx,rc.cl,rc.k,rfl,?_⟩;symm;exact⟨p,n,d,b,rfl,SqT.of hp,R.n0,q⟩
theorem oV:Oq P w K mg base CX0 3 "on" ["self","day"] (CL.map fun C=>(C,(spR (cT K Ba CL)) 1)):=RV (k0:=2) (Cs:=CL) (sp:=(spR (cT K Ba CL))) (st:=Nh) (all_cons ⟨Vd,by walk_at"h"⟩ (all_cons ⟨Yt,by walk_at"h"⟩ (all_cons ⟨Ry,by walk_at"h"⟩ (all_cons ⟨PN,by walk_at"h"⟩ (all_cons ⟨Va,by walk_at"h"⟩ (all_cons ⟨Rz,by walk_at"h"⟩ (all_cons ⟨Ml,by walk_at"h"⟩ (all_cons ⟨Vc,by walk_at"h"⟩ (all_cons ⟨Mj,by walk_at"h"⟩ (all_cons ⟨PB,by walk_at"h"⟩ (all_cons ⟨Ru,by walk_at"h"⟩ (all_cons ⟨O9,by walk_at"h"⟩ (all_cons ⟨Rx,by walk_at"h"⟩ (all_cons ⟨Rv,by walk_at"h"⟩ (all_cons ⟨Vb,by walk_at"h"⟩ (all_cons ⟨PL,by walk_at"h"⟩ all_nil)))))))))))))))) (by walk_at"b") (fun _ _ _ _ h=>Xp h) (fun d _ _ CL F=>aZ F CL (vn _ _)) 1
theorem Tc:CI0 3 "All" Vk ["self"] (AAe K Ba CL Vk 1):=by
 refine ci' ["self"] RQ (fun h=>?_) fun nd H vs Q E hr h=>?_
 ·obtain⟨x,rfl,_⟩:=h;rfl
 obtain⟨x,rfl,⟨dx,hx⟩,q⟩:=h;refine⟨_,(Ad (BR (DY Bf (Aa (pv 0) (Aa (Az (Aa Af (Aa Af Ab))) (Aa (Az Ab) (Aa (Az (Aa Ai Ab)) Ab))))))),?_⟩;symm;refine⟨HH,fun p hp=>?_⟩;refine fresh hp fun H1 s1 t1=>?_;have t1:H1 p=some (.tup [.int 1,.int ((1:Nat):Int)]):=t1;symm;refine⟨(by show 0<=sizeLine;decide),fun pm hpm=>?_⟩;refine fresh hpm fun H2 s2 t2=>?_;symm;refine⟨(by show 1<=sizeLine;decide),fun pw hpw=>?_⟩;refine fresh hpw fun H3 s3 t3=>?_;have s3:=s2.trans s3;have hx3:=(s1.trans s3) _ _ hx;symm;exact⟨x,p,pm,pw,Vk,dx,rfl,hx3,VV,fun H' k e=>q _ H' (k.pre (s1.trans s3)) (Fg (zh (i:=0) rfl) VV hx3 (s3 _ _ t1) k e (by decide) (by decide) (by decide)) rfl⟩
theorem Uu:CI0 3 "No" jJ ["self"] (AAe K Ba CL jJ 0):=by
 refine ci' ["self"] Ug (fun h=>?_) fun nd H vs Q E hr h=>?_
 ·obtain⟨x,rfl,_⟩:=h;rfl
 obtain⟨x,rfl,⟨dx,hx⟩,q⟩:=h;refine⟨_,(Ad (BR (DY Bf (Aa (pv 0) (Aa (Az (Aa Af (Aa Af Ab))) (Aa (Az Ab) (Aa (Az (Aa Ai Ab)) Ab))))))),?_⟩;symm;refine⟨HH,fun p hp=>?_⟩;refine fresh hp fun H1 s1 t1=>?_;have t1:H1 p=some (.tup [.int 1,.int ((0:Nat):Int)]):=t1;symm;refine⟨(by show 0<=sizeLine;decide),fun pm hpm=>?_⟩;refine fresh hpm fun H2 s2 t2=>?_;symm;refine⟨(by show 1<=sizeLine;decide),fun pw hpw=>?_⟩;refine fresh hpw fun H3 s3 t3=>?_;have s3:=s2.trans s3;have hx3:=(s1.trans s3) _ _ hx;symm;exact⟨x,p,pm,pw,jJ,dx,rfl,hx3,Ys,fun H' k e=>q _ H' (k.pre (s1.trans s3)) (Fg (zh (i:=1) rfl) Ys hx3 (s3 _ _ t1) k e (by decide) (by decide) (by decide)) rfl⟩
theorem PQ:C0 1 "each_text" ["step","rest"] AAf:=by
 refine co' ["step","rest","least_rest"] YM (fun h=>?_) fun nd H vs Q E hr h=>?_
 ·obtain⟨n,r,rfl,_⟩:=h;rfl
 obtain⟨n,r,rfl,n0,n1,q⟩:=h;refine⟨_,(Ac (Ak 2 (Ag Bp (pv 1) (pv 0)))
  (Ad (Al (JH (Cv Ai (Cv (JK hr.toN (pv 0)) (Cv Ai (Cv (JK hr.toN (pv 2)) K7)))))))),?_⟩
 symm;refine Hz ?_;have m0:=qg r (show n≠0 by lia);have m1:=qc r (show 0<n by lia);have g1:n.natAbs.log2<1920:=yU (by lia) (by lia);have g2:(r%n).natAbs.log2<1920:=yU (by lia) (by lia);refine JZ 0 (by decide) (by decide) fun l1=>Ox _ l1 (by decide) rfl g1 fun l2=>JZ _ l2 (by decide) fun l3=>Ox _ l3 (by decide) rfl g2 fun l4=>JB (fits l4 (by decide)) ?_;refine q _ ?_;rw[J0,J0,J0,J0];have e0:Str.empty.length=0:=by ac_rfl
 have e1:(Str.ofString "each ").length=5:=by ac_rfl
 have e2:(Str.ofString " from ").length=6:=by ac_rfl
 have e3:=J1 g1;have e4:=J1 g2;lia
theorem Qa:CI0 3 "Each" Ol ["self","size","rest"] (AAc K Ba CL Ol):=by
 refine ci' ["self","size","rest","kept"] QG (fun h=>?_) fun nd H vs Q E hr h=>?_
 ·obtain⟨x,n,r,rfl,_⟩:=h;rfl
 obtain⟨x,n,r,rfl,n0,n1,⟨dx,hx⟩,q⟩:=h;refine⟨_,(Ac (Ak 3 (Ae JP (Aa (pv 1) (Aa (En (Aa (pv 2) Ab)) Ab))))
  (Ad (BR (DY Bf (Aa (pv 0) (Aa (pv 3) (Aa (Az Ab) (Aa (Az (Aa (Ae PQ (Aa (pv 1) (Aa (pv 2) Ab))) Ab)) Ab)))))))),?_⟩
 symm;refine⟨(by show 1<=sizeLine;decide),fun l hl=>?_⟩;refine fresh hl fun H0 s0 t0=>?_;have t0:H0 l=some (.lst ([r].map V.int)):=t0;symm;refine⟨l,[r],n,rfl,SqL.of t0,by lia,by lia,fun p b H1 s1 t1 B=>?_⟩;have s1:=s0.trans s1;symm;refine⟨(by show 0<=sizeLine;decide),fun pm hpm=>?_⟩;refine fresh hpm fun H2 s2 t2=>?_;symm;refine⟨n,r,rfl,n0,n1,fun z hz=>?_⟩;symm;refine⟨(by show 1<=sizeLine;decide),fun pw hpw=>?_⟩;refine fresh hpw fun H3 s3 t3=>?_;have s3:=s2.trans s3;have hx3:=(s1.trans s3) _ _ hx;symm;exact⟨x,p,pm,pw,Ol,dx,rfl,hx3,Rt,fun H' k e=>q _ H' (k.pre (s1.trans s3)) (Fg (zh (i:=2) rfl) Rt hx3 (s3 _ _ t1) k e (by lia) (by lia) B.lt) B⟩
theorem Ku:C0 1 "wanted_text" ["number"] AAP:=by
 refine co' ["number"] Tv (fun h=>?_) fun nd H vs Q E hr h=>?_
 ·obtain⟨m,rfl,_⟩:=h;rfl
 obtain⟨m,rfl,hm,q⟩:=h;refine⟨_,(Ad (Al (Ds (Aj K9 (pv 0) Hm (Ao _)) Ai (BZ BL rfl Dp qo (Aa (pv 0) Ab))))),?_⟩;cases m with
 | none=>
  symm
  try refine JC ?_
  symm;refine⟨rfl,?_⟩;symm;refine FW ?_;symm;exact q _ (by ac_rfl)
 | some j=>
  rw[show oI (some j)=V.int j from rfl];symm
  try refine JC ?_
  symm;refine⟨rfl,?_⟩;symm;refine Ep ?_;symm;exact⟨_,rfl,hm j rfl,q _ (J1 (hm j rfl))⟩
theorem XN:C0 2 "dated_text" ["name","month","day","step","rest"] AAg:=by
 refine co' ["name","month","day","step","rest","words"] WP (fun h=>?_) fun nd H vs Q E hr h=>?_
 ·obtain⟨z,m,d,st,rs,rfl,_⟩:=h;cases m<;>cases d<;>rfl
 obtain⟨z,m,d,st,rs,rfl,tzl,hm,hd,st0,st1,q⟩:=h;refine⟨_,(Ac (Ak 5 (En (Aa Ai (Aa (pv 0) (Aa (Ae Ku (Aa (pv 1) Ab)) (Aa (Ae Ku (Aa (pv 2) Ab)) Ab))))))
  (Ac (Ei (Ay (Aj Fl (pv 3) Af (Ao _))
   (Ad (BR (GK ve jb4 jb5 GQ (pv 5) (Aa (Ae PQ (Aa (pv 3) (Aa (pv 4) Ab))) Ab))))
   Aq))
  (Ad (Al (GK ku PySem.F.slot_str_join PySem.F.type_str_join sU Ai (Aa (pv 5) Ab)))))),?_⟩
 symm;refine⟨m,rfl,hm,fun z1 t1l=>?_⟩;symm;refine⟨d,rfl,hd,fun z2 t2l=>?_⟩;symm;refine⟨four,fun l hl=>?_⟩;refine fresh hl fun H1 s1 e1=>?_;have e1:H1 l=some (.lst (([Str.ofString "date",z,z1,z2]:List Str).map V.str)):=e1;symm;have eb:(Str.ofString " ").length=1:=by ac_rfl
 have e4:(Str.ofString "date").length=4:=by ac_rfl
 refine EY (fun Z' H'=>Ax H H'/\Ex6 fun(zs:List Str) (w0 w1 w2 w3 w4:V)=>An3 (H' l=some (.lst (zs.map V.str))) ((zs.map (·.length)).sum+zs.length*1<=8000) (Z'=[some w0,some w1,some w2,some w3,some w4,some (.ref l)])) ?_ ?_
 ·symm;refine CG (fun c=>?_) (fun c=>?_)
  ·symm;refine HW rfl e1 ?_;symm;refine⟨_,_,rfl,by lia,by lia,fun z3 t3l=>?_⟩;refine Ge ?_;refine Nt e1 (by show 4<sizeLine;decide) ?_;symm;refine⟨Cz hl s1,[Str.ofString "date",z,z1,z2,z3],_,_,_,_,_,Ah,?_,rfl⟩;show((Str.ofString "date").length+(z.length+(z1.length+(z2.length+(z3.length+0)))))+5*1<=8000;lia
  ·symm;refine⟨s1,[Str.ofString "date",z,z1,z2],_,_,_,_,_,e1,?_,rfl⟩;show((Str.ofString "date").length+(z.length+(z1.length+(z2.length+0))))+4*1<=8000;lia
 rintro Z' H2 ⟨s2,zs,w0,w1,w2,w3,w4,e2,hz,rfl⟩;symm;refine Oz ?_;symm;refine⟨rfl,?_⟩;symm;exact⟨_,l,zs,rfl,rfl,SqL.of e2,by rw[eb];lia,q _ _ s2⟩
theorem Lj:Cp ["self","name","calendar","month","day","step","rest","kept"] ["self","name","calendar","month","day","step","rest"] (BP Gp):=by walk_at"s"
theorem MT{ds:Array Value}(F:KQ K "__init__" "Dated.__init__" Gp f fd ds):F0 6 f fd ["self","name","calendar","month","day","step","rest"] (u9 K Ba CL JV Bk Av):=by
 refine F.ok (k:=5) Lj (fun h=>?_) fun nd H vs Q E hr h=>?_
 ·obtain⟨x,y,z,D,st,rs,m,d,rfl,_⟩:=h;cases m<;>cases d<;>rfl
 obtain⟨x,y,z,D,st,rs,m,d,rfl,tz,S,m0,hm,d0,hd,st0,st1,⟨dx,hx⟩,q⟩:=h;refine⟨_,(Ac (Ak 7 (Ae uM (Aa (pv 2) (Aa (pv 3) (Aa (pv 4) (Aa (pv 5) (Aa (pv 6) Ab)))))))
  (Ad (BR (DY Bf (Aa (pv 0) (Aa (pv 7) (Aa (Az Ab) (Aa (Az (Aa (Ae XN (Aa (pv 1) (Aa (pv 3) (Aa (pv 4) (Aa (pv 5) (Aa (pv 6) Ab)))))) Ab)) Ab)))))))),?_⟩
 symm;refine⟨y,D,st,rs,m,d,rfl,S,m0,d0,st0,st1,fun p c H1 s1 t1 B=>?_⟩;symm;refine⟨(by show 0<=sizeLine;decide),fun pm hpm=>?_⟩;refine fresh hpm fun H2 s2 t2=>?_;symm;refine⟨z,m,d,st,rs,rfl,tz,hm,hd,st0,st1,fun zt Hy sy=>?_⟩;symm;refine⟨(by show 1<=sizeLine;decide),fun pw hpw=>?_⟩;refine fresh hpw fun H3 s3 t3=>?_;have s3:=sy.trans s3;have s3:=s2.trans s3;have hx3:=(s1.trans s3) _ _ hx;symm;exact⟨x,p,pm,pw,JV,dx,rfl,hx3,O8,fun H' k e=>q _ H' (k.pre (s1.trans s3)) (Fg (zh (i:=3) rfl) O8 hx3 (s3 _ _ t1) k e (by have:=S.d0;lia) (by have:=S.d1;lia) B) trivial⟩
theorem Om:CI0 6 "Dated" JV ["self","name","calendar","month","day","step","rest"] (u9 K Ba CL JV Bk Av):=Sg (st:=Gp) (ds:= #[.none,.none,(.int 1 Jg),(.int 0 Jf)]) gX gG (by walk_at"k") (by walk_at"k") (by walk_at"k") (by walk_at"dm") (fun _ _ _ _ _ _ _ us hl=>by obtain⟨_,_,_,_,_,_,_,rfl⟩:=ABQ hl;exact⟨_,rfl,rfl⟩) MT
theorem TF:CI0 3 "Not" Vi ["self","R"] (AAd K Ba CL Vi):=by
 refine ci' ["self","R"] RL (fun h=>?_) fun nd H vs Q E hr h=>?_
 ·obtain⟨x,r,n,b,rfl,_⟩:=h;rfl
 obtain⟨x,r,n,b,rfl,R,⟨dx,hx⟩,q⟩:=h;refine⟨_,(Ad (BR (DY Bf (Aa (pv 0) (Aa (Ae HR (Aa (Bl Be (pv 1)) Ab)) (Aa (Az (Aa (pv 1) Ab)) (Aa (Az (Aa Ai (Aa Ai Ab))) Ab))))))),?_⟩;symm;obtain⟨C,dr,fs,m,hr,l1,_⟩:=R.mt;refine⟨r,C,dr,fs,_,m _,rfl,hr,l1,?_⟩;symm;refine⟨ja2,r,n,b,rfl,R,fun p hp=>?_⟩;symm;refine⟨p,n,b,rfl,SqT.of hp,R.n0,R.n1,R.lt,fun p2 c hp2 hc hbit=>?_⟩;refine fresh hp2 fun H1 s1 t1=>?_;symm;refine⟨(by show 1<=sizeLine;decide),fun pm hpm=>?_⟩;refine fresh hpm fun H2 s2 t2=>?_;symm;refine⟨HH,fun pw hpw=>?_⟩;refine fresh hpw fun H3 s3 t3=>?_;have s3:=s2.trans s3;have hx3:=(s1.trans s3) _ _ hx;symm;exact⟨x,p2,pm,pw,Vi,dx,rfl,hx3,VP,fun H' k e=>q _ H' (k.pre (s1.trans s3)) (Fg (zh (i:=4) rfl) VP hx3 (s3 _ _ t1) k e R.n0 R.n1 hc) trivial⟩
theorem Qd:CI0 6 "Both" TY ["self","R","S"] (Li K Ba CL TY (Bo and)):=by
 refine ci' ["self","R","S"] QJ (fun h=>?_) fun nd H vs Q E hr h=>?_
 ·obtain⟨x,r,t,n1,n2,b1,b2,rfl,_⟩:=h;rfl
 obtain⟨x,r,t,n1,n2,b1,b2,rfl,R1,R2,lz,⟨dx,hx⟩,q⟩:=h;refine⟨_,(Ad (BR (DY Bf (Aa (pv 0) (Aa (Ae JT (Aa (Bl Be (pv 1)) (Aa (Bl Be (pv 2)) Ab))) (Aa (Az (Aa (pv 1) (Aa (pv 2) Ab))) (Aa (Az (Aa Ai (Aa Ai (Aa Ai Ab)))) Ab))))))),?_⟩;have rc:=bO;revert R1 R2 lz hx q rc;walk_at"i2"
theorem Mv:CI0 6 "Either" KH ["self","R","S"] (Li K Ba CL KH (Bo or)):=by
 refine ci' ["self","R","S"] Lr (fun h=>?_) fun nd H vs Q E hr h=>?_
 ·obtain⟨x,r,t,n1,n2,b1,b2,rfl,_⟩:=h;rfl
 obtain⟨x,r,t,n1,n2,b1,b2,rfl,R1,R2,lz,⟨dx,hx⟩,q⟩:=h;refine⟨_,(Ad (BR (DY Bf (Aa (pv 0) (Aa (Ae Sw (Aa (Bl Be (pv 1)) (Aa (Bl Be (pv 2)) Ab))) (Aa (Az (Aa (pv 1) (Aa (pv 2) Ab))) (Aa (Az (Aa Ai (Aa Ai (Aa Ai Ab)))) Ab))))))),?_⟩;have rc:=W8;revert R1 R2 lz hx q rc;walk_at"i2"
theorem TX:CI0 7 "But" Zb ["self","R","S"] (Li K Ba CL Zb (Bo bn)):=by
 refine ci' ["self","R","S"] RP (fun h=>?_) fun nd H vs Q E hr h=>?_
 ·obtain⟨x,r,t,n1,n2,b1,b2,rfl,_⟩:=h;rfl
 obtain⟨x,r,t,n1,n2,b1,b2,rfl,R1,R2,lz,⟨dx,hx⟩,q⟩:=h;refine⟨_,(Ad (BR (DY Bf (Aa (pv 0) (Aa (Ae Oa (Aa (Bl Be (pv 1)) (Aa (Bl Be (pv 2)) Ab))) (Aa (Az (Aa (pv 1) (Aa (pv 2) Ab))) (Aa (Az (Aa Ai (Aa Ai (Aa Ai Ab)))) Ab))))))),?_⟩;have rc:=iY;revert R1 R2 lz hx q rc;walk_at"i2"
theorem Ms:CI0 6 "Unlike" KC ["self","R","S"] (Li K Ba CL KC (Bo xor)):=by
 refine ci' ["self","R","S"] Lp (fun h=>?_) fun nd H vs Q E hr h=>?_
 ·obtain⟨x,r,t,n1,n2,b1,b2,rfl,_⟩:=h;rfl
 obtain⟨x,r,t,n1,n2,b1,b2,rfl,R1,R2,lz,⟨dx,hx⟩,q⟩:=h;refine⟨_,(Ad (BR (DY Bf (Aa (pv 0) (Aa (Ae Y8 (Aa (Bl Be (pv 1)) (Aa (Bl Be (pv 2)) Ab))) (Aa (Az (Aa (pv 1) (Aa (pv 2) Ab))) (Aa (Az (Aa Ai (Aa Ai (Aa Ai Ab)))) Ab))))))),?_⟩;have rc:=W7;revert R1 R2 lz hx q rc;walk_at"i2"
theorem QW:CI0 8 "Upon" S7 ["self","R","S"] (Li K Ba CL S7 (UpR 1)):=by
 refine ci' ["self","R","S"] QC (fun h=>?_) fun nd H vs Q E hr h=>?_
 ·obtain⟨x,r,t,n1,n2,b1,b2,rfl,_⟩:=h;rfl
 obtain⟨x,r,t,n1,n2,b1,b2,rfl,R1,R2,lz,⟨dx,hx⟩,q⟩:=h;refine⟨_,(Ad (BR (DY Bf (Aa (pv 0) (Aa (Ae bW (Aa (Bl Be (pv 1)) (Aa (Bl Be (pv 2)) Ab))) (Aa (Az (Aa (pv 1) (Aa (pv 2) Ab))) (Aa (Az (Aa Ai (Aa Ai (Aa Ai Ab)))) Ab))))))),?_⟩;have rc:=bL;revert R1 R2 lz hx q rc;walk_at"i2"
theorem Oe:CI0 8 "Until" Mr ["self","R","S"] (Li K Ba CL Mr (UpR (-1))):=by
 refine ci' ["self","R","S"] Nf (fun h=>?_) fun nd H vs Q E hr h=>?_
 ·obtain⟨x,r,t,n1,n2,b1,b2,rfl,_⟩:=h;rfl
 obtain⟨x,r,t,n1,n2,b1,b2,rfl,R1,R2,lz,⟨dx,hx⟩,q⟩:=h;refine⟨_,(Ad (BR (DY Bf (Aa (pv 0) (Aa (Ae XF (Aa (Bl Be (pv 1)) (Aa (Bl Be (pv 2)) Ab))) (Aa (Az (Aa (pv 1) (Aa (pv 2) Ab))) (Aa (Az (Aa Ai (Aa Ai (Aa Ai Ab)))) Ab))))))),?_⟩;have rc:=Yr;revert R1 R2 lz hx q rc;walk_at"i2"
theorem QZ:CI0 10 "Near" TQ ["self","R","S"] (Li K Ba CL TQ NeR):=by
 refine ci' ["self","R","S"] QF (fun h=>?_) fun nd H vs Q E hr h=>?_
 ·obtain⟨x,r,t,n1,n2,b1,b2,rfl,_⟩:=h;rfl
 obtain⟨x,r,t,n1,n2,b1,b2,rfl,R1,R2,lz,⟨dx,hx⟩,q⟩:=h;refine⟨_,(Ad (BR (DY Bf (Aa (pv 0) (Aa (Ae zE (Aa (Bl Be (pv 1)) (Aa (Bl Be (pv 2)) Ab))) (Aa (Az (Aa (pv 1) (Aa (pv 2) Ab))) (Aa (Az (Aa Ai (Aa Ai (Aa Ai Ab)))) Ab))))))),?_⟩;have rc:=bN;revert R1 R2 lz hx q rc;walk_at"i2"
theorem QX:CI0 8 "Till" S8 ["self","R","S"] (Li K Ba CL S8 TiR):=by
 refine ci' ["self","R","S"] QD (fun h=>?_) fun nd H vs Q E hr h=>?_
 ·obtain⟨x,r,t,n1,n2,b1,b2,rfl,_⟩:=h;rfl
 obtain⟨x,r,t,n1,n2,b1,b2,rfl,R1,R2,lz,⟨dx,hx⟩,q⟩:=h;refine⟨_,(Ad (BR (DY Bf (Aa (pv 0) (Aa (Ae oU (Aa (Bl Be (pv 1)) (Aa (Bl Be (pv 2)) Ab))) (Aa (Az (Aa (pv 1) (Aa (pv 2) Ab))) (Aa (Az (Aa Ai (Aa Ai (Aa Ai Ab)))) Ab))))))),?_⟩;have rc:=bM;revert R1 R2 lz hx q rc;walk_at"i2"
theorem Oi:CI0 3 "Later" Kl ["self","number","R"] (AAa K Ba CL Kl):=by
 refine ci' ["self","number","R"] Nj (fun h=>?_) fun nd H vs Q E hr h=>?_
 ·obtain⟨x,r,k,n,b,rfl,_⟩:=h;rfl
 obtain⟨x,r,num,n,b,rfl,lg,R,⟨dx,hx⟩,q⟩:=h;refine⟨_,(Ad (BR (DY Bf (Aa (pv 0) (Aa (Ae HS (Aa (Bl Be (pv 2)) (Aa (pv 1) Ab))) (Aa (Az (Aa (pv 2) Ab)) (Aa (Az (Aa (JH (Cv Ai (Cv (JK hr.toN (pv 1)) (Cv Ai K7)))) (Aa Ai Ab))) Ab))))))),?_⟩;symm;obtain⟨C,dr,fs,m,hr,l1,_⟩:=R.mt;refine⟨r,C,dr,fs,_,m _,rfl,hr,l1,?_⟩;symm;refine⟨ja2,r,n,b,rfl,R,fun p hp=>?_⟩;symm;refine⟨p,n,num,b,rfl,SqT.of hp,R.n0,R.n1,R.lt,fun p2 hp2=>?_⟩;refine fresh hp2 fun H1 s1 t1=>?_;symm;refine⟨(by show 1<=sizeLine;decide),fun pm hpm=>?_⟩;refine fresh hpm fun H2 s2 t2=>?_;symm;refine Hz ?_;refine JZ 0 (by decide) (by decide) fun l1=>Ox _ l1 (by decide) rfl lg fun l2=>JZ _ l2 (by decide) fun l3=>JB (fits l3 (by decide)) ?_;generalize (Str.empty++Str.ofString "("++De num++Str.ofString " later ")=zt at*
 symm;refine⟨HH,fun pw hpw=>?_⟩;refine fresh hpw fun H3 s3 t3=>?_;have s3:=s2.trans s3;have hx3:=(s1.trans s3) _ _ hx;symm;exact⟨x,p2,pm,pw,Kl,dx,rfl,hx3,O6,fun H' k e=>q _ H' (k.pre (s1.trans s3)) (Fg (zh (i:=9) rfl) O6 hx3 (s3 _ _ t1) k e R.n0 R.n1 (JL _ _ _)) trivial⟩
theorem TV:CI0 9 "Kth" Vj ["self","number","R","S"] (AAb K Ba CL Vj):=by
 refine ci' ["self","number","R","S","kept"] RN (fun h=>?_) fun nd H vs Q E hr h=>?_
 ·obtain⟨x,r,t,k,n1,n2,b1,b2,rfl,_⟩:=h;rfl
 obtain⟨x,r,t,num,n1,n2,b1,b2,rfl,k0,lg,R1,R2,lz,⟨dx,hx⟩,q⟩:=h;have fl:=Br R1.n0 R2.n0;refine⟨_,(Ac (Ak 4 (Ae ABb (Aa (pv 1) (Aa (Bl Be (pv 2)) (Aa (Bl Be (pv 3)) Ab)))))
  (Ad (BR (DY Bf (Aa (pv 0) (Aa (pv 4) (Aa (Az (Aa (pv 2) (Aa (pv 3) Ab))) (Aa (Az (Aa (JH (Cv Ai (Cv (JK hr.toN (pv 1)) (Cv Ai K7)))) (Aa Ai (Aa Ai Ab)))) Ab)))))))),?_⟩
 symm;obtain⟨C,dr,fs,m,hr,l1,_⟩:=R1.mt;refine⟨r,C,dr,fs,_,m _,rfl,hr,l1,?_⟩;symm;refine⟨ja2,r,n1,b1,rfl,R1,fun p hp=>?_⟩;symm;obtain⟨C',dr',fs',m',hr',l1',_⟩:=R2.mt;refine⟨t,C',dr',fs',_,m' _,rfl,hr',l1',?_⟩;symm;refine⟨ja2,t,n2,b2,rfl,R2,fun p' hp'=>?_⟩;symm;refine⟨num,p,p',n1,n2,b1,b2,rfl,⟨SqT.of hp,SqT.of hp',R1.n0,R2.n0,R1.n1,R2.n1,R1.lt,R2.lt⟩,k0,lz,fun p2 c H1 s1 t1 lt Rr=>?_⟩;symm;refine⟨HH,fun pm hpm=>?_⟩;refine fresh hpm fun H2 s2 t2=>?_;symm;refine Hz ?_;refine JZ 0 (by decide) (by decide) fun l1=>Ox _ l1 (by decide) rfl lg fun l2=>JZ _ l2 (by decide) fun l3=>JB (fits l3 (by decide)) ?_;generalize (Str.empty++Str.ofString "("++De num++Str.ofString " of ")=zt at*
 symm;refine⟨(by show 3<=sizeLine;decide),fun pw hpw=>?_⟩;refine fresh hpw fun H3 s3 t3=>?_;have s3:=s2.trans s3;have hx3:=(s1.trans s3) _ _ hx;symm;exact⟨x,p2,pm,pw,Vj,dx,rfl,hx3,VR,fun H' k e=>q _ H' (k.pre (s1.trans s3)) (Fg (zh (i:=14) rfl) VR hx3 (s3 _ _ t1) k e fl.1 lz lt) Rr⟩
theorem Oj:CI0 7 "Every" Km ["self","number","R","day"] (AAZ K Ba CL Km):=by
 refine ci' ["self","number","R","day","kept"] Nk (fun h=>?_) fun nd H vs Q E hr h=>?_
 ·obtain⟨x,r,k,d,n,b,rfl,_⟩:=h;rfl
 obtain⟨x,r,num,d0,n,b,rfl,k0,k1,nk,bd,R,⟨dx,hx⟩,q⟩:=h;have z0:0<n*num:=Int.mul_pos R.n0 (by lia);have lg:num.natAbs.log2<1920:=yU (by lia) (by lia);have lh:d0.natAbs.log2<1920:=oX bd (by decide) (by decide);refine⟨_,(Ac (Ak 4 (Ae uL (Aa (pv 1) (Aa (Bl Be (pv 2)) (Aa (pv 3) Ab)))))
  (Ad (BR (DY Bf (Aa (pv 0) (Aa (pv 4) (Aa (Az (Aa (pv 2) Ab)) (Aa (Az (Aa (JH (Cv Ai (Cv (JK hr.toN (pv 1)) (Cv Ai K7)))) (Aa (JH (Cv Ai (Cv (JK hr.toN (pv 3)) (Cv Ai K7)))) Ab))) Ab)))))))),?_⟩
 symm;obtain⟨C,dr,fs,m,hr,l1,_⟩:=R.mt;refine⟨r,C,dr,fs,_,m _,rfl,hr,l1,?_⟩;symm;refine⟨ja2,r,n,b,rfl,R,fun p hp=>?_⟩;symm;refine⟨num,d0,p,n,b,rfl,SqT.of hp,R.n0,R.n1,R.lt,bd.mono (by decide),Bh (by lia) (by lia) (by decide),k0,nk,fun p2 c H1 s1 t1 B=>?_⟩;symm;refine⟨(by show 1<=sizeLine;decide),fun pm hpm=>?_⟩;refine fresh hpm fun H2 s2 t2=>?_;symm;refine Hz ?_;refine JZ 0 (by decide) (by decide) fun l1=>Ox _ l1 (by decide) rfl lg fun l2=>JZ _ l2 (by decide) fun l3=>JB (fits l3 (by decide)) ?_;generalize (Str.empty++Str.ofString "(every "++De num++Str.ofString " of ")=zt at*
 symm;refine Hz ?_;refine JZ 0 (by decide) (by decide) fun l1=>Ox _ l1 (by decide) rfl lh fun l2=>JZ _ l2 (by decide) fun l3=>JB (fits l3 (by decide)) ?_;generalize (Str.empty++Str.ofString " from "++De d0++Str.ofString ")")=zu at*
 symm;refine⟨HH,fun pw hpw=>?_⟩;refine fresh hpw fun H3 s3 t3=>?_;have s3:=s2.trans s3;have hx3:=(s1.trans s3) _ _ hx;symm;exact⟨x,p2,pm,pw,Km,dx,rfl,hx3,O7,fun H' k e=>q _ H' (k.pre (s1.trans s3)) (Fg (zh (i:=15) rfl) O7 hx3 (s3 _ _ t1) k e z0 nk B.lt) trivial⟩
theorem Mu:CI0 1 "Reader" BW ["self","words"] (qU BW):=by
 refine ci' ["self","words"] Lq (fun h=>?_) fun nd H vs Q E hr h=>?_
 ·obtain⟨x,dx,l,ws,rfl,_⟩:=h;rfl
 obtain⟨x,dx,l,ws,rfl,hx,hl,wl,wo,q⟩:=h;have lx:l≠x:=Ij hl hx (by intro z;cases z);refine⟨_,(Ac (Fq (pv 0) (BZ Ie rfl Vs PyProof.Rows.boot_tuple (Aa (pv 1) Ab)) (by rfl))
  (Ad (Fq (pv 0) Af (by rfl)))),?_⟩
 symm;refine⟨l,_,rfl,.inl ⟨SqL.of hl,fun p hp=>?_⟩⟩;have px:x≠p:=Bj hx hp;refine fresh hp fun H1 s1 t1=>?_;symm;refine⟨x,BW,dx,[],rfl,s1 _ _ hx,Bd,GF,by decide,?_⟩;refine xx fun H2 k2 x2=>?_;symm;refine⟨x,BW,dx,_,rfl,x2,Bd,Dj,(by show 1<1000;decide),?_⟩;refine xx fun H3 k3 x3=>?_;symm;exact q H3 (fun y o hy e=>k3 y o hy (k2 y o hy (s1 _ _ e))) ⟨p,ws,0,⟨⟨dx,x3⟩,k3 _ _ (Ne.symm px) (k2 _ _ (Ne.symm px) t1),wl,wo⟩,rfl⟩
theorem Ft:CM0 1 BW "peek" ["self"] (wM BW):=by
 refine cm' ["self"] Ue (fun h=>?_) fun nd H vs Q E hr h=>?_
 ·obtain⟨x,r,rfl,_⟩:=h;rfl
 obtain⟨x,_,rfl,⟨p,ws,k,R,rfl⟩,q⟩:=h;obtain⟨dx,hx⟩:=R.ex;refine⟨_,(Ad (Al (Ds (Aj GP (By (pv 0) (by rfl)) (BJ BK rfl Cq xa (Aa (By (pv 0) (by rfl)) Ab)) (Ao _)) (CT Ho (By (pv 0) (by rfl)) (By (pv 0) (by rfl)) (fun _ _=>rfl)) Ai))),?_⟩;ac_nf;refine⟨x,BW,dx,_,_,rfl,hx,Bd,Dj,rfl,?_⟩;ac_nf;refine⟨x,BW,dx,_,_,rfl,hx,Bd,GF,rfl,?_⟩;ac_nf;refine⟨p,_,rfl,.inr (SqT.of R.tp),?_⟩;rw[jp];ac_nf;refine CG (fun c=>?_) (fun c=>?_)
 ·ac_nf;refine⟨x,BW,dx,_,_,rfl,hx,Bd,GF,rfl,?_⟩;ac_nf;refine⟨x,BW,dx,_,_,rfl,hx,Bd,Dj,rfl,?_⟩;ac_nf;have kl:k<ws.length:=by lia
  rw[ja6 kl] at q;exact An (SqT.of R.tp) (DX (by rw[xc,qv kl];rfl)) q
 ·rw[uk (by lia)] at q;ac_nf;exact q
theorem Ce:CM0 2 BW "take" ["self"] (wH BW):=by
 refine cm' ["self","word"] Ud (fun h=>?_) fun nd H vs Q E hr h=>?_
 ·obtain⟨x,r,rfl,_⟩:=h;rfl
 obtain⟨x,r,rfl,R,q⟩:=h;obtain⟨p,ws,k,S,e⟩:=id R;obtain⟨dx,hx⟩:=S.ex;refine⟨_,(Ac (Ak 1 (DG Ft Bd (pv 0)))
  (Ac (Fq (pv 0) (Ag Bq (By (pv 0) (by rfl)) Af) (by rfl))
  (Ad (Al (pv 1))))),?_⟩
 symm;refine⟨x,dx,_,rfl,hx,rfl,?_⟩;symm;refine⟨x,r,rfl,R,?_⟩;symm;refine⟨x,BW,dx,_,_,rfl,hx,Bd,Dj,rfl,?_⟩;symm;refine⟨x,BW,dx,_,rfl,hx,Bd,Dj,(by show 2<1000;decide),?_⟩;refine xx fun H2 k2 x2=>?_;symm;exact q H2 k2 ⟨p,ws,k+1,⟨⟨dx,x2⟩,k2 _ _ (Ij S.tp hx (by intro z;cases z)) S.tp,S.ln,S.ok⟩,by rw[<-e,List.tail_drop]⟩
theorem Vg:C0 1 "is_name" ["text"] wY:=by
 refine co' ["text"] gJ (fun h=>?_) fun nd H vs Q E hr h=>?_
 ·obtain⟨z,rfl,_⟩:=h;rfl
 obtain⟨z,rfl,hz,q⟩:=h;refine⟨_,(Ad (Al (Wi (Ly Ja Ja Af (BJ Dv rfl Cq xa (Aa (pv 0) Ab)) (Bv rfl Rh (Cj _ _))) (Wg (BJ (SX rfl) rfl jT PyProof.Rows.boot_all (Aa (Ff rfl (GJ ["text"] rfl (by ac_rfl) rfl (by ac_rfl) rfl (by ac_rfl) (by ac_rfl)) (lY (pv 0)) (fun _ _ _ _=>Dr) (fun _ _ _ _=>(HN VB (pv 0) (Bv rfl gw (cW _ _)) (by rfl)))) Ab)))))),?_⟩;have zl:(cpl z).length=z.length:=Eo _;ac_nf;refine⟨z,rfl,hz.fit,?_⟩;ac_nf;have no:¬HB (cpl z)->∀H',Ax H H'->Q (.bl false) H':=fun n H' s'=>q false H' s' ⟨fun z=>(nomatch z),fun z=>absurd z n⟩;by_cases c1:1<=((z.length:Nat):Int)
 rotate_left
 ·refine CN c1 ?_;refine⟨_,rfl,Ep ?_⟩;exact no (fun N=>by have:=N.lo;lia) _ (Ax.refl _)
 refine Hw c1 ?_;ac_nf;by_cases c2:((z.length:Nat):Int)<=8
 rotate_left
 ·rw[decide_eq_false c2];refine Ep ?_;exact no (fun N=>by have:=N.hi;lia) _ (Ax.refl _)
 rw[decide_eq_true c2];refine FW ?_;ac_nf;refine Em (lL ?_);ac_nf;refine⟨_,rfl,hz.asc,?_⟩;refine IW Zo ?_ (fun _ _ _=>trivial) (fun _=>true) (fun v=>match v with | .str y=>.bl (decide (97<=(cpl y).headD 0/\(cpl y).headD 0<=122)) | _=>.non) (fun x hx D ys Q' hD h=>h) (fun x hx _ D ys Q' hD h=>?_) (fun D hD=>?_)
 ·rw[jp];exact Eu (by have:z.cps.toList.length=z.length:=zl;lia)
 ·obtain⟨c,hc,rfl⟩:=yk.mp hx;ac_nf;refine⟨_,_,rfl,rfl,?_⟩;rw[yj];exact h
 have e:((z.cps.toList.map U4).filter fun _=>true).map (fun v=>match v with | .str y=>V.bl (decide (97<=(cpl y).headD 0/\(cpl y).headD 0<=122)) | _=>.non)=((cpl z).map fun c=>decide (97<=c/\c<=122)).map V.bl:=by
  rw[jc6.mpr (fun _ _=>rfl),vi,vi];rfl
 rw[e];refine fresh hD fun H1 s1 t1=>?_;ac_nf;refine⟨D,_,rfl,SqL.of t1,?_⟩;refine q _ _ s1 ?_;rw[jj2,va];exact⟨fun h=>⟨by lia,by lia,fun c hc=>by simpa using h c hc⟩,fun N c hc=>by simpa using N.ch c hc⟩
theorem Kw:C0 1 "is_readable" ["text"] V0:=by
 refine co' ["text"] UW (fun h=>?_) fun nd H vs Q E hr h=>?_
 ·obtain⟨z,rfl,_⟩:=h;rfl
 obtain⟨z,rfl,hz,zl,q⟩:=h;refine⟨_,(Ad (Al (Wi (BJ SN rfl Ir PyProof.Rows.boot_isinstance (Aa (pv 0) (Aa (Wh rfl Dp qo (aL _)) Ab))) (Wg (HN Ja (BJ Dv rfl Cq xa (Aa (pv 0) Ab)) (Bv rfl Ww (Cj _ _)) (Ao _)))))),?_⟩;symm;refine aN (.txt z hz) ?_;symm;refine FW ?_;symm;refine⟨z,rfl,hz.fit,?_⟩;symm;have:decide ((z.length:Int)<=4000)=true:=by
  rw[decide_eq_true_eq];lia
 rw[this];exact q
theorem J8:C0 1 "is_number" ["text"] qT:=by
 refine co' ["text","figures"] YJ (fun h=>?_) fun nd H vs Q E hr h=>?_
 ·obtain⟨z,rfl,_⟩:=h;rfl
 obtain⟨z,rfl,hz,q⟩:=h;refine⟨_,(Ac (Ak 1 (Ds (Gh (GK ku PySem.F.slot_str_startswith PySem.F.type_str_startswith Uk (pv 0) (Aa Ai Ab))) (Ej NK (pv 0) (Fd Af) Fe) (pv 0)))
  (Ac (Ay (PW.pt (IK (Aj GP (BJ Dv rfl Cq xa (Aa (pv 1) Ab)) Af (Ao _)) (Gg (Aj Fl (BJ Dv rfl Cq xa (Aa (pv 1) Ab)) (Bv rfl Ri (Cj _ _)) (Ao _)))))
   (Ad (Al Jr))
   Aq)
  (Ac (Ay (Aj Bm (CT m9 (pv 1) Af) Ai (Ao _))
   (Ad (Al (HN Bm (pv 0) Ai (Ao _))))
   Aq)
  (Ad (Al (BJ (SX rfl) rfl jT PyProof.Rows.boot_all (Aa (Ff rfl (GJ ["text","figures"] rfl (by ac_rfl) rfl (by ac_rfl) rfl (by ac_rfl) (by ac_rfl)) (lY (pv 1)) (fun _ _ _ _=>Dr) (fun _ _ _ _=>(HN VB (pv 0) (Bv rfl iC (cW _ _)) (by rfl)))) Ab))))))),?_⟩
 ac_nf;refine⟨rfl,?_⟩;ac_nf;refine⟨z,_,rfl,rfl,?_⟩;rw[Vx (.inr trivial)];ac_nf;refine CG (fun hm=>?_) (fun hm=>?_)
 ·ac_nf;have l1:1<=z.length:=by
   rw[<-Eo];cases h:cpl z with
   | nil=>rw[h] at hm;cases hm
   | cons a r=>simp
  refine⟨z,rfl,hz.fit,?_⟩;have hy:TOk (Txt.slice z (some 1) none):=hz.slice _ _;have ey:cpl (Txt.slice z (some 1) none)=G4 (cpl z):=by
   rw[Ow l1];unfold G4;rw[xz hm]
  generalize Txt.slice z (some 1) none=y at hy ey ⊢;ac_nf;have fy:=hy.fit;have yl:(cpl y).length=y.length:=Eo _;refine⟨_,rfl,fy,?_⟩;ac_nf;refine CG (fun l1=>FW ?_) (fun l1=>?_)
  ·ac_nf;refine q _ _ (Ax.refl _) ⟨(fun e=>nomatch e),fun N=>?_⟩;have:=N.lo;rw[<-ey] at this;lia
  ac_nf;refine⟨_,rfl,fy,?_⟩;ac_nf;refine CG (fun l2=>?_) (fun l2=>?_)
  ·ac_nf;refine q _ _ (Ax.refl _) ⟨(fun e=>nomatch e),fun N=>?_⟩;have:=N.hi;rw[<-ey] at this;lia
  ac_nf;obtain⟨c0,r0,ec⟩:∃c r,cpl y=c::r:=by
   cases h:cpl y with
   | nil=>rw[h] at yl;simp at yl;lia
   | cons c r=>exact⟨c,r,rfl⟩
  refine⟨_,0,c0,rfl,rfl,fy,by rw[show y.cps.toList=c0::r0 from ec];exact DX (j:=0) rfl,?_⟩;ac_nf;refine CG (fun e0=>?_) (fun e0=>?_)
  ·ac_nf;have c48:c0=48:=by
    have e1:(⟨#[c0]⟩:Str)=Str.ofString "0":=V.str.inj e0;have e2:cpl (⟨#[c0]⟩:Str)=cpl (Str.ofString "0"):=xo cpl e1;have e3:cpl (Str.ofString "0")=[48]:=by ac_rfl
    rw[e3] at e2;injection e2
   refine q _ _ (Ax.refl _) ?_;rw[decide_eq_true_eq];have e3:cpl (Str.ofString "0")=[48]:=by ac_rfl
   constructor
   ·intro e;have ez:cpl z=[48]:=by rw[V.str.inj e,e3]
    refine⟨?_,?_,?_,?_⟩<;>rw[ez]<;>simp[G4]
   ·intro N;have:=N.z0 (by rw[<-ey,ec,c48];rfl);exact xo V.str (Gw (by rw[this,e3]))
  ac_nf;refine Em (lL ?_);ac_nf;refine⟨_,rfl,hy.asc,?_⟩;refine IW Zo ?_ (fun _ _ _=>trivial) (fun _=>true) (fun v=>match v with | .str y=>.bl (decide (48<=(cpl y).headD 0/\(cpl y).headD 0<=57)) | _=>.non) (fun x hx D ys Q' hD h=>h) (fun x hx _ D ys Q' hD h=>?_) (fun D hD=>?_)
  ·rw[jp];exact Eu (by have:y.cps.toList.length=y.length:=yl;lia)
  ·obtain⟨c,hc,rfl⟩:=yk.mp hx;ac_nf;refine⟨_,_,rfl,rfl,?_⟩;rw[nG];exact h
  have e:((y.cps.toList.map U4).filter fun _=>true).map (fun v=>match v with | .str y=>V.bl (decide (48<=(cpl y).headD 0/\(cpl y).headD 0<=57)) | _=>.non)=((cpl y).map fun c=>decide (48<=c/\c<=57)).map V.bl:=by
   rw[jc6.mpr (fun _ _=>rfl),vi,vi];rfl
  rw[e];ac_nf;refine⟨D,_,rfl,SqL.of Ah,?_⟩;refine q _ _ (Am hD _) ?_;rw[jj2,va];constructor
  ·intro h;refine⟨by rw[<-ey];lia,by rw[<-ey];lia,fun c hc=>?_,fun h0=>?_⟩
   ·rw[<-ey] at hc;simpa using h c hc
   ·rw[<-ey,ec] at h0;injection h0 with h0;subst h0;exact absurd (by congr) e0
  ·intro N c hc;have:=N.dg c (by rw[<-ey];exact hc);simpa using this
 ·ac_nf;have hy:=hz;have ey:cpl z=G4 (cpl z):=by
   unfold G4;rw[yv hm]
  have fy:=hy.fit;have yl:(cpl z).length=z.length:=Eo _;refine⟨_,rfl,fy,?_⟩;ac_nf;refine CG (fun l1=>FW ?_) (fun l1=>?_)
  ·ac_nf;refine q _ _ (Ax.refl _) ⟨(fun e=>nomatch e),fun N=>?_⟩;have:=N.lo;rw[<-ey] at this;lia
  ac_nf;refine⟨_,rfl,fy,?_⟩;ac_nf;refine CG (fun l2=>?_) (fun l2=>?_)
  ·ac_nf;refine q _ _ (Ax.refl _) ⟨(fun e=>nomatch e),fun N=>?_⟩;have:=N.hi;rw[<-ey] at this;lia
  ac_nf;obtain⟨c0,r0,ec⟩:∃c r,cpl z=c::r:=by
   cases h:cpl z with
   | nil=>rw[h] at yl;simp at yl;lia
   | cons c r=>exact⟨c,r,rfl⟩
  refine⟨_,0,c0,rfl,rfl,fy,by rw[show z.cps.toList=c0::r0 from ec];exact DX (j:=0) rfl,?_⟩;ac_nf;refine CG (fun e0=>?_) (fun e0=>?_)
  ·ac_nf;have c48:c0=48:=by
    have e1:(⟨#[c0]⟩:Str)=Str.ofString "0":=V.str.inj e0;have e2:cpl (⟨#[c0]⟩:Str)=cpl (Str.ofString "0"):=xo cpl e1;have e3:cpl (Str.ofString "0")=[48]:=by ac_rfl
    rw[e3] at e2;injection e2
   refine q _ _ (Ax.refl _) ?_;rw[decide_eq_true_eq];have e3:cpl (Str.ofString "0")=[48]:=by ac_rfl
   constructor
   ·intro e;have ez:cpl z=[48]:=by rw[V.str.inj e,e3]
    refine⟨?_,?_,?_,?_⟩<;>rw[ez]<;>simp[G4]
   ·intro N;have:=N.z0 (by rw[<-ey,ec,c48];rfl);exact xo V.str (Gw (by rw[this,e3]))
  ac_nf;refine Em (lL ?_);ac_nf;refine⟨_,rfl,hy.asc,?_⟩;refine IW Zo ?_ (fun _ _ _=>trivial) (fun _=>true) (fun v=>match v with | .str y=>.bl (decide (48<=(cpl y).headD 0/\(cpl y).headD 0<=57)) | _=>.non) (fun x hx D ys Q' hD h=>h) (fun x hx _ D ys Q' hD h=>?_) (fun D hD=>?_)
  ·rw[jp];exact Eu (by have:z.cps.toList.length=z.length:=yl;lia)
  ·obtain⟨c,hc,rfl⟩:=yk.mp hx;ac_nf;refine⟨_,_,rfl,rfl,?_⟩;rw[nG];exact h
  have e:((z.cps.toList.map U4).filter fun _=>true).map (fun v=>match v with | .str y=>V.bl (decide (48<=(cpl y).headD 0/\(cpl y).headD 0<=57)) | _=>.non)=((cpl z).map fun c=>decide (48<=c/\c<=57)).map V.bl:=by
   rw[jc6.mpr (fun _ _=>rfl),vi,vi];rfl
  rw[e];ac_nf;refine⟨D,_,rfl,SqL.of Ah,?_⟩;refine q _ _ (Am hD _) ?_;rw[jj2,va];constructor
  ·intro h;refine⟨by rw[<-ey];lia,by rw[<-ey];lia,fun c hc=>?_,fun h0=>?_⟩
   ·rw[<-ey] at hc;simpa using h c hc
   ·rw[<-ey,ec] at h0;injection h0 with h0;subst h0;exact absurd (by congr) e0
  ·intro N c hc;have:=N.dg c (by rw[<-ey];exact hc);simpa using this
theorem G5:C0 3 "take_word" ["reader","word"] (wF BW):=by
 refine co' ["reader","word"] Xy (fun h=>?_) fun nd H vs Q E hr h=>?_
 ·obtain⟨x,z,r,rfl,_⟩:=h;rfl
 obtain⟨x,z,r,rfl,R,q⟩:=h;obtain⟨dx,fs,hx,l1,_⟩:=R.ob;refine⟨_,(Ad (Ay (Aj Ek (DG Ce Bd (pv 0)) (pv 1) (Ao _))
  (Ad BX)
  Aq)),?_⟩
 symm;refine⟨x,dx,_,rfl,hx,l1,?_⟩;symm;refine⟨x,_,rfl,R,fun H1 k1 R1=>?_⟩;symm;refine FN (xo V.str (Jo z)) ?_;symm;exact q H1 k1 R1
theorem Ew:C0 3 "take_number" ["reader"] (wO BW):=by
 refine co' ["reader","word"] UG (fun h=>?_) fun nd H vs Q E hr h=>?_
 ·obtain⟨x,n,r,rfl,_⟩:=h;rfl
 obtain⟨x,n,r,rfl,R,sn,q⟩:=h;obtain⟨dx,fs,hx,l1,_⟩:=R.ob;have N:=Hn sn;refine⟨_,(Ac (Ak 1 (DG Ce Bd (pv 0)))
  (Ac (Ay (JF (Gh (Ae J8 (Aa (pv 1) Ab))))
   (Ad BX)
   Aq)
  (Ad (Al (BZ Ig rfl jR PyProof.Rows.boot_int (Aa (pv 1) Ab)))))),?_⟩
 symm;refine⟨x,dx,_,rfl,hx,l1,?_⟩;symm;refine⟨x,_,rfl,R,fun H1 k1 R1=>?_⟩;symm;refine⟨_,rfl,R.tk,fun v H2 s2 iv=>?_⟩;obtain rfl:=iv.mpr (show M3 (cpl (sW (nW n))) by rw[Bg];exact N.1);symm;refine Ep ?_;symm;refine⟨_,_,rfl,?_,OD (show M3 (cpl (sW (nW n))) by rw[Bg];exact N.1),?_⟩
 ·show(sW (nW n)).length<=_;rw[Cr];have:=Df sn;lia
 ·show Q (.int (Jv (cpl (sW (nW n))))) H2;rw[Bg,N.2];exact q H2 (k1.tr (.sm s2)) (R1.same s2)
theorem Kv:C0 4 "take_wanted" ["reader"] (pY BW):=by
 refine co' ["reader"] Tz (fun h=>?_) fun nd H vs Q E hr h=>?_
 ·obtain⟨x,m,r,rfl,_⟩:=h;rfl
 obtain⟨x,m,r,rfl,R,sm,q⟩:=h;obtain⟨dx,fs,hx,l1,l2⟩:=R.ob;refine⟨_,(Ac (Ay (Aj Bm (DG Ft Bd (pv 0)) Ai (Ao _))
  (Ac (BR (DG Ce Bd (pv 0)))
  (Ad (Al Hm)))
   Aq)
  (Ad (Al (Ae Ew (Aa (pv 0) Ab))))),?_⟩
 symm;refine⟨x,dx,_,rfl,hx,l2,?_⟩;symm;refine⟨x,_,rfl,R,?_⟩;symm;cases m with
 | none=>
  walk_at"ew";refine⟨x,dx,_,rfl,hx,l1,?_⟩;symm;refine⟨x,_,rfl,R,fun H1 k1 R1=>?_⟩;symm;exact q H1 k1 R1
 | some n=>
  refine CN (Rg (sm n rfl) ⟨_,_,rfl,by decide⟩) ?_;symm;exact⟨x,n,r,rfl,R,sm n rfl,q⟩
theorem PP:C0 4 "take_each" ["reader"] (qW BW):=by
 refine co' ["reader","size"] Xz (fun h=>?_) fun nd H vs Q E hr h=>?_
 ·obtain⟨x,n,m,r,rfl,_⟩:=h;rfl
 obtain⟨x,n,m,r,rfl,R,sn,sm,q⟩:=h;refine⟨_,(Ac (Ak 1 (Ae Ew (Aa (pv 0) Ab)))
  (Ac (BR (Ae G5 (Aa (pv 0) (Aa Ai Ab))))
  (Ad (Al (Az (Aa (pv 1) (Aa (Ae Ew (Aa (pv 0) Ab)) Ab))))))),?_⟩
 symm;refine⟨x,n,_,rfl,R,sn,fun H1 k1 R1=>?_⟩;symm;refine⟨x,_,_,rfl,R1,fun H2 k2 R2=>?_⟩;symm;refine⟨x,m,r,rfl,R2,sm,fun H3 k3 R3=>?_⟩;symm;refine⟨HH,fun a ha=>?_⟩;refine fresh ha fun H4 s4 t4=>?_;exact q a H4 (((k1.tr k2).tr k3).tr (.sm s4)) (R3.same s4) t4
theorem ZF:C0 5 "take_date" ["reader"] (qX BW):=by
 refine co' ["reader","name","month","day","years"] X3 (fun h=>?_) fun nd H vs Q E hr h=>?_
 ·obtain⟨x,nm,m,d,y,r,rfl,_⟩:=h;rfl
 obtain⟨x,nm,m,d,y,r,rfl,R,⟨on,om,od,oy,_⟩,hh,q⟩:=h;obtain⟨dx,fs,hx,l1,_⟩:=R.ob;refine⟨_,(Ac (Ak 1 (DG Ce Bd (pv 0)))
  (Ac (Ay (JF (Gh (Ae Vg (Aa (pv 1) Ab))))
   (Ad BX)
   Aq)
  (Ac (Ak 2 (Ae Kv (Aa (pv 0) Ab)))
  (Ac (Ak 3 (Ae Kv (Aa (pv 0) Ab)))
  (Ac (Ak 4 (Az (Aa Af (Aa Af Ab))))
  (Ac (Ei (Ay (Aj Bm (DG Ft Bd (pv 0)) Ai (Ao _))
   (Ac (BR (DG Ce Bd (pv 0)))
  (Ad (Ak 4 (Ae PP (Aa (pv 0) Ab)))))
   Aq))
  (Ad (Al (Az (Aa Ai (Aa (pv 1) (Aa (pv 2) (Aa (pv 3) (Aa (pxT 4) (Aa (pxT 4) Ab))))))))))))))),?_⟩
 symm;refine⟨x,dx,_,rfl,hx,l1,?_⟩;symm;refine⟨x,_,rfl,R,fun H1 k1 R1=>?_⟩;symm;refine⟨_,rfl,R.tk,fun v H2 s2 iv=>?_⟩;obtain rfl:=iv.mpr (show HB (cpl (sW nm)) by rw[Bg];exact on);have k2:=k1.tr (.sm s2);symm;refine Ep ?_;symm;refine⟨x,m,_,rfl,R1.same s2,om,fun H3 k3 R3=>?_⟩;symm;refine⟨x,d,_,rfl,R3,od,fun H4 k4 R4=>?_⟩;symm;refine⟨HH,fun q0 hq0=>?_⟩;refine fresh hq0 fun H5 s5 t5=>?_;have k5:=((k2.tr k3).tr k4).tr (.sm s5);have R5:=R4.same s5;symm;refine EY (fun Z' H'=>∃a:Addr,An4 (KB x H H') (Rd BW H' x r) (H' a=some (.tup [.int (yr y).1,.int (yr y).2])) (Z'=[some (.ref x),some (.str (sW nm)),some (oI m),some (oI d),some (.ref a)])) ?_ ?_
 ·symm;obtain⟨dx,fs,hx,l1,l2⟩:=R5.ob;refine⟨x,dx,_,rfl,hx,l2,?_⟩;symm;refine⟨x,_,rfl,R5,?_⟩;symm;cases y with
  | none=>
   refine CN (fun z=>hh (vB.mp (z.trans (HX "each").symm))) ?_;symm;exact⟨q0,k5,R5,t5,rfl⟩
  | some y=>
   walk_at"ew";refine⟨x,dx,_,rfl,hx,l1,?_⟩;symm;refine⟨x,_,rfl,R5,fun H6 k6 R6=>?_⟩;symm;refine⟨x,y.1,y.2,r,rfl,R6,(oy y rfl).1,(oy y rfl).2.1,fun a H7 k7 R7 t7=>?_⟩;symm;exact⟨a,(k5.tr k6).tr k7,R7,t7,rfl⟩
 rintro Z' H6 ⟨a,k6,R6,t6,rfl⟩;symm;refine An (SqT.of t6) at0 ?_;symm;refine An (SqT.of t6) at1 ?_;symm;refine⟨(by show 6<=sizeLine;decide),fun b hb=>?_⟩;refine fresh hb fun H7 s7 t7=>?_;exact q _ H7 (k6.tr (.sm s7)) (R6.same s7) ⟨b,rfl,t7⟩
theorem bV:C0 1 "words_of" ["text"] pX:=by
 refine co' ["text","told","depth","whole","opened","word","opening","closing"] Z6 (fun h=>?_) fun nd H vs Q E hr h=>?_
 ·obtain⟨z,rfl,_⟩:=h;rfl
 obtain⟨z,rfl,hz,zl,hc,ho,q⟩:=h;refine⟨_,(Ac (Ak 1 (En Ab))
  (Ac (Ak 2 Af)
  (Ac (Ib PassesOwn.never rfl (Fx (GK ku je6 je7 Mh (pv 0) (Aa Ai Ab))) (FJ (i:=3) nd rfl (by walk_at"o"))
   (Ac (Ak 4 (GK ku PySem.F.slot_str_lstrip PySem.F.type_str_lstrip gn (pv 3) (Aa Ai Ab)))
  (Ac (Ak 5 (GK ku PySem.F.slot_str_rstrip PySem.F.type_str_rstrip gk (pv 4) (Aa Ai Ab)))
  (Ac (Ay (Aj Bm (pv 5) Ai (Ao _))
   (Ad BX)
   Aq)
  (Ac (Ak 6 (Ag DN (BJ Dv rfl Cq xa (Aa (pv 3) Ab)) (BJ Dv rfl Cq xa (Aa (pv 4) Ab))))
  (Ac (Ak 7 (Ag DN (BJ Dv rfl Cq xa (Aa (pv 4) Ab)) (BJ Dv rfl Cq xa (Aa (pv 5) Ab))))
  (Ac (Ak 2 (Ag Bq (pv 2) (pv 6)))
  (Ac (Ay (Aj Fl (pv 2) (Bv rfl QK (Cj _ _)) (Ao _))
   (Ad BX)
   Aq)
  (Ac (Ak 2 (Ag DN (pv 2) (pv 7)))
  (Ad (BR (GK ve jd2 jd3 Ik (pv 1) (Aa (Ag Wm (Ag Wm (Ag aY (En (Aa Ai Ab)) (pv 6)) (En (Aa (pv 5) Ab))) (Ag aY (En (Aa Ai Ab)) (pv 7))) Ab)))))))))))))
  (Ad (Al (pv 1)))))),?_⟩
 ac_nf;refine⟨ka _,fun l hl=>?_⟩;refine fresh hl fun H1 s1 t1=>?_;ac_nf;refine Nq (Jp ?_);ac_nf;refine Oz ?_;ac_nf;refine⟨rfl,?_⟩;ac_nf;refine⟨z,32,rfl,by rw[show Str.ofString " "=⟨#[32]⟩ from by ac_rfl],by decide,hz.len,fun l2 hl2=>?_⟩;refine fresh hl2 fun H2 s2 t2=>?_;ac_nf;have ll:l2≠l:=fun z=>by rw[z,t1] at hl2;cases hl2
 have wt:=jq 32 (cpl z);generalize hps:spl 32 (cpl z)=ps at*
 unfold tks at q;have t2:H2 l2=some (.lst (ps.map fun w=>V.str (sW w))):=by rw[t2,Z2,hps,vi];rfl
 have fl:=Yq ps;have plen:∀(i:Nat) (w:Wd),ps[i]?=some w->w.length<=4000/\i<ps.length:=fun i w hw=>by
  have h1:(w.length+1)<=(ps.map fun w=>w.length+1).sum:=dR (yk.mpr ⟨w,zh hw,rfl⟩);exact⟨by lia,(xb.mp hw).1⟩
 refine⟨l2,rfl,⟨_,SqL.of t2⟩,J3 (xs:=ps.map fun w=>V.str (sW w)) (fun i Z' H'=>An3 (Ax H H') (H' l2=some (.lst (ps.map fun w=>V.str (sW w)))) (Ex6 fun(d:Int) (v3 v4 v5 v6 v7:Option V)=>An3 (H' l=some (.lst (((ps.take i).flatMap HJ).map fun w=>V.str (sW w)))) (Dok d (ps.drop i)) (Z'=[some (.str z),some (.ref l),some (.int d),v3,v4,v5,v6,v7]))) ⟨s1.trans s2,t2,0,none,none,none,none,none,s2 _ _ t1,by rw[List.drop_zero];exact ho,rfl⟩ ?_ ?_ ?_⟩
 ·rintro i Z' H' _ ⟨_,t,_⟩;exact SqL.of t
 ·rintro i x Z' H' hx ⟨sH,tp,d,v3,v4,v5,v6,v7,tl,ew,rfl⟩;rw[xc] at hx;obtain⟨w,hw,rfl⟩:=ja4.mp hx;obtain⟨wl,il⟩:=plen i w hw;have ol:=Ny w;have cl:=Qt w;have ed:ps.drop i=w::ps.drop (i+1):=by
   rw[ja6 il]
   congr 1
   rw[qv il] at hw;injection hw
  rw[ed] at ew;obtain⟨ew,ew2⟩:=ew;unfold opn at ew ew2;unfold cls at ew2;have cw:=hc w (zh hw);have fit:w.length<=sizeLine:=zv wl (by decide);ac_nf;refine Oz ?_;ac_nf;refine⟨rfl,?_⟩;ac_nf;refine⟨sW w,_,rfl,rfl,by rw[Cr];exact fit,?_⟩;rw[show (if stripSame (Str.ofString "(").cps.contains true false (sW w) then sW w else stripped (Str.ofString "(").cps.contains true false (sW w))=sW (opd w) from ABP w];ac_nf;refine Oz ?_;ac_nf;refine⟨rfl,?_⟩;ac_nf;refine⟨sW (opd w),_,rfl,rfl,by rw[Cr];lia,?_⟩;rw[show (if stripSame (Str.ofString ")").cps.contains false true (sW (opd w)) then sW (opd w) else stripped (Str.ofString ")").cps.contains false true (sW (opd w)))=sW (core w) from AAm w];ac_nf;rw[kZ];refine CN (fun z=>cw (vB.mp z)) ?_;ac_nf;refine⟨_,rfl,by rw[Cr];exact fit,?_⟩;ac_nf;refine⟨_,rfl,by rw[Cr];lia,?_⟩;ac_nf;refine⟨_,rfl,by rw[Cr];lia,?_⟩;ac_nf;refine⟨_,rfl,by rw[Cr];lia,?_⟩;rw[Cr,Cr,Cr];ac_nf;refine CN (by lia) ?_;ac_nf;refine Nr rfl tl ?_;ac_nf;have sz:∀n:Nat,n<=100000->n<=sizeLine:=fun n h=>zv h (by decide);refine⟨(by show 1<=sizeLine;decide),fun m1 hm1=>?_⟩;refine fresh hm1 fun H3 s3 t3=>?_;rw[ACR] at t3;ac_nf;refine aM t3 (by lia) (by lia) (sz _ (by simp;lia)) fun m2 hm2=>?_;refine fresh hm2 fun H4 s4 t4=>?_;rw[RT] at t4;ac_nf;refine⟨(by show 1<=sizeLine;decide),fun m3 hm3=>?_⟩;refine fresh hm3 fun H5 s5 t5=>?_;ac_nf;refine⟨m2,m3,_,_,rfl,rfl,s5 _ _ t4,t5,sz _ (by simp;lia),fun m4 hm4=>?_⟩;refine fresh hm4 fun H6 s6 t6=>?_;ac_nf;refine⟨(by show 1<=sizeLine;decide),fun m5 hm5=>?_⟩;refine fresh hm5 fun H7 s7 t7=>?_;rw[ACQ] at t7;ac_nf;refine aM t7 (by lia) (by lia) (sz _ (by simp;lia)) fun m6 hm6=>?_;refine fresh hm6 fun H8 s8 t8=>?_;rw[RT] at t8;ac_nf;refine⟨m4,m6,_,_,rfl,rfl,(s7.trans s8) _ _ t6,t8,sz _ (by simp;lia),fun m7 hm7=>?_⟩;refine fresh hm7 fun H9 s9 t9=>?_;have sA:=s3.trans (s4.trans (s5.trans (s6.trans (s7.trans (s8.trans s9)))));rw[show ((w.length:Int)-((opd w).length:Int)).toNat=w.length-(opd w).length by lia,show(((opd w).length:Int)-((core w).length:Int)).toNat=(opd w).length-(core w).length by lia,<-yC] at t9;have tk:(ps.take (i+1)).flatMap HJ=(ps.take i).flatMap HJ++HJ w:=by
   rw[ja0,hw,jf5,jg6,Zs,List.flatMap_nil,ya]
  have tle:=pR (ps:=ps) i;have ple:=YX w;refine Ge ?_;refine⟨l,m7,_,_,rfl,rfl,sA _ _ tl,t9,?_,?_⟩
  ·rw[jp,jp];have b1:((ps.take i).flatMap HJ).length<=4001:=zv tle (zv fl (by rw[wt];lia));exact sz _ (zv (Nat.add_le_add b1 ple) (by lia))
  ·rw[<-yi,<-tk];refine⟨fun r o ho=>?_,?_,_,_,_,_,_,_,Ah,?_,rfl⟩
   ·rw[Aw fun z=>by rw[z,hl] at ho;cases ho];exact sA _ _ (sH _ _ ho)
   ·rw[Aw ll];exact sA _ _ tp
   ·rwa [show d+((w.length:Int)-((opd w).length:Int))-(((opd w).length:Int)-((core w).length:Int))=d+((w.length-(opd w).length:Nat):Int)-(((opd w).length-(core w).length:Nat):Int) by lia]
 ·rintro Z' H' ⟨sH,_,d,v3,v4,v5,v6,v7,tl,ew,rfl⟩;rw[jp,ja9] at tl;ac_nf;exact q l H' sH tl
theorem NP:Cp ["reader","number","word","plan"] ["reader"] (BP G6):=by walk_at"s"
theorem Nz{k d:Nat}(F:Fun K "take_numbered" "take_numbered" G6 f fd)(Ci:C0 k "take_plan" ["reader"] ((Jj BW) d))(hk:8<=k):F0 (k+1) f fd ["reader"] ((V2 BW) d):=by
 refine F.ok (k:=k+0) NP (fun h=>?_) fun nd H vs Q E hr h=>?_
 ·obtain⟨x,p,r,rfl,_⟩:=h;rfl
 obtain⟨x,p,r,rfl,R,okp,cp,dp,hh,q⟩:=h;refine⟨_,(Ac (Ak 1 (Ae Ew (Aa (pv 0) Ab)))
  (Ac (Ak 2 (DG Ce Bd (pv 0)))
  (Ac (Ay (Aj Bm (pv 2) Ai (Ao _))
   (Ad (Al (Az (Aa (pv 2) (Aa (pv 1) (Aa (Ae Ci (Aa (pv 0) Ab)) Ab))))))
   Aq)
  (Ac (Ay (Aj Ek (pv 2) Ai (Ao _))
   (Ad BX)
   Aq)
  (Ac (Ak 3 (Ae Ci (Aa (pv 0) Ab)))
  (Ac (BR (Ae G5 (Aa (pv 0) (Aa Ai Ab))))
  (Ad (Al (Az (Aa (pv 2) (Aa (pv 1) (Aa (pv 3) (Aa (Ae Ci (Aa (pv 0) Ab)) Ab))))))))))))),?_⟩
 cases p with
 | la n p=>
  symm;refine⟨x,n,_,rfl,R,okp.1,fun H1 k1 R1=>?_⟩;symm;obtain⟨dx,fs,hx,l1,_⟩:=R1.ob;refine⟨x,dx,_,rfl,hx,l1,?_⟩;symm;refine⟨x,_,rfl,R1,fun H2 k2 R2=>?_⟩;symm;walk_at"ew";refine⟨x,p,r,rfl,R2,okp.2,trivial,jc4 dp,hh,fun v H3 k3 R3 P3=>?_⟩;symm;refine⟨(by show 3<=sizeLine;decide),fun a ha=>?_⟩;refine fresh ha fun H4 s4 t4=>?_;exact q _ H4 (((k1.tr k2).tr k3).tr (.sm s4)) (R3.same s4) ⟨a,v,rfl,by rw[t4];exact xo (fun z=>some (HO.tup [z,_,_])) (HX _),P3.same s4⟩
 | nt n p p'=>
  have dp:max p.deep p'.deep+1<d+1:=dp;symm;refine⟨x,n,_,rfl,R,okp.1,fun H1 k1 R1=>?_⟩;symm;obtain⟨dx,fs,hx,l1,_⟩:=R1.ob;refine⟨x,dx,_,rfl,hx,l1,?_⟩;symm;refine⟨x,_,rfl,R1,fun H2 k2 R2=>?_⟩;symm;walk_at"nw";refine FN (HX _) ?_;symm;refine⟨x,p,_,rfl,R2,okp.2.1,trivial,by lia,hdn (by ac_rfl),fun v H3 k3 R3 P3=>?_⟩;symm;refine⟨x,_,_,rfl,R3,fun H4 k4 R4=>?_⟩;symm;refine⟨x,p',r,rfl,R4,okp.2.2.1,trivial,by lia,hh,fun u H5 k5 R5 P5=>?_⟩;symm;refine⟨(by show 4<=sizeLine;decide),fun a ha=>?_⟩;refine fresh ha fun H6 s6 t6=>?_;exact q _ H6 (((((k1.tr k2).tr k3).tr k4).tr k5).tr (.sm s6)) (R5.same s6) ⟨a,v,u,rfl,by rw[t6];exact xo (fun z=>some (HO.tup [z,_,_,_])) (HX _),(PlH.kb R4 k5 (PlH.kb R3 k4 P3)).same s6,P5.same s6⟩
 | _=>exact cp.elim
theorem Tu:Cp ["reader","number","plan"] ["reader"] (BP Iw):=by walk_at"s"
theorem Ui{k d:Nat}(F:Fun K "take_every" "take_every" Iw f fd)(Ci:C0 k "take_plan" ["reader"] ((Jj BW) d))(hk:8<=k):F0 (k+1) f fd ["reader"] ((Q4 BW) d):=by
 refine F.ok (k:=k+0) Tu (fun h=>?_) fun nd H vs Q E hr h=>?_
 ·obtain⟨x,p,r,rfl,_⟩:=h;rfl
 obtain⟨x,p,r,rfl,R,okp,cp,dp,hh,q⟩:=h;refine⟨_,(Ac (Ak 1 (Ae Ew (Aa (pv 0) Ab)))
  (Ac (BR (Ae G5 (Aa (pv 0) (Aa Ai Ab))))
  (Ac (Ak 2 (Ae Ci (Aa (pv 0) Ab)))
  (Ac (BR (Ae G5 (Aa (pv 0) (Aa Ai Ab))))
  (Ad (Al (Az (Aa Ai (Aa (pv 1) (Aa (pv 2) (Aa (Ae Ew (Aa (pv 0) Ab)) Ab))))))))))),?_⟩
 cases p with
 | ev n p e=>
  symm;refine⟨x,n,_,rfl,R,okp.1,fun H1 k1 R1=>?_⟩;symm;refine⟨x,_,_,rfl,R1,fun H2 k2 R2=>?_⟩;symm;refine⟨x,p,_,rfl,R2,okp.2.2.1,trivial,jc4 dp,hdn (by ac_rfl),fun v H3 k3 R3 P3=>?_⟩;symm;refine⟨x,_,_,rfl,R3,fun H4 k4 R4=>?_⟩;symm;refine⟨x,e,r,rfl,R4,okp.2.1,fun H5 k5 R5=>?_⟩;symm;refine⟨(by show 4<=sizeLine;decide),fun a ha=>?_⟩;refine fresh ha fun H6 s6 t6=>?_;exact q _ H6 (((((k1.tr k2).tr k3).tr k4).tr k5).tr (.sm s6)) (R5.same s6) ⟨a,v,rfl,t6,(PlH.kb R4 k5 (PlH.kb R3 k4 P3)).same s6⟩
 | _=>exact cp.elim
theorem V6:Cp ["reader","plan","word"] ["reader"] (BP Jl):=by walk_at"s"
theorem Wq{k d:Nat}(F:Fun K "take_pair" "take_pair" Jl f fd)(Ci:C0 k "take_plan" ["reader"] ((Jj BW) d))(hk:8<=k):F0 (k+1) f fd ["reader"] ((V1 BW) d):=by
 refine F.ok (k:=k+0) V6 (fun h=>?_) fun nd H vs Q E hr h=>?_
 ·obtain⟨x,p,r,rfl,_⟩:=h;rfl
 obtain⟨x,p,r,rfl,R,okp,cp,dp,hh,q⟩:=h;refine⟨_,(Ac (Ak 1 (Ae Ci (Aa (pv 0) Ab)))
  (Ac (Ak 2 (DG Ce Bd (pv 0)))
  (Ac (Ay (Aj MP (pv 2) (Bv rfl Wu (Gx _)) (by rfl))
   (Ad BX)
   Aq)
  (Ad (Al (Az (Aa (pv 2) (Aa (pv 1) (Aa (Ae Ci (Aa (pv 0) Ab)) Ab))))))))),?_⟩
 cases p with
 | pr w p p'=>
  have dp:max p.deep p'.deep+1<d+1:=dp;symm;refine⟨x,p,_,rfl,R,okp.1,trivial,by lia,hdn (by cases w<;>ac_rfl),fun v H1 k1 R1 P1=>?_⟩;symm;obtain⟨dx,fs,hx,l1,_⟩:=R1.ob;refine⟨x,dx,_,rfl,hx,l1,?_⟩;symm;refine⟨x,_,rfl,R1,fun H2 k2 R2=>?_⟩;symm;refine⟨Gv,_,rfl,.inr (WR _),rfl,rfl,?_⟩;have e:V.str (sW ((sg w.s::(p'.tok++r)).headD []))=V.str (Str.ofString w.s):=HX _;rw[e,ABJ w];symm;refine Ep ?_;symm;refine⟨x,p',r,rfl,R2,okp.2,trivial,by lia,hh,fun u H3 k3 R3 P3=>?_⟩;symm;refine⟨(by show 3<=sizeLine;decide),fun a ha=>?_⟩;refine fresh ha fun H4 s4 t4=>?_;exact q _ H4 (((k1.tr k2).tr k3).tr (.sm s4)) (R3.same s4) ⟨a,v,u,rfl,t4,(PlH.kb R2 k3 (PlH.kb R1 k2 P1)).same s4,P3.same s4⟩
 | _=>exact cp.elim
theorem Q6:Cp ["reader","word"] ["reader"] (BP Ia):=by walk_at"s"
theorem Rf{k d:Nat}(F:Fun K "take_within" "take_within" Ia f fd)(Ci:C0 k "take_plan" ["reader"] ((Jj BW) d))(ab:C0 (k+1) "take_every" ["reader"] ((Q4 BW) d))(ac:C0 (k+1) "take_numbered" ["reader"] ((V2 BW) d))(ad:C0 (k+1) "take_pair" ["reader"] ((V1 BW) d))(hk:8<=k):F0 (k+2) f fd ["reader"] ((Qz BW) d):=by
 refine F.ok (k:=k+1) Q6 (fun h=>?_) fun nd H vs Q E hr h=>?_
 ·obtain⟨x,p,r,rfl,_⟩:=h;rfl
 obtain⟨x,p,r,rfl,R,okp,cp,dp,hh,q⟩:=h;obtain⟨dx,fs,hx,l1,l2⟩:=R.ob;refine⟨_,(Ac (Ak 1 (DG Ft Bd (pv 0)))
  (Ac (Ay (Aj Bm (pv 1) Ai (Ao _))
   (Ac (BR (DG Ce Bd (pv 0)))
  (Ad (Al (Az (Aa (pv 1) (Aa (Ae Ci (Aa (pv 0) Ab)) Ab))))))
   Aq)
  (Ac (Ay (Aj Bm (pv 1) Ai (Ao _))
   (Ac (BR (DG Ce Bd (pv 0)))
  (Ad (Al (Ae ab (Aa (pv 0) Ab)))))
   Aq)
  (Ac (Ay (Gh (Ae J8 (Aa (pv 1) Ab)))
   (Ad (Al (Ae ac (Aa (pv 0) Ab))))
   Aq)
  (Ad (Al (Ae ad (Aa (pv 0) Ab)))))))),?_⟩
 symm;refine⟨x,dx,_,rfl,hx,l2,?_⟩;symm;refine⟨x,_,rfl,R,?_⟩;symm;have num:∀n:Int,Sm n->(inn p r).headD []=nW n->cLN p->TOk (sW ((inn p r).headD [])):=fun n sn e _=>by
  rw[e];exact⟨Fi.mpr fun c hc=>by rw[Bg] at hc;have:=Ju sn c hc;lia,by rw[Cr];have:=Df sn;lia⟩
 cases p with
 | no p=>
  walk_at"ew";refine⟨x,dx,_,rfl,hx,l1,?_⟩;symm;refine⟨x,_,rfl,R,fun H1 k1 R1=>?_⟩;symm;refine⟨x,p,r,rfl,R1,okp,trivial,jc4 dp,hh,fun v H2 k2 R2 P2=>?_⟩;symm;refine⟨HH,fun a ha=>?_⟩;refine fresh ha fun H4 s4 t4=>?_;exact q _ H4 ((k1.tr k2).tr (.sm s4)) (R2.same s4) ⟨a,v,rfl,by rw[t4];exact xo (fun z=>some (HO.tup [z,_])) (HX _),P2.same s4⟩
 | ev n p e=>
  walk_at"nw";walk_at"ew";refine⟨x,dx,_,rfl,hx,l1,?_⟩;symm;refine⟨x,_,rfl,R,fun H1 k1 R1=>?_⟩;symm;exact⟨x,.ev n p e,r,rfl,R1,okp,trivial,dp,hh,q.on k1⟩
 | la n p=>
  refine CN (Rg okp.1 ⟨_,_,rfl,by decide⟩) ?_;symm;refine CN (Rg okp.1 ⟨_,_,rfl,by decide⟩) ?_;symm;refine⟨_,rfl,R.tk,fun v H2 s2 iv=>?_⟩;obtain rfl:=iv.mpr (show M3 (cpl (sW (nW n))) by rw[Bg];exact(Hn okp.1).1);symm;refine FW ?_;symm;exact⟨x,.la n p,r,rfl,R.same s2,okp,trivial,dp,hh,q.on (.sm s2)⟩
 | nt n p p'=>
  refine CN (Rg okp.1 ⟨_,_,rfl,by decide⟩) ?_;symm;refine CN (Rg okp.1 ⟨_,_,rfl,by decide⟩) ?_;symm;refine⟨_,rfl,R.tk,fun v H2 s2 iv=>?_⟩;obtain rfl:=iv.mpr (show M3 (cpl (sW (nW n))) by rw[Bg];exact(Hn okp.1).1);symm;refine FW ?_;symm;exact⟨x,.nt n p p',r,rfl,R.same s2,okp,trivial,dp,hh,q.on (.sm s2)⟩
 | pr w p p'=>
  obtain⟨z,t,e,hz⟩:=p.hd;have e1:inn (.pr w p p') r=z::(t++sg w.s::(p'.tok++r)):=by
   show p.tok++_=_;rw[e];rfl
  have R':=R;rw[e1] at R' ⊢;obtain⟨n1,n2,n3⟩:V.str (sW z)≠V.str (Str.ofString "not")/\V.str (sW z)≠V.str (Str.ofString "every")/\∃c u,z=c::u/\¬(c=45\/48<=c/\c<=57):=by
   have g:∀{y:String} {c:Nat} {u:Wd},z=sg y->sg y=c::u->¬(c=45\/48<=c/\c<=57)->Str.ofString y≠Str.ofString "not"->Str.ofString y≠Str.ofString "every"->V.str (sW z)≠V.str (Str.ofString "not")/\V.str (sW z)≠V.str (Str.ofString "every")/\∃c u,z=c::u/\¬(c=45\/48<=c/\c<=57):=fun a b c d e=>by
    rw[a];exact⟨cG d,cG e,_,_,b,c⟩
   rcases qm.mp hz with h | hz
   ·exact g h rfl (by decide) (by ac_rfl) (by ac_rfl)
   rcases qm.mp hz with h | hz
   ·exact g h rfl (by decide) (by ac_rfl) (by ac_rfl)
   rcases qm.mp hz with h | hz
   ·exact g h rfl (by decide) (by ac_rfl) (by ac_rfl)
   rcases qm.mp hz with h | hz
   ·exact g h rfl (by decide) (by ac_rfl) (by ac_rfl)
   ·exact g (y:="(") ((vj.mp hz).trans (by ac_rfl)) rfl (by decide) (by ac_rfl) (by ac_rfl)
  refine CN n1 ?_;symm;refine CN n2 ?_;symm;refine⟨_,rfl,R'.tk,fun v H2 s2 iv=>?_⟩;obtain rfl:v=false:=by
   cases v with
   | false=>rfl
   | true=>
    have:=iv.mp rfl;rw[show (z::(t++sg w.s::(p'.tok++r))).headD []=z from rfl,Bg] at this;obtain⟨c,u,rfl,n⟩:=n3;exact absurd (nD this) n
  symm;refine Ep ?_;symm;exact⟨x,.pr w p p',r,rfl,R.same s2,okp,trivial,dp,hh,q.on (.sm s2)⟩
 | _=>exact(cp.elim id fun z=>z.elim id id).elim
theorem V5:Cp ["reader","word","plan","numbers"] ["reader"] (BP Jk):=by walk_at"s"
theorem Wo{k d:Nat}(F:Fun K "take_plan" "take_plan" Jk f fd)(ab:C0 (k+2) "take_within" ["reader"] ((Qz BW) d))(hk:8<=k):F0 (k+3) f fd ["reader"] ((Jj BW) (d+1)):=by
 refine F.ok (k:=k+2) V5 (fun h=>?_) fun nd H vs Q E hr h=>?_
 ·obtain⟨x,p,r,rfl,_⟩:=h;rfl
 obtain⟨x,p,r,rfl,R,okp,_,dp,hh,q⟩:=h;obtain⟨dx,fs,hx,l1,_⟩:=R.ob;refine⟨_,(Ac (Ak 1 (DG Ce Bd (pv 0)))
  (Ac (Ay (PW.pt (IK (Aj Bm (pv 1) Ai (Ao _)) (Gg (Aj Bm (pv 1) Ai (Ao _)))))
   (Ad (Al (Az (Aa (pv 1) Ab))))
   Aq)
  (Ac (Ay (Aj Bm (pv 1) Ai (Ao _))
   (Ac (Ak 3 (Ae PP (Aa (pv 0) Ab)))
  (Ad (Al (Az (Aa (pv 1) (Aa (pxT 3) (Aa (pxT 3) Ab)))))))
   Aq)
  (Ac (Ay (Aj Bm (pv 1) Ai (Ao _))
   (Ad (Al (Ae ZF (Aa (pv 0) Ab))))
   Aq)
  (Ac (Ay (Aj Ek (pv 1) Ai (Ao _))
   (Ad BX)
   Aq)
  (Ac (Ak 2 (Ae ab (Aa (pv 0) Ab)))
  (Ac (BR (Ae G5 (Aa (pv 0) (Aa Ai Ab))))
  (Ad (Al (pv 2)))))))))),?_⟩
 symm;refine⟨x,dx,_,rfl,hx,l1,?_⟩;symm;refine⟨x,_,rfl,R,fun H1 k1 R1=>?_⟩;symm;cases p with
 | lf b=>
  cases b with
  | true=>
   refine Hw (HX "all") ?_;refine FW ?_;symm;refine⟨(by show 1<=sizeLine;decide),fun a ha=>?_⟩;refine fresh ha fun H4 s4 t4=>?_;exact q _ H4 (k1.tr (.sm s4)) (R1.same s4) ⟨a,rfl,by rw[t4];exact xo (fun z=>some (HO.tup [z])) (HX "all")⟩
  | false=>
   walk_at"nw";refine Hw (HX "none") ?_;symm;refine⟨(by show 1<=sizeLine;decide),fun a ha=>?_⟩;refine fresh ha fun H4 s4 t4=>?_;exact q _ H4 (k1.tr (.sm s4)) (R1.same s4) ⟨a,rfl,by rw[t4];exact xo (fun z=>some (HO.tup [z])) (HX "none")⟩
 | each n m=>
  walk_at"nw";walk_at"nw";walk_at"ew";refine⟨x,n,m,r,rfl,R1,okp.1,okp.2.1,fun a H2 k2 R2 t2=>?_⟩;symm;refine An (SqT.of t2) at0 ?_;symm;refine An (SqT.of t2) at1 ?_;symm;refine⟨(by show 3<=sizeLine;decide),fun b hb=>?_⟩;refine fresh hb fun H4 s4 t4=>?_;exact q _ H4 ((k1.tr k2).tr (.sm s4)) (R2.same s4) ⟨b,rfl,by rw[t4];exact xo (fun z=>some (HO.tup [z,_,_])) (HX _)⟩
 | date nm m e y=>
  walk_at"nw";walk_at"nw";walk_at"nw";walk_at"ew";exact⟨x,nm,m,e,y,r,rfl,R1,okp,hh,q.on k1⟩
 | _=>
  walk_at"nw";walk_at"nw";walk_at"nw";walk_at"nw";refine FN (by show V.str (sW kL)=_;rw[vN];exact HX _) ?_;symm;refine⟨x,_,kR::r,rfl,by simp only[PT.tok,jh2,ke,ji5] at R1;exact R1,okp,by first | exact trivial | exact .inl trivial | exact .inr (.inl trivial) | exact .inr (.inr trivial),dp,(show kR≠sg "each" by ac_rfl),fun v H2 k2 R2 P2=>?_⟩
  symm;refine⟨x,_,r,rfl,by rw[show cpl (Str.ofString ")")=kR by ac_rfl];exact R2,fun H3 k3 R3=>?_⟩;symm;exact q _ H3 ((k1.tr k2).tr k3) R3 (PlH.kb R2 k3 P2)
theorem Ci:C0 131 "take_plan" ["reader"] ((Jj BW) 41):=WX (k0:=8) (J:=3) (sp:=(Jj BW)) (st:=Jk) gX gG (by walk_at"g") (by walk_at"b") (fun _ _ _ _ h=>Xq h) (fun d _ _ R F=>by
 have hk:8<=8+3*d:=vn _ _;have ab:C0 ((8+3*d)+1) "take_numbered" ["reader"] ((V2 BW) d):=co (st:=G6) (by walk_at"g") (by walk_at"b") fun F=>Nz F R hk;have ac:C0 ((8+3*d)+1) "take_every" ["reader"] ((Q4 BW) d):=co (st:=Iw) (by walk_at"g") (by walk_at"b") fun F=>Ui F R hk;have ad:C0 ((8+3*d)+1) "take_pair" ["reader"] ((V1 BW) d):=co (st:=Jl) (by walk_at"g") (by walk_at"b") fun F=>Wq F R hk;have ae:C0 ((8+3*d)+2) "take_within" ["reader"] ((Qz BW) d):=co (st:=Ia) (by walk_at"g") (by walk_at"b") fun F=>Rf F R ac ab ad hk;exact Wo F ae hk) 41
theorem ZS:C0 8 "made_date" ["plan","calendars"] (qM K Ba CL Bk Av):=by
 refine co' ["plan","calendars","name"] YF (fun h=>?_) fun nd H vs Q E hr h=>?_
 ·obtain⟨v,a,m,d,y,D,rfl,_⟩:=h;rfl
 obtain⟨v,a,m,d,y,D,rfl,⟨q0,rfl,hq⟩,ok,⟨kv,z,hk,ez,C⟩,q⟩:=h;have dg:Qf H a (.str (sW (sg "sun"))) (some (.ref z)):=.inl ⟨_,.inr (sW (sg "sun")),.inl hk,rfl,ez.symm⟩;have yp:=vh ok;refine⟨_,(Ac (Ak 2 (pxT 0))
  (Ac (Ay (Wa (U8 (dh hr) (pv 2) (pv 1)))
   (Ad BX)
   Aq)
  (Ad (Al (Gm Om (Aa (pv 2) (Aa (dH (dh hr) (pv 1) (pv 2) (fun _ _=>rfl)) (Aa (pxT 0) (Aa (pxT 0) (Aa (pxT 0) (Aa (pxT 0) Ab))))))))))),?_⟩
 symm;refine An (SqT.of hq) G9 ?_;symm;unfold Vt;symm;refine⟨a,some (.ref z),rfl,dg,?_⟩;refine⟨_,rfl,?_⟩;refine Ep ?_;symm;unfold jh;symm;refine⟨a,.ref z,rfl,dg,?_⟩;symm;refine An (SqT.of hq) KJ ?_;symm;refine An (SqT.of hq) uQ ?_;symm;refine An (SqT.of hq) ACi ?_;symm;refine An (SqT.of hq) ACh ?_;symm;exact fun x dx hx hdx ne=>⟨x,z,_,D,(yr y).1,(yr y).2,m,d,rfl,(by ac_rfl),C.same (HQ hx hdx ne),ok.2.2.2.2.1,fun i e=>Cd (ok.2.1 i e),ok.2.2.2.2.2,fun i e=>Cd (ok.2.2.1 i e),yp.1,yp.2,.go hx hdx ne fun b H' s N _=>⟨rfl,q x b H' s N trivial⟩⟩
theorem ZR:C0 12 "made_pair" ["word","one","other"] (qL K Ba CL):=by
 refine co' ["word","one","other"] YD (fun h=>?_) fun nd H vs Q E hr h=>?_
 ·obtain⟨w,x,y,n1,n2,b1,b2,rfl,_⟩:=h;rfl
 obtain⟨w,x,y,n1,n2,b1,b2,rfl,R1,R2,lz,q⟩:=h;refine⟨_,(Ac (Ay (Aj Bm (pv 0) Ai (Ao _))
  (Ad (Al (Gm Qd (Aa (pv 1) (Aa (pv 2) Ab)))))
  Aq)
  (Ac (Ay (Aj Bm (pv 0) Ai (Ao _))
   (Ad (Al (Gm Mv (Aa (pv 1) (Aa (pv 2) Ab)))))
   Aq)
  (Ac (Ay (Aj Bm (pv 0) Ai (Ao _))
   (Ad (Al (Gm TX (Aa (pv 1) (Aa (pv 2) Ab)))))
   Aq)
  (Ac (Ay (Aj Bm (pv 0) Ai (Ao _))
   (Ad (Al (Gm Ms (Aa (pv 1) (Aa (pv 2) Ab)))))
   Aq)
  (Ac (Ay (Aj Bm (pv 0) Ai (Ao _))
   (Ad (Al (Gm QW (Aa (pv 1) (Aa (pv 2) Ab)))))
   Aq)
  (Ac (Ay (Aj Bm (pv 0) Ai (Ao _))
   (Ad (Al (Gm Oe (Aa (pv 1) (Aa (pv 2) Ab)))))
   Aq)
  (Ac (Ay (Aj Bm (pv 0) Ai (Ao _))
   (Ad (Al (Gm QZ (Aa (pv 1) (Aa (pv 2) Ab)))))
   Aq)
  (Ad (Al (Gm QX (Aa (pv 1) (Aa (pv 2) Ab)))))))))))),?_⟩
 symm;cases w<;>(repeat walk_at"nw")<;>(try walk_at"ew")<;>exact fun y dy hy hdy ne=>ACZ R1 R2 lz hy hdy ne fun b H' s N R=>⟨rfl,q _ b H' s N R⟩
theorem qi:Cp ["plan","calendars","word","one"] ["plan","calendars"] (BP aB):=by walk_at"s"
theorem sE{k d:Nat}(F:Fun K "made" "made" aB f fd)(JR:C0 k "made" ["plan","calendars"] ((Q0 K Ba CL Bk Av) d))(hk:12<=k):F0 (k+1) f fd ["plan","calendars"] ((Q0 K Ba CL Bk Av) (d+1)):=by
 refine F.ok (k:=k+0) qi (fun h=>?_) fun nd H vs Q E hr h=>?_
 ·obtain⟨v,a,p,D,rfl,_⟩:=h;rfl
 obtain⟨v,a,p,D,rfl,P,ok,kn,dp,D0,Di,lz,q⟩:=h;refine⟨_,(Ac (Ak 2 (pxT 0))
  (Ac (Ay (Aj Bm (pv 2) Ai (Ao _))
   (Ad (Al (aQ Tc (hr.mono (by lia)) rfl)))
   Aq)
  (Ac (Ay (Aj Bm (pv 2) Ai (Ao _))
   (Ad (Al (aQ Uu (hr.mono (by lia)) rfl)))
   Aq)
  (Ac (Ay (Aj Bm (pv 2) Ai (Ao _))
   (Ad (Al (Gm Qa (Aa (pxT 0) (Aa (pxT 0) Ab)))))
   Aq)
  (Ac (Ay (Aj Bm (pv 2) Ai (Ao _))
   (Ad (Al (Ae ZS (Aa (pv 0) (Aa (pv 1) Ab)))))
   Aq)
  (Ac (Ay (Aj Bm (pv 2) Ai (Ao _))
   (Ad (Al (Gm TF (Aa (Ae JR (Aa (pxT 0) (Aa (pv 1) Ab))) Ab))))
   Aq)
  (Ac (Ay (Aj Bm (pv 2) Ai (Ao _))
   (Ad (Al (Gm Oi (Aa (pxT 0) (Aa (Ae JR (Aa (pxT 0) (Aa (pv 1) Ab))) Ab)))))
   Aq)
  (Ac (Ay (Aj Bm (pv 2) Ai (Ao _))
   (Ad (Al (Gm Oj (Aa (pxT 0) (Aa (Ae JR (Aa (pxT 0) (Aa (pv 1) Ab))) (Aa (pxT 0) Ab))))))
   Aq)
  (Ac (Ay (Aj Bm (pv 2) Ai (Ao _))
   (Ac (Ak 3 (Ae JR (Aa (pxT 0) (Aa (pv 1) Ab))))
  (Ad (Al (Gm TV (Aa (pxT 0) (Aa (pv 3) (Aa (Ae JR (Aa (pxT 0) (Aa (pv 1) Ab))) Ab)))))))
   Aq)
  (Ac (Ak 3 (Ae JR (Aa (pxT 0) (Aa (pv 1) Ab))))
  (Ad (Al (Ae ZR (Aa (pv 2) (Aa (pv 3) (Aa (Ae JR (Aa (pxT 0) (Aa (pv 1) Ab))) Ab)))))))))))))))),?_⟩
 cases p with
 | lf b=>
  obtain⟨q0,rfl,hq⟩:=P;symm;refine An (SqT.of hq) Ed ?_;symm;cases b with
  | true=>
   walk_at"ew";exact fun x dx hx hdx ne=>⟨x,rfl,.go hx hdx ne fun b H' s N eb=>⟨rfl,q x b H' s N eb⟩⟩
  | false=>
   walk_at"nw";walk_at"ew";exact fun x dx hx hdx ne=>⟨x,rfl,.go hx hdx ne fun b H' s N eb=>⟨rfl,q x b H' s N eb⟩⟩
 | each n r=>
  obtain⟨q0,rfl,hq⟩:=P;symm;refine An (SqT.of hq) Ed ?_;symm;walk_at"nw";walk_at"nw";walk_at"ew";refine An (SqT.of hq) G9 ?_;symm;refine An (SqT.of hq) KJ ?_;symm;exact fun x dx hx hdx ne=>⟨x,n,r,rfl,ok.2.2.1,by have:=ok.2.2.2;lia,.go hx hdx ne fun b H' s N B=>⟨rfl,q x b H' s N B⟩⟩
 | date nm m e y=>
  obtain⟨q0,rfl,hq⟩:=P;symm;refine An (SqT.of hq) Ed ?_;symm;walk_at"nw";walk_at"nw";walk_at"nw";walk_at"ew";obtain rfl:nm=sg "sun":=kn;exact⟨_,a,m,e,y,D,rfl,⟨q0,rfl,hq⟩,ok,Di,q⟩
 | no p=>
  obtain⟨q0,u,rfl,hq,P⟩:=P;symm;refine An (SqT.of hq) Ed ?_;symm;walk_at"nw";walk_at"nw";walk_at"nw";walk_at"nw";walk_at"ew";refine An (SqT.of hq) G9 ?_;symm;refine⟨u,a,p,D,rfl,P,ok,kn,jc4 dp,D0,Di,lz,fun t tb H1 s1 T F=>?_⟩;symm;exact fun x dx hx hdx ne=>⟨x,t,_,tb,rfl,T.same (HQ hx hdx ne),.go hx hdx ne fun b H' s N _=>⟨rfl,q x b H' (s1.trans s) N trivial⟩⟩
 | la k p=>
  obtain⟨q0,u,rfl,hq,P⟩:=P;symm;refine An (SqT.of hq) Ed ?_;symm;walk_at"nw";walk_at"nw";walk_at"nw";walk_at"nw";walk_at"nw";walk_at"ew";refine An (SqT.of hq) G9 ?_;symm;refine An (SqT.of hq) KJ ?_;symm;refine⟨u,a,p,D,rfl,P,ok.2,kn,jc4 dp,D0,Di,lz,fun t tb H1 s1 T F=>?_⟩;symm;exact fun x dx hx hdx ne=>⟨x,t,k,_,tb,rfl,Cd ok.1,T.same (HQ hx hdx ne),.go hx hdx ne fun b H' s N _=>⟨rfl,q x b H' (s1.trans s) N trivial⟩⟩
 | ev k p e=>
  obtain⟨q0,u,rfl,hq,P⟩:=P;have sp:=PT.sz_pos D0 ok.2.2.1;have lz:p.sz D*k<=150000:=lz;have l1:=tE sp (show 0<k by have:=ok.2.2.2.1;lia);symm;refine An (SqT.of hq) Ed ?_;symm;walk_at"nw";walk_at"nw";walk_at"nw";walk_at"nw";walk_at"nw";walk_at"nw";walk_at"ew";refine An (SqT.of hq) G9 ?_;symm;refine An (SqT.of hq) KJ ?_;symm;refine⟨u,a,p,D,rfl,P,ok.2.2.1,kn,jc4 dp,D0,Di,by lia,fun t tb H1 s1 T F=>?_⟩;symm;refine An (SqT.of (s1 _ _ hq)) uQ ?_;symm;exact fun x dx hx hdx ne=>⟨x,t,k,e,_,tb,rfl,ok.2.2.2.1,by have:=ok.2.2.2.2;lia,lz,ABc ok.2.1,T.same (HQ hx hdx ne),.go hx hdx ne fun b H' s N _=>⟨rfl,q x b H' (s1.trans s) N trivial⟩⟩
 | nt k p p'=>
  obtain⟨q0,u,u',rfl,hq,P,P'⟩:=P;have dp:max p.deep p'.deep+1<d+1:=dp;have lz:Bx (p.sz D) (p'.sz D)<=150000:=lz;have ll:=mZ (PT.sz_pos D0 ok.2.1) (PT.sz_pos D0 ok.2.2.1);symm;refine An (SqT.of hq) Ed ?_;symm;walk_at"nw";walk_at"nw";walk_at"nw";walk_at"nw";walk_at"nw";walk_at"nw";walk_at"nw";walk_at"ew";refine An (SqT.of hq) KJ ?_;symm;refine⟨u,a,p,D,rfl,P,ok.2.1,kn.1,by lia,D0,Di,by lia,fun t tb H1 s1 T F=>?_⟩;symm;refine An (SqT.of (s1 _ _ hq)) G9 ?_;symm;refine An (SqT.of (s1 _ _ hq)) uQ ?_;symm;refine⟨u',a,p',D,rfl,P'.same s1,ok.2.2.1,kn.2,by lia,D0,Di.same s1,by lia,fun t' tb' H2 s2 T' F'=>?_⟩;symm;exact fun x dx hx hdx ne=>⟨x,t,t',k,_,_,tb,tb',rfl,ok.2.2.2,Cd ok.1,(T.same s2).same (HQ hx hdx ne),T'.same (HQ hx hdx ne),lz,.go hx hdx ne fun b H' s N _=>⟨rfl,q x b H' ((s1.trans s2).trans s) N trivial⟩⟩
 | pr w p p'=>
  obtain⟨q0,u,u',rfl,hq,P,P'⟩:=P;have dp:max p.deep p'.deep+1<d+1:=dp;have lz:Bx (p.sz D) (p'.sz D)<=150000:=lz;have ll:=mZ (PT.sz_pos D0 ok.1) (PT.sz_pos D0 ok.2);have no:∀{z:String},z∈["all","none","each","date","not","later","every","of"]->V.str (Str.ofString w.s)≠V.str (Str.ofString z):=fun h z=>ABI w _ h (V.str.inj z);symm;refine An (SqT.of hq) Ed ?_;symm;refine CN (no (by decide)) ?_;symm;refine CN (no (by decide)) ?_;symm;refine CN (no (by decide)) ?_;symm;refine CN (no (by decide)) ?_;symm;refine CN (no (by decide)) ?_;symm;refine CN (no (by decide)) ?_;symm;refine CN (no (by decide)) ?_;symm;refine CN (no (by decide)) ?_;symm;refine An (SqT.of hq) G9 ?_;symm;refine⟨u,a,p,D,rfl,P,ok.1,kn.1,by lia,D0,Di,by lia,fun t tb H1 s1 T F=>?_⟩;symm;refine An (SqT.of (s1 _ _ hq)) KJ ?_;symm;refine⟨u',a,p',D,rfl,P'.same s1,ok.2,kn.2,by lia,D0,Di.same s1,by lia,fun t' tb' H2 s2 T' F'=>?_⟩;symm;refine⟨w,t,t',_,_,tb,tb',rfl,T.same s2,T',lz,fun z b H' s N B=>q z b H' ((s1.trans s2).trans s) N ?_⟩;cases w with
  | or=>exact⟨tb,tb',F,F',B⟩
  | _=>trivial
theorem JR:C0 53 "made" ["plan","calendars"] ((Q0 K Ba CL Bk Av) 41):=WX (k0:=12) (J:=1) (sp:=(Q0 K Ba CL Bk Av)) (st:=aB) gX gG (by walk_at"g") (by walk_at"b") (fun _ _ _ _ h=>Xr h) (fun d _ _ R F=>by
 have hk:12<=12+1*d:=vn _ _;exact sE F R hk) 41
theorem ZJ:C0 132 "read_rule" ["text","calendars"] (wL K Ba CL Bk Av):=by
 refine co' ["text","calendars","reader","plan"] X6 (fun h=>?_) fun nd H vs Q E hr h=>?_
 ·obtain⟨a,p,D,rfl,_⟩:=h;rfl
 obtain⟨a,p,D,rfl,ok,kn,tl,dl,mn,D0,Di,lz,q⟩:=h;obtain⟨es,tk,dk,co⟩:=PT.rdy ok tl dl;have W:=PT.wf ok;refine⟨_,(Ac (Ay (JF (Gh (Ae Kw (Aa (pv 0) Ab))))
  (Ad BX)
  Aq)
  (Ac (Ak 2 (Gm Mu (Aa (Ae bV (Aa (pv 0) Ab)) Ab)))
  (Ac (Ak 3 (Ae Ci (Aa (pv 2) Ab)))
  (Ac (Ay (Aj Ek (DG Ft Bd (pv 2)) Ai (Ao _))
   (Ad BX)
   Aq)
  (Ad (Al (Ae JR (Aa (pv 3) (Aa (pv 1) Ab))))))))),?_⟩
 symm;refine⟨_,rfl,tk,by rw[Cr];exact tl,?_⟩;symm;refine Ep ?_;symm;refine⟨_,rfl,tk,by rw[Bg];exact tl,by rw[Bg,es];exact co,by rw[Bg,es];exact dk,fun l H1 s1 t1=>?_⟩;rw[Bg,es,W.tk] at t1;symm;refine fun x dx hx hdx ne=>⟨x,dx,l,p.tok,rfl,Ah,HQ hx hdx ne _ _ t1,?_,PT.tok_ok ok,fun H2 k2 R2=>⟨rfl,?_⟩⟩
 ·have:=PT.tok_len p;lia
 have s2:=VD hx hdx ne k2;have hxH:H x=none:=s1.free hx;have kbS:∀{H':Hp},KB x H2 H'->Ax H H':=fun{H'} kb y o e=>kb y o (Bj e hxH) ((s1.trans s2) _ _ e);symm;refine⟨x,p,[],rfl,by show Rd _ _ _ (p.tok++[]);rw[ya];exact R2,ok,trivial,by lia,(by ac_rfl),fun v H3 k3 R3 P3=>?_⟩;symm;obtain⟨d3,fs,hx3,_,l3⟩:=R3.ob;refine⟨x,d3,_,rfl,hx3,l3,?_⟩;symm;refine⟨x,_,rfl,R3,?_⟩;symm;refine FN (by rw[kZ];rfl) ?_;symm;have s3:=kbS k3;exact⟨v,a,p,D,rfl,P3,ok,kn,by lia,D0,Di.same s3,lz,fun t b H' s T F=>q t b H' (s3.trans s) T F⟩
theorem ZM:C0 1 "primes_of" ["number"] j6:=by
 refine co' ["number","primes","left","factor"] YB (fun h=>?_) fun nd H vs Q E hr h=>?_
 ·obtain⟨n,rfl,_⟩:=h;rfl
 obtain⟨n,rfl,n0,n1,q⟩:=h;refine⟨_,(Ac (Ak 1 (En Ab))
  (Ac (Ak 2 (pv 0))
  (Ac (Ak 3 Af)
  (Ac (FT PassesOwn.never (Aj Ja (Ag CW (pv 3) (pv 3)) (pv 2) (Ao _))
   (Ac (Ei (Ay (Aj Bm (Ag Bp (pv 2) (pv 3)) Af (Ao _))
   (Ad (BR (GK ve jb4 jb5 GQ (pv 1) (Aa (pv 3) Ab))))
   Aq))
  (Ac (FT PassesOwn.never (Aj Bm (Ag Bp (pv 2) (pv 3)) Af (Ao _))
   (Ad (Ak 2 (Ag Bs (pv 2) (pv 3)))))
  (Ad (Ak 3 (Ag Bq (pv 3) Af))))))
  (Ac (Ei (Ay (Aj Fl (pv 2) Af (Ao _))
   (Ad (BR (GK ve jb4 jb5 GQ (pv 1) (Aa (pv 2) Ab))))
   Aq))
  (Ad (Al (pv 1)))))))),?_⟩
 symm;refine⟨(by show 0<=sizeLine;decide),fun lp hlp=>?_⟩;have s1:=Am hlp (.lst []);have t1:upd H lp (.lst []) lp=some (.lst []):=Ah;generalize upd H lp (.lst [])=H1 at s1 t1 ⊢;symm;refine⟨fun m Z' H'=>∃(ps:List Nat) (l f:Nat),Ax H H'/\H' lp=some (.lst (ps.map fun(p:Nat)=>V.int (p:Int)))/\PI0 n ps l f/\ps.length<=f/\f<=n+2/\Z'=[some (.int (n:Int)),some (.ref lp),some (.int (l:Int)),some (.int (f:Int))]/\m=n+3-f,
  ⟨_,[],n,2,s1,t1,PI0.start n0,by simp,by lia,rfl,rfl⟩,?_⟩
 rintro m Z' H' ⟨ps,l,f,s2,t2,I,lf,fn,rfl,rfl⟩;have f2:=I.f2;have l0:=I.l0;have ln:=I.ln;have efl:((f:Int)*(f:Int)<=(l:Int))<->f*f<=l:=by rw[<-ji2];lia
 symm;refine DQ ⟨64,64,by unfold Bt;lia,by unfold Bt;lia,by decide⟩ ?_;symm;refine CG (fun cc=>?_) (fun cc=>?_)
 ·have ffl:=efl.mp cc;have fl:f<=l:=by
   have:=Nat.le_mul_of_pos_left f (show 0<f by lia);lia
  refine⟨_,fun Z' H' hh=>hh,?_⟩;symm;refine EY (fun Z' H'=>∃ps':List Nat,An6 (Ax H H') (H' lp=some (.lst (ps'.map fun(p:Nat)=>V.int (p:Int)))) (PI0 n ps' l f) (ps'.length<=f+1) (f∣l->f∈ps') (Z'=[some (.int (n:Int)),some (.ref lp),some (.int (l:Int)),some (.int (f:Int))])) ?_ ?_
  ·symm;refine CG (fun c2=>?_) (fun c2=>?_)
   ·have hd:=fD.mp c2;symm;refine HW rfl t2 ?_;symm;refine Nt t2 (by rw[jp,sizeLine_eq];lia) ?_;refine⟨ps++[f],Cz hlp s2,?_,I.app hd,by simp;lia,fun _=>by simp,rfl⟩;rw[Ah,yi];rfl
   ·symm;exact⟨ps,s2,t2,I,by lia,fun hd=>absurd (fD.mpr hd) c2,rfl⟩
  rintro Z' H2 ⟨ps',s3,t3,I',lf',hin,rfl⟩;symm;refine⟨fun m Z' H'=>H'=H2/\∃l':Nat,PI0 n ps' l' f/\(f∣l'->f∈ps')/\Z'=[some (.int (n:Int)),some (.ref lp),some (.int (l':Int)),some (.int (f:Int))]/\l'=m,⟨_,rfl,l,I',hin,rfl,rfl⟩,?_⟩;rintro m Z' H' ⟨rfl,l',J,hin',rfl,rfl⟩;symm;refine CG (fun c2=>?_) (fun c2=>?_)
  ·have hd:=fD.mp c2;obtain⟨J',lt⟩:=J.div hd (hin' hd);refine⟨_,fun Z' H' hh=>hh,?_⟩;symm;refine DQ (Fb (by lia) (by lia)) ?_;symm;rw[<-ji9];exact⟨_,lt,rfl,_,J',fun z=>hin' hd,rfl,rfl⟩
  ·have hd:¬f∣l':=fun z=>c2 (fD.mpr z);symm;refine⟨n+3-(f+1),by lia,ps',l',f+1,s3,t3,J.next hd,lf',by lia,rfl,rfl⟩
 ·have ffl:¬f*f<=l:=fun z=>cc (efl.mpr z);symm;refine EY (fun Z' H'=>∃ps':List Nat,An5 (Ax H H') (H' lp=some (.lst (ps'.map fun(p:Nat)=>V.int (p:Int)))) (o7 n ps') (ps'.length<=200000) (Z'=[some (.int (n:Int)),some (.ref lp),some (.int (l:Int)),some (.int (f:Int))])) ?_ ?_
  ·symm;refine CG (fun c2=>?_) (fun c2=>?_)
   ·symm;refine HW rfl t2 ?_;symm;refine Nt t2 (by rw[jp,sizeLine_eq];lia) ?_;refine⟨ps++[l],Cz hlp s2,?_,I.fin ffl (by lia),by simp;lia,rfl⟩;rw[Ah,yi];rfl
   ·symm;exact⟨ps,s2,t2,I.one (by lia),by lia,rfl⟩
  rintro Z' H2 ⟨ps',s3,t3,I',lf',rfl⟩;symm;exact q lp H2 ps' hlp s3 t3 I' lf'
theorem Uq:C0 2 "comes_again" ["turn","size"] (qZ K):=by
 refine co' ["turn","size"] Ub (fun h=>?_) fun nd H vs Q E hr h=>?_
 ·obtain⟨a,z,c,s,rfl,_⟩:=h;rfl
 obtain⟨a,z,c,s,rfl,hS,s0,sz,z1,q⟩:=h;refine⟨_,(Ad (Al (HN Bm (Ag Js (pxT 0) (pv 1)) (Ag GD (pxT 0) (Ae Dz (Aa (Ag DN (pxT 0) (pv 1)) Ab))) (Ao _)))),?_⟩;symm;refine An hS at1 ?_;symm;refine DQ (show (0:Int)<=(s:Int) by lia) ?_;symm;refine An hS at1 ?_;symm;refine An hS at0 ?_;symm;refine⟨_,rfl,by lia,by lia,?_⟩;symm;rw[zk,Gb,Ca,uD,show((z:Int)-(s:Int)).toNat=z-s by lia];exact q
theorem XM:C0 3 "least" ["turn"] (j8 K):=by
 refine co' ["turn","size","bits","prime"] ql (fun h=>?_) fun nd H vs Q E hr h=>?_
 ·obtain⟨a,n,b,rfl,_⟩:=h;rfl
 obtain⟨a,n,b,rfl,hS,n0,n1,hb,q⟩:=h;refine⟨_,(Ac (Ak 1 (pxT 0))
  (Ac (Ak 2 (pxT 0))
  (Ac (Ib PassesOwn.never rfl (Fx (Ae ZM (Aa (pxT 0) Ab))) (FJ (i:=3) nd rfl (by walk_at"o"))
   (Ad (FT PassesOwn.never (PW.pt (K6 (Aj Bm (Ag Bp (pv 1) (pv 3)) Af (Ao _)) (JD (Gh (Ae Uq (Aa (Az (Aa (pv 1) (Aa (pv 2) Ab))) (Aa (Ag Bs (pv 1) (pv 3)) Ab)))))))
   (Ac (Ak 1 (Ag Bs (pv 1) (pv 3)))
  (Ad (Ak 2 (Ag GD (pv 2) (Ae Dz (Aa (pv 1) Ab)))))))))
  (Ad (Al (Az (Aa (pv 1) (Aa (pv 2) Ab)))))))),?_⟩
 symm;refine An hS at0 ?_;symm;refine An hS at1 ?_;symm;walk_at"f";symm;refine An hS at0 ?_;symm;refine⟨n,rfl,n0,n1,fun lp H1 ps hlp s1 t1 PR hl=>?_⟩;refine⟨lp,rfl,⟨_,SqL.of t1⟩,J3 (xs:=ps.map fun(p:Nat)=>V.int (p:Int)) (fun i Z' H'=>Ax H1 H'/\Ex3 fun(z c:Nat) (v:Option V)=>An6 (0<z) (z∣n) (c<2^z) (Ez z c n b) (∀p∈ps.take i,Tight z c p) (Z'=[some (.ref a),some (.int (z:Int)),some (.int (c:Int)),v]))
  ⟨Ax.refl _,n,b,_,n0,Nat.dvd_refl n,hb,Ez.start hb,(by simp),rfl⟩ ?_ ?_ ?_⟩
 ·rintro i Z' H' _ ⟨s2,_⟩;exact SqL.of (s2 _ _ t1)
 ·rintro i x Z' H' hx ⟨s2,z,c,v,z0,zn,hc,st,ti,rfl⟩;rw[xc] at hx;obtain⟨p,hp,rfl⟩:=ja4.mp hx;obtain⟨p2,pn⟩:=PR.mem p (zh hp);symm;refine⟨fun m Z' H'=>Ax H1 H'/\∃z c:Nat,0<z/\z∣n/\c<2^z/\Ez z c n b/\(∀p∈ps.take i,Tight z c p)/\Z'=[some (.ref a),some (.int (z:Int)),some (.int (c:Int)),some (.int (p:Int))]/\z=m,⟨_,s2,z,c,z0,zn,hc,st,ti,rfl,rfl⟩,?_⟩;rintro m Z' H' ⟨s3,z,c,z0,zn,hc,st,ti,rfl,rfl⟩;have zl:=vc n0 zn;have leave:∀H4,Ax H1 H4->Tight z c p->Ax H1 H4/\∃(z' c':Nat) (v:Option V),0<z'/\z'∣n/\c'<2^z'/\Ez z' c' n b/\(∀p∈ps.take (i+1),Tight z' c' p)/\[some (V.ref a),some (.int (z:Int)),some (.int (c:Int)),some (.int (p:Int))]=[some (.ref a),some (.int (z':Int)),some (.int (c':Int)),v]:=
   fun H4 s4 t=>⟨s4,z,c,_,z0,zn,hc,st,fun r hr=>(take_snoc hp hr).elim (ti r) (fun e=>e ▸ t),rfl⟩
  symm;refine CG (fun c2=>?_) (fun c2=>?_)
  ·have hd:=fD.mp c2;have zp:=Nat.div_pos (vc z0 hd) (show 0<p by lia);have zpl:z/p<z:=Nat.div_lt_self z0 (by lia);have zpd:z/p∣z:=Nat.div_dvd_of_dvd hd;symm;refine⟨HH,fun pt hpt=>?_⟩;have s4:=s3.trans (Am hpt (.tup [V.int (z:Int),V.int (c:Int)]));have t4:upd H' pt (.tup [V.int (z:Int),V.int (c:Int)]) pt=some (.tup [V.int (z:Int),V.int (c:Int)]):=Ah;generalize upd H' pt (.tup [V.int (z:Int),V.int (c:Int)])=H4 at s4 t4 ⊢;symm;refine DQ (Fb (by lia) (by lia)) ?_;symm;rw[<-ji9];refine⟨pt,z,c,z/p,rfl,SqT.of t4,zp,by lia,by lia,?_⟩;symm;have ai:=jL hc zp zpd z0;refine CG (fun c3=>?_) (fun c3=>?_)
   ·have pr:=ai.mp c3;have st':=pr.strt hc z0;refine⟨_,fun Z' H' hh=>hh,?_⟩;symm;refine DQ (Fb (by lia) (by lia)) ?_;symm;rw[<-ji9];refine⟨_,rfl,by lia,by lia,?_⟩;symm;rw[Ca,zk];exact⟨z/p,zpl,s4,z/p,_,zp,Nat.dvd_trans zpd zn,GZ _ _,st'.comp st zpd z0,fun r hr=>(ti r hr).keep st' zpd zp z0 (by have:=(PR.mem r (List.mem_of_mem_take hr)).1;lia),rfl,rfl⟩
   ·obtain⟨l1,l2,l3,l4,l5,l6,l7,l8,l9,l10⟩:=leave H4 s4 fun z=>c3 (ai.mpr z.2);exact⟨l1,l2,l3,l4,l5,l6,l7,l8,l9,l10⟩
  ·symm;refine Ep ?_;obtain⟨l1,l2,l3,l4,l5,l6,l7,l8,l9,l10⟩:=leave H' s3 fun z=>c2 (fD.mpr z.1);exact⟨l1,l2,l3,l4,l5,l6,l7,l8,l9,l10⟩
 ·rintro Z' H' ⟨s2,z,c,v,z0,zn,hc,st,ti,rfl⟩;rw[jp,ja9] at ti;symm;refine⟨HH,fun p hp=>?_⟩;exact q p _ z c ((s1.trans s2).trans (Am hp _)) Ah (Lst.of PR n0 z0 zn hc st ti)
theorem ZW:C0 2 "folded" ["turn","size"] (kI K):=by
 refine co' ["turn","size","bits","shift"] lB (fun h=>?_) fun nd H vs Q E hr h=>?_
 ·obtain⟨a,n,z,b,rfl,_⟩:=h;rfl
 obtain⟨a,n,z,b,rfl,hS,n0,n1,hb,z0,hd,q⟩:=h;have zn:z<=n:=Int.le_of_dvd n0 hd;refine⟨_,(Ac (BR (Ae CJ (Aa (pv 1) Ab)))
  (Ac (Ay (Aj Ek (Ag Bp (pxT 0) (pv 1)) Af (Ao _))
   (Ad BX)
   Aq)
  (Ac (Ak 2 (pxT 0))
  (Ac (Ak 3 (pv 1))
  (Ac (FT PassesOwn.never (Aj GP (pv 3) (pxT 0) (Ao _))
   (Ac (Ak 2 (Ag U9 (pv 2) (Ag Js (pv 2) (pv 3))))
  (Ad (Ak 3 (Ag CW (pv 3) Af)))))
  (Ad (Al (Az (Aa (pv 1) (Aa (Ag GD (pv 2) (Ae Dz (Aa (pv 1) Ab))) Ab)))))))))),?_⟩
 symm;refine⟨z,rfl,by lia,?_⟩;symm;refine An hS at0 ?_;symm;rw[je0 hd];refine FN rfl ?_;symm;refine An hS at1 ?_;symm;refine⟨fun m Z' H'=>H'=H/\∃wd c:Nat,Z'=[some (.ref a),some (.int z),some (.int (c:Int)),some (.int ((wd*z.toNat:Nat):Int))]/\0<wd/\wd*z.toNat<=300000/\Fold z.toNat b wd c/\m=n.toNat-wd*z.toNat,
  ⟨_,rfl,1,b,?_,by lia,by lia,Fold.start _ _,rfl⟩,?_⟩
 ·have e:(((1*z.toNat:Nat)):Int)=z:=by lia
  rw[e];rfl
 rintro m Z' H' ⟨rfl,wd,c,rfl,w0,w1,F,rfl⟩;have wz:0<wd*z.toNat:=Nat.mul_pos w0 (by lia);symm;refine An hS at0 ?_;symm;refine CG (fun cc=>?_) (fun cc=>?_)
 ·refine⟨_,fun Z' H' hh=>hh,?_⟩;symm;refine DQ (show (0:Int)<=((wd*z.toNat:Nat):Int) by lia) ?_;symm;refine DQ ⟨64,64,by unfold Bt;lia,(by unfold Bt;decide),by decide⟩ ?_;symm;rw[zk,Gb,GX];have e2:wd*2*z.toNat=wd*z.toNat*2:=by rw[Nat.mul_right_comm]
  refine⟨n.toNat-wd*2*z.toNat,by lia,rfl,wd*2,c ||| (c >>> (wd*z.toNat)),?_,by lia,by lia,F.dbl,rfl⟩;rw[e2];rfl
 ·symm;refine⟨z,rfl,by lia,by lia,?_⟩;symm;rw[Ca];exact⟨HH,fun p hp=>q p _ hp ⟨GZ _ _,fun r hr=>F.done hb (by lia) (by lia) hr⟩⟩
theorem bZ:C0 3 "next_day" ["turn","day"] (wQ K):=by
 refine co' ["turn","day","bits"] aA (fun h=>?_) fun nd H vs Q E hr h=>?_
 ·obtain⟨a,n,d,b,rfl,_⟩:=h;rfl
 obtain⟨a,n,d,b,rfl,hS,h0,h1,hb,_,qN,q⟩:=h;refine⟨_,(Ac (Ak 2 (CT Ho (Ae HS (Aa (pv 0) (Aa (Gj El (pv 1)) Ab))) Af (fun _ _=>rfl)))
  (Ac (Ay (Aj Bm (pv 2) Af (Ao _))
   (Ad (Al Hm))
   Aq)
  (Ad (Al (Ag DN (Ag Bq (pv 1) (aV PySem.F.plainAttrs_int PySem.F.slot_int_bit_length PySem.F.type_int_bit_length Wt (Ag GD (pv 2) (Gj El (pv 2))))) Af))))),?_⟩
 symm;refine⟨a,n,-d,b,rfl,hS,h0,h1,hb,fun p hp=>?_⟩;have s1:=Am hp (.tup [.int n,.int ((lat n.toNat b ((-d)%n).toNat:Nat):Int)]);generalize hc:lat n.toNat b ((-d)%n).toNat=c at*
 have bit:∀i:Nat,i<n.toNat->c.testBit i=On n b ((i:Int)+d):=fun i hi=>by
  have:=bD (num:= -d) (d:=(i:Int)) h0 hb;rw[hc] at this;rw[show (i:Int)+d=(i:Int)- -d by lia,<-this];unfold On;rw[jc5 (by lia) (by lia),zk]
 have cl:c<2^n.toNat:=by rw[<-hc];exact JL _ _ _
 symm;refine An (SqT.of Ah) at1 ?_;symm;by_cases c0:c=0
 ·refine Hw (by rw[c0];rfl) ?_;symm;refine qN (fun e=>?_) _ s1;have e1:=qg (e-d) (show n≠0 by lia);have e2:=qc (e-d) h0;have:=bit ((e-d)%n).toNat (by lia);rw[c0,jb0,Jn e1] at this;rw[this];unfold On
  congr 2
  rw[Int.emod_add_emod]
  congr 1
  lia
 refine CN (fun z=>c0 (by injection z with z;lia)) ?_;symm;obtain⟨k,hk,hlow⟩:=mY c0;have kn:k<n.toNat:=by
  refine jd8 fun z=>?_;rw[high cl z] at hk;cases hk
 have la:=Wz k c hk hlow;have eb:Builtin.bitAnd (c:Int) (-(c:Int))=((2^k:Nat):Int):=by
  rw[Te c0];lia
 rw[eb,J2 (by have:=kx k;lia),Yl];symm;refine q _ _ s1 (by lia) ?_ (fun e he1 he2=>?_)
 ·have:=bit k kn;rw[hk] at this;rw[this]
  congr 1
  lia
 ·have:=bit (e-d).toNat (by lia);rw[hlow (e-d).toNat (by lia),Jn (by lia)] at this;rw[this]
  congr 1
  lia
theorem Sv:C0 3 "first_parted" ["one","other","day"] kJ:=by
 refine co' ["one","other","day","width","bits"] RJ (fun h=>?_) fun nd H vs Q E hr h=>?_
 ·obtain⟨a1,a2,n,b,m,c,d,rfl,_⟩:=h;rfl
 obtain⟨a1,a2,n,b,m,c,d,rfl,R1,R2,hne,q⟩:=h;refine⟨_,(Ac (Ak 3 (Ag DN (Ag Bq (pxT 0) (pxT 1)) (Ae Od (Aa (pxT 0) (Aa (pxT 1) Ab)))))
  (Ac (Ak 4 (Ag aX (Ae Ex (Aa (Ae HS (Aa (pv 0) (Aa (Gj El (pv 2)) Ab))) (Aa (pv 3) Ab))) (Ae Ex (Aa (Ae HS (Aa (pv 1) (Aa (Gj El (pv 2)) Ab))) (Aa (pv 3) Ab)))))
  (Ad (Al (Ag DN (Ag Bq (pv 2) (aV PySem.F.plainAttrs_int PySem.F.slot_int_bit_length PySem.F.type_int_bit_length Wt (Ag GD (pv 4) (Gj El (pv 4))))) Af))))),?_⟩
 have n0:=R1.1;have n1:=R1.2.1;have m0:=R2.1;have m1:=R2.2.1;symm;refine An R1.sq at0 ?_;symm;refine An R2.sq at0 ?_;symm;refine An R1.sq at0 ?_;symm;refine An R2.sq at0 ?_;symm;refine⟨_,_,rfl,Bh (by lia) (by lia) (by decide),Bh (by lia) (by lia) (by decide),fun H1 s1=>?_⟩;have eg:Int.gcd (n:Int) (m:Int)=Nat.gcd n m:=by rw[Int.gcd_eq_natAbs_gcd_natAbs,jf2,jf2]
 have g0:0<Nat.gcd n m:=jb9 m n0;have gl:=vc n0 (jc2 n m);have gl2:=vc m0 (jc7 n m);obtain⟨wd,hwd⟩:∃wd:Nat,wd=n+m-Nat.gcd n m:=⟨_,rfl⟩;have ew:(n:Int)+(m:Int)-(Int.gcd (n:Int) (m:Int):Int)=(wd:Int):=by rw[eg];lia
 have fin:∀(e:Int),d<=e->e<d+(wd:Int)->On (n:Int) b e≠On (m:Int) c e->(∀x,d<=x->x<e->On (n:Int) b x=On (m:Int) c x)->Prt n b m c d e:=fun e h1 h2 h3 h4=>⟨h1,by rw[ew];exact h2,h3,h4⟩;symm;rw[ew];clear ew;have S1:=R1.keep s1;have S2:=R2.keep s1;symm;refine⟨a1,_,-d,b,rfl,S1.sq,R1.n0,by lia,R1.lt,fun p1 hp1=>?_⟩;have l1:=JL (n:Int).toNat b ((-d)%(n:Int)).toNat;have o1:∀i:Nat,On (n:Int) (lat (n:Int).toNat b ((-d)%(n:Int)).toNat) (i:Int)=On (n:Int) b (d+(i:Int)):=fun i=>by
  rw[bD R1.n0 R1.lt]
  congr 1
  lia
 generalize lat (n:Int).toNat b ((-d)%(n:Int)).toNat=c1 at l1 o1 ⊢;have s2:=Am hp1 (.tup [.int (n:Int),.int (c1:Int)]);have t2:upd H1 p1 (.tup [.int (n:Int),.int (c1:Int)]) p1=some (.tup [.int (n:Int),.int (c1:Int)]):=Ah;generalize upd H1 p1 (.tup [.int (n:Int),.int (c1:Int)])=H2 at s2 t2 ⊢;symm;refine⟨p1,_,_,c1,rfl,SqT.of t2,R1.n0,by lia,l1,by lia,by lia,fun x1 X1=>?_⟩;symm;have S2':=S2.keep s2;refine⟨a2,_,-d,c,rfl,S2'.sq,R2.n0,by lia,R2.lt,fun p2 hp2=>?_⟩;have l2:=JL (m:Int).toNat c ((-d)%(m:Int)).toNat;have o2:∀i:Nat,On (m:Int) (lat (m:Int).toNat c ((-d)%(m:Int)).toNat) (i:Int)=On (m:Int) c (d+(i:Int)):=fun i=>by
  rw[bD R2.n0 R2.lt]
  congr 1
  lia
 generalize lat (m:Int).toNat c ((-d)%(m:Int)).toNat=c2 at l2 o2 ⊢;have s3:=Am hp2 (.tup [.int (m:Int),.int (c2:Int)]);have t3:upd H2 p2 (.tup [.int (m:Int),.int (c2:Int)]) p2=some (.tup [.int (m:Int),.int (c2:Int)]):=Ah;generalize upd H2 p2 (.tup [.int (m:Int),.int (c2:Int)])=H3 at s3 t3 ⊢;symm;refine⟨p2,_,_,c2,rfl,SqT.of t3,R2.n0,by lia,l2,by lia,by lia,fun x2 X2=>?_⟩;symm;rw[Lb];rw[zk] at X1 X2;have bit:∀i:Nat,i<wd->(x1 ^^^ x2).testBit i=(On (n:Int) b (d+(i:Int)) ^^ On (m:Int) c (d+(i:Int))):=fun i hi=>by
  rw[Nat.testBit_xor,X1.bit i hi,X2.bit i hi,<-o1,<-o2];unfold On;simp only[<-Qb,zk]
 have xl:x1 ^^^ x2<2^wd:=Nat.xor_lt_two_pow X1.lt X2.lt;generalize x1 ^^^ x2=x at bit xl ⊢;have x0:x≠0:=fun z=>hne (nP n0 m0 (d:=d) fun i hi=>by
  have:=bit i (by lia);rw[z,jb0] at this;revert this;cases On (n:Int) b (d+(i:Int))<;>cases On (m:Int) c (d+(i:Int))<;>simp)
 obtain⟨k,hk,hlow⟩:=mY x0;have kn:k<wd:=by
  refine jd8 fun z=>?_;rw[high xl z] at hk;cases hk
 have la:=Wz k x hk hlow;have eb:Builtin.bitAnd (x:Int) (-(x:Int))=((2^k:Nat):Int):=by
  rw[Te x0];lia
 rw[eb,J2 (by have:=kx k;lia),Yl];symm;refine q _ _ ((s1.trans s2).trans s3) (fin _ (by lia) (by lia) ?_ fun y h1 h2=>?_)
 ·have:=bit k kn;rw[hk] at this;intro z;rw[show d+((k+1:Nat):Int)-1=d+(k:Int) by lia] at z;rw[z] at this;simp at this
 ·have:=bit (y-d).toNat (by lia);rw[hlow (y-d).toNat (by lia),Jn (by lia),show d+(y-d)=y by lia] at this;revert this;cases On (n:Int) b y<;>cases On (m:Int) c y<;>simp
theorem zB:C0 4 "same" ["one","other","day"] wJ:=by
 refine co' ["one","other","day","turn"] s_same (fun h=>?_) fun nd H vs Q E hr h=>?_
 ·obtain⟨a1,a2,n,b,m,c,d,rfl,_⟩:=h;rfl
 obtain⟨a1,a2,n,b,m,c,d,rfl,R1,R2,q⟩:=h;refine⟨_,(Ac (Ak 3 (Ae XM (Aa (pv 0) Ab)))
  (Ac (Ay (Aj (yL hr.units0) (pv 3) (Ae XM (Aa (pv 1) Ab)) (Ao _))
   (Ad (Al (Az (Aa Ai (Aa (pv 3) Ab)))))
   Aq)
  (Ad (Al (Az (Aa Ai (Aa (Ae Sv (Aa (pv 0) (Aa (pv 1) (Aa (pv 2) Ab)))) Ab))))))),?_⟩
 have n0:=R1.1;have n1:=R1.2.1;have m0:=R2.1;have m1:=R2.2.1;symm;refine⟨a1,n,b,rfl,R1.sq,n0,by lia,R1.2.2.1,fun t1 H1 z x s1 h1 L1=>?_⟩;symm;refine⟨a2,m,c,rfl,(R2.keep s1).sq,m0,by lia,R2.2.2.1,fun t2 H2 z' x' s2 h2 L2=>?_⟩;symm;refine⟨t1,t2,_,_,rfl,rfl,SqT.of (s2 _ _ h1),SqT.of h2,rfl,rfl,?_⟩;by_cases e:z=z'/\x=x'
 ·obtain⟨rfl,rfl⟩:=e;rw[eq2 rfl];symm;refine FW ?_;symm;refine⟨HH,fun p hp=>?_⟩;exact q p _ ((s1.trans s2).trans (Am hp _)) (.same t1 z x Ah (Am hp _ _ _ (s2 _ _ h1)) L1 L2)
 ·have ne:Yu [V.int (z:Int),V.int (x:Int)] [V.int (z':Int),V.int (x':Int)]=false:=by
   show(((z:Int)==(z':Int))&&(((x:Int)==(x':Int))&&true))=false;rw[Bool.eq_false_iff];intro y;simp at y;exact e ⟨by lia,by lia⟩
  rw[ne];symm;refine Ep ?_;symm;refine⟨a1,a2,n,b,m,c,d,rfl,R1.keep (s1.trans s2),R2.keep (s1.trans s2),fun hh=>?_,fun r H3 s3 P=>?_⟩
  ·exact e (L1.same L2 fun y=>by rw[<-L1.on n0,<-L2.on m0];exact hh y)
  symm;refine⟨HH,fun p hp=>?_⟩;exact q p _ (((s1.trans s2).trans s3).trans (Am hp _)) (.parted r Ah P)
theorem Oc:C0 1 "first_of_pairs" ["one","other","day"] qJ:=co (st:=NZ) (by walk_at"g") (by walk_at"b") fun _=>⟨fun _ _ _ _ h=>h.elim,fun _ _ _ _ _ _ _ _ _ _ _ _ _ h=>h.elim⟩
theorem ZX:C0 6 "first_met" ["one","other","day"] wg:=by
 refine co' ["one","other","day","size"] YL (fun h=>?_) fun nd H vs Q E hr h=>?_
 ·obtain⟨a1,a2,n,b,m,c,d,rfl,_⟩:=h;rfl
 obtain⟨a1,a2,n,b,m,c,d,rfl,R1,R2,bd,hfew,hM,q⟩:=h;refine⟨_,(Ac (Ak 3 (Ae Mq (Aa (pxT 0) (Aa (pxT 1) Ab))))
  (Ac (Ay (Aj Ja (pv 3) (Bv rfl VF (Cj _ _)) (Ao _))
   (Ad (Al (Ae bZ (Aa (Ae JT (Aa (pv 0) (Aa (pv 1) Ab))) (Aa (pv 2) Ab)))))
   Aq)
  (Ac (Ay (Aj Fl (Ag CW (Ae Kh (Aa (pxT 0) Ab)) (Ae Kh (Aa (pxT 1) Ab))) (Bv rfl Wx (Cj _ _)) (Ao _))
   (Ad BX)
   Aq)
  (Ad (Al (Ae Oc (Aa (pv 0) (Aa (pv 1) (Aa (pv 2) Ab))))))))),?_⟩
 have n1:=R1.2.1;have m1:=R2.2.1;have n0:=R1.1;have m0:=R2.1;have fl:=Br R1.n0 R2.n0;symm;refine An R1.sq at0 ?_;symm;refine An R2.sq at0 ?_;symm;refine⟨_,_,rfl,R1.n0,R2.n0,Bh (by lia) (by lia) (by decide),Bh (by lia) (by lia) (by decide),fun H1 s1=>?_⟩;symm;refine CG (fun hl=>?_) (fun hl=>?_)
 ·symm;refine⟨a1,a2,_,_,b,c,rfl,⟨(R1.keep s1).sq,(R2.keep s1).sq,R1.n0,R2.n0,by lia,by lia,R1.lt,R2.lt⟩,hl,fun p x H2 s2 hp _ B=>?_⟩;have on:=fun e=>B.on R1.n0 R2.n0 fl.1 fl.2.1 fl.2.2.1 e;symm;refine⟨p,_,d,x,rfl,SqT.of hp,fl.1,hl,B.lt,bd,fun none H3 s3=>?_,fun r H3 s3 r1 r2 r3=>?_⟩
  ·exfalso;obtain⟨y,o1,o2⟩:=hM.day n0 m0;have:=on y;rw[none y,o1,o2] at this;cases this
  ·have e1:=on r;rw[r2] at e1;have e2:On (n:Int) b r=true/\On (m:Int) c r=true:=by
    revert e1;cases On (n:Int) b r<;>cases On (m:Int) c r<;>simp
   have no:∀y,d<=y->y<r->¬(On (n:Int) b y=true/\On (m:Int) c y=true):=fun y h1 h2 ⟨o1,o2⟩=>by
    have:=on y;rw[r3 y h1 h2,o1,o2] at this;cases this
   refine q r _ ((s1.trans s2).trans s3) ⟨r1,?_,e2.1,e2.2,no⟩;obtain⟨y,h1,h2,h3,h4⟩:=jK (d:=d) n0 m0 e2.1 e2.2;refine Int.lt_of_not_ge fun z=>?_;exact no y h1 (by lia) ⟨h3,h4⟩
 ·exact absurd hfew hl
theorem Sq:C0 7 "paper_of" ["words","one","other","day"] fU:=by
 refine co' ["words","one","other","day","size","bits","other_bits"] Z9 (fun h=>?_) fun nd H vs Q E hr h=>?_
 ·obtain⟨aw,a1,a2,w0,w1,n,b,m,c,d,rfl,_⟩:=h;rfl
 obtain⟨aw,a1,a2,w0,w1,n,b,m,c,d,rfl,hw,R1,R2,bd,hfew,q⟩:=h;refine⟨_,(Ac (Ak 4 (Ae Od (Aa (pxT 1) (Aa (pxT 2) Ab))))
  (Ac (Ak 5 (CT Ho (Ae ZW (Aa (pv 1) (Aa (pv 4) Ab))) Af (fun _ _=>rfl)))
  (Ac (Ak 6 (CT Ho (Ae ZW (Aa (pv 2) (Aa (pv 4) Ab))) Af (fun _ _=>rfl)))
  (Ac (Ay (Aj Bm (Ag GD (pv 5) (pv 6)) Af (Ao _))
   (Ad (Al (Az (Aa (pxT 0) (Aa (pv 4) (Aa (pv 5) (Aa (pv 6) Ab)))))))
   Aq)
  (Ad (Al (Az (Aa (pxT 0) (Aa (Ae ZX (Aa (pv 1) (Aa (pv 2) (Aa (pv 3) Ab)))) Ab))))))))),?_⟩
 have n1:=R1.2.1;have m1:=R2.2.1;have n0:=R1.1;have m0:=R2.1;have g0:0<Nat.gcd n m:=jb9 m n0;have eg:Int.gcd (n:Int) (m:Int)=Nat.gcd n m:=by rw[Int.gcd_eq_natAbs_gcd_natAbs,jf2,jf2]
 symm;refine An R1.sq at0 ?_;symm;refine An R2.sq at0 ?_;symm;refine⟨_,_,rfl,Bh (by lia) (by lia) (by decide),Bh (by lia) (by lia) (by decide),fun H1 s1=>?_⟩;rw[eg];symm;refine⟨a1,_,_,b,rfl,(R1.keep s1).sq,R1.n0,by lia,R1.lt,by lia,Zp.mpr (jc2 n m),fun p1 x hp1 F1=>?_⟩;have X1:=F1.rst g0;have s2:=Am hp1 (.tup [.int ((Nat.gcd n m:Nat):Int),.int (x:Int)]);have t2:upd H1 p1 (.tup [.int ((Nat.gcd n m:Nat):Int),.int (x:Int)]) p1=some (.tup [.int ((Nat.gcd n m:Nat):Int),.int (x:Int)]):=Ah;generalize upd H1 p1 (.tup [.int ((Nat.gcd n m:Nat):Int),.int (x:Int)])=H2 at s2 t2 ⊢;symm;refine An (SqT.of t2) at1 ?_;symm;refine⟨a2,_,_,c,rfl,(R2.keep (s1.trans s2)).sq,R2.n0,by lia,R2.lt,by lia,Zp.mpr (jc7 n m),fun p2 y hp2 F2=>?_⟩;have X2:=F2.rst g0;have s3:=Am hp2 (.tup [.int ((Nat.gcd n m:Nat):Int),.int (y:Int)]);have t3:upd H2 p2 (.tup [.int ((Nat.gcd n m:Nat):Int),.int (y:Int)]) p2=some (.tup [.int ((Nat.gcd n m:Nat):Int),.int (y:Int)]):=Ah;generalize upd H2 p2 (.tup [.int ((Nat.gcd n m:Nat):Int),.int (y:Int)])=H3 at s3 t3 ⊢;have s4:=(s1.trans s2).trans s3;symm;refine An (SqT.of t3) at1 ?_;symm;rw[Ca,oF];refine CG (fun e=>?_) (fun e=>?_)
 ·symm;refine An (SqT.of (s4 _ _ hw)) at0 ?_;symm;refine⟨four,fun p hp=>?_⟩;exact q p _ (s4.trans (Am hp _)) (.never x y Ah X1 X2 e ((Rst.meets n0 m0 X1 X2).mp e))
 ·have hM:Meets n b m c:=Classical.not_not.mp fun z=>e ((Rst.meets n0 m0 X1 X2).mpr z);symm;refine An (SqT.of (s4 _ _ hw)) at1 ?_;symm;refine⟨a1,a2,n,b,m,c,d,rfl,R1.keep s4,R2.keep s4,bd,hfew hM,hM,fun r H4 s5 F=>?_⟩;symm;refine⟨HH,fun p hp=>?_⟩;exact q p _ ((s4.trans s5).trans (Am hp _)) (.meet r Ah F hM)
theorem jG:C0 8 "meeting" ["one","other","day"] fV:=by
 refine co' ["one","other","day"] gD (fun h=>?_) fun nd H vs Q E hr h=>?_
 ·obtain⟨a1,a2,n,b,m,c,d,rfl,_⟩:=h;rfl
 obtain⟨a1,a2,n,b,m,c,d,rfl,R1,R2,bd,hfew,q⟩:=h;refine⟨_,(Ad (Al (Ae Sq (Aa (Az (Aa Ai (Aa Ai Ab))) (Aa (pv 0) (Aa (pv 1) (Aa (pv 2) Ab))))))),?_⟩;symm;refine⟨HH,fun pw hpw=>?_⟩;have s1:=Am hpw (.tup [.str "never",.str "meet"]);symm;exact⟨pw,a1,a2,"never","meet",n,b,m,c,d,rfl,Ah,R1.keep s1,R2.keep s1,bd,hfew,fun p H' s2 M=>q p H' (s1.trans s2) M⟩
theorem oR:C0 8 "within" ["one","other","day"] fK:=by
 refine co' ["one","other","day"] kj (fun h=>?_) fun nd H vs Q E hr h=>?_
 ·obtain⟨a1,a2,n,b,m,c,d,rfl,_⟩:=h;rfl
 obtain⟨a1,a2,n,b,m,c,d,rfl,R1,R2,bd,hfew,q⟩:=h;refine⟨_,(Ad (Al (Ae Sq (Aa (Az (Aa Ai (Aa Ai Ab))) (Aa (pv 0) (Aa (Ae HR (Aa (pv 1) Ab)) (Aa (pv 2) Ab))))))),?_⟩;have m1:=R2.2.1;symm;refine⟨HH,fun pw hpw=>?_⟩;have s1:=Am hpw (.tup [.str "within",.str "outside"]);have t1:upd H pw (.tup [.str "within",.str "outside"]) pw=some (.tup [.str "within",.str "outside"]):=Ah;generalize upd H pw (.tup [.str "within",.str "outside"])=H1 at s1 t1 ⊢;symm;refine⟨a2,_,c,rfl,(R2.keep s1).sq,R2.n0,by lia,R2.lt,fun po co hpo lo bo=>?_⟩;rw[zk] at lo bo;have s2:=Am hpo (.tup [.int (m:Int),.int (co:Int)]);have Ro:Rnd 150000 (upd H1 po (.tup [.int (m:Int),.int (co:Int)])) po m co:=Rnd.new R2.1 m1 lo;have C:Cmp m c co:=⟨lo,bo⟩;symm;exact⟨pw,a1,po,"within","outside",n,b,m,co,d,rfl,s2 _ _ t1,R1.keep (s1.trans s2),Ro,bd,hfew co C,fun p H' s3 M=>q p co H' ((s1.trans s2).trans s3) C M⟩
theorem Gy:C0 2 "read_number" ["text"] j4:=by
 refine co' ["text"] UJ (fun h=>?_) fun nd H vs Q E hr h=>?_
 ·obtain⟨i,rfl,_⟩:=h;rfl
 obtain⟨i,rfl,hi,q⟩:=h;have N:=Hn hi;have tk:=sJ hi;refine⟨_,(Ac (Ay (PW.pt (IK (JF (Gh (BJ SN rfl Ir PyProof.Rows.boot_isinstance (Aa (pv 0) (Aa (Wh rfl Dp qo (aL _)) Ab))))) (Gg (JF (Gh (Ae J8 (Aa (pv 0) Ab)))))))
  (Ad BX)
  Aq)
  (Ad (Al (BZ Ig rfl jR PyProof.Rows.boot_int (Aa (pv 0) Ab))))),?_⟩
 symm;refine aN (.txt _ tk) ?_;symm;refine Ep ?_;symm;refine⟨_,rfl,tk,fun b H1 s1 hb=>?_⟩;have eb:b=true:=hb.mpr (by rw[Bg];exact N.1);subst eb;symm;refine Ep ?_;symm;have r:=OD (z:=sW (nW i)) (by rw[Bg];exact N.1);rw[Bg,N.2] at r;refine⟨_,_,rfl,?_,r,q _ s1⟩;have:=Df hi;rw[Cr];exact zv this (by decide)
theorem J7:C0 3 "read_numbers" ["word"] fQ:=by
 refine co' ["word"] Q9 (fun h=>?_) fun nd H vs Q E hr h=>?_
 ·obtain⟨ns,rfl,_⟩:=h;rfl
 obtain⟨ns,rfl,hn,nl,sm,q⟩:=h;have sp:=aa hn sm;have jl:=Mf sm;refine⟨_,(Ad (Al (Ff rfl (GJ ["word"] rfl (by ac_rfl) rfl (by ac_rfl) rfl (by ac_rfl) (by ac_rfl)) (Fx (GK ku je6 je7 Mh (pv 0) (Aa Ai Ab))) (fun _ _ _ _=>Dr) (fun _ _ _ _=>(Ae Gy (Aa (pv 0) Ab)))))),?_⟩;symm;refine Em (Jp ?_);symm;refine Oz ?_;symm;refine⟨rfl,?_⟩;symm;refine⟨_,44,rfl,by rw[show Str.ofString ","=⟨#[44]⟩ from by ac_rfl],by decide,by rw[Cr];lia,fun l hl=>?_⟩;rw[sp];refine fresh hl fun H1 s1 t1=>?_;refine⟨l,rfl,⟨_,SqL.of t1⟩,?_⟩;refine Hr K1 (by rw[jp];exact Eu (by lia)) (fun D i ys H2=>H2 D=some (.lst ys)/\Ax H1 H2/\ys=(ns.take i).map V.int) (fun D hD=>⟨Ah,Am hD _,rfl⟩)
  (fun D i ys H2 _ ⟨h1,h2,h3⟩=>⟨h1,by rw[h3,jp];exact List.length_take_le _ _,SqL.of (h2 _ _ t1)⟩) (fun D i x ys H2 hD hx ⟨h1,h2,h3⟩=>?_) (fun D ys H2 hD ⟨h1,h2,h3⟩=>?_)
 ·rw[xc] at hx;obtain⟨n,hn,rfl⟩:=ja4.mp hx;refine Iz (FW ?_);symm;refine⟨n,rfl,sm n (zh hn),fun H3 s3=>⟨s3 _ _ h1,Ah,Cz hD (h2.trans s3),?_⟩⟩;rw[ja0,hn,jf5,yi,h3];rfl
 ·rw[jp,ja9] at h3;subst h3;exact q D H2 (s1.free hD) (s1.trans h2) h1
theorem ZG:C0 4 "read_term" ["word"] jy:=by
 refine co' ["word","numbers","sign"] X5 (fun h=>?_) fun nd H vs Q E hr h=>?_
 ·obtain⟨a,b,rfl,_⟩:=h;rfl
 obtain⟨a,b,rfl,sm,q⟩:=h;have jl:=Mf sm;have tl:(tmW a b).length<=200:=by show _+1<=_;simp only[qq,jg3] at jl;lia
 have l0:1<=(sW (tmW a b)).length:=by rw[Cr];show 1<=_+1;lia
 have eP:Str.ofString "+"=sW [43]:=by ac_rfl
 have e1:Txt.slice (sW (tmW a b)) none (some 1)=Str.ofString "+":=by rw[eP];exact Gw (by rw[fZ,Bg,Bg];rfl)
 have e2:Txt.slice (sW (tmW a b)) (some 1) none=sW (Gn 44 ([a,b,2].map nW)):=Gw (by rw[Ow l0,Bg,Bg];rfl);have fit:(sW (tmW a b)).length<=sizeLine:=by rw[Cr];exact zv tl (by decide)
 refine⟨_,(Ac (Ay (PW.pt (K6 (Aj Ek (Ej NK (pv 0) Fe (Fd Af)) Ai (Ao _)) (JD (Aj Ek (Ej NK (pv 0) Fe (Fd Af)) Ai (Ao _)))))
  (Ad BX)
  Aq)
  (Ac (Ak 1 (Ae J7 (Aa (Ej NK (pv 0) (Fd Af) Fe) Ab)))
  (Ac (Ay (Aj Ek (BJ BK rfl Cq xa (Aa (pv 1) Ab)) Af (Ao _))
   (Ad BX)
   Aq)
  (Ac (Ak 2 (Ds (Aj Bm (CT m9 (pv 0) Af) Ai (Ao _)) Af (Gj El Af)))
  (Ad (Al (Az (Aa (pv 2) (Aa (pxL 1) (Aa (pxL 1) (Aa (pxL 1) Ab))))))))))),?_⟩
 symm;refine⟨_,rfl,fit,?_⟩;rw[e1];symm;refine FN rfl ?_;refine Ep ?_;symm;refine⟨_,rfl,fit,?_⟩;rw[e2];refine Ge ?_;refine⟨[a,b,2],rfl,(fun z=>nomatch z),(by show 3<=3;decide),sm,fun l H1 hl u1 t1=>?_⟩;symm;refine⟨l,_,rfl,.inl (SqL.of t1),?_⟩;symm;refine FN rfl ?_;symm
 try refine JC ?_
 symm;refine⟨_,0,43,rfl,rfl,fit,(by show atI (cpl (sW (tmW a b))) 0=some 43;rw[Bg];exact DX (j:=0) rfl),?_⟩;symm;refine Hw (by rw[eP];rfl) ?_;symm;refine Bc (SqL.of t1) Ed ?_;symm;refine Bc (SqL.of t1) G9 ?_;symm;refine Bc (SqL.of t1) KJ ?_;symm;refine⟨(by show 4<=sizeLine;decide),fun p hp=>?_⟩;exact q p _ (u1.trans (Am hp _)) Ah
theorem XJ:C0 5 "read_terms" ["words"] fP:=by
 refine co' ["words"] V9 (fun h=>?_) fun nd H vs Q E hr h=>?_
 ·obtain⟨l,a,b,rfl,_⟩:=h;rfl
 obtain⟨l,a,b,rfl,hl,sm,q⟩:=h;refine⟨_,(Ad (Al (Ff rfl (GJ ["words"] rfl (by ac_rfl) rfl (by ac_rfl) rfl (by ac_rfl) (by ac_rfl)) (Fx (pv 0)) (fun _ _ _ _=>Dr) (fun _ _ _ _=>(Ae ZG (Aa (pv 0) Ab)))))),?_⟩;symm;refine Em (Jp ?_);symm;refine⟨l,rfl,⟨_,SqL.of hl⟩,?_⟩;refine Hr K1 (Eu (by show 1<=1000;decide)) (fun D i ys H2=>H2 D=some (.lst ys)/\Ax H H2/\ys.length<=i/\(i=1->∃p,ys=[.ref p]/\H2 p=some (.tup (tmV (1,a,b,2))))) (fun D hD=>⟨Ah,Am hD _,qh _,fun z=>nomatch z⟩)
  (fun D i ys H2 _ ⟨h1,h2,h3,_⟩=>⟨h1,h3,SqL.of (h2 _ _ hl)⟩) (fun D i x ys H2 hD hx ⟨h1,h2,h3,_⟩=>?_) (fun D ys H2 hD ⟨h1,h2,h3,h4⟩=>?_)
 ·obtain rfl:i=0:=by
   have:=(xb.mp hx).1;simpa [wvS] using this
  obtain rfl:V.str (sW (tmW a b))=x:=by simpa [wvS] using hx
  obtain rfl:ys=[]:=jb7.mp (Nat.le_zero.mp h3);refine Iz (FW ?_);symm;refine⟨a,b,rfl,sm,fun p H3 s3 hp=>⟨s3 _ _ h1,Ah,Cz hD (h2.trans s3),qh _,fun _=>⟨p,rfl,?_⟩⟩⟩;rw[Aw fun z=>by rw[z,s3 _ _ h1] at hp;cases hp];exact hp
 ·obtain⟨p,rfl,hp⟩:=h4 rfl;exact q D p H2 h2 h1 hp
theorem bY:C0 9 "read_sun" ["words"] (jz K Bk Av):=by
 refine co' ["words","start","lengths","leap"] Z8 (fun h=>?_) fun nd H vs Q E hr h=>?_
 ·obtain⟨l,s',f',g,a,b,rfl,_⟩:=h;rfl
 obtain⟨l,s',f',g,a,b,rfl,hl,o,q⟩:=h;refine⟨_,(Ac (Ay (Aj GP (BJ BK rfl Cq xa (Aa (pv 0) Ab)) Af (Ao _))
  (Ad BX)
  Aq)
  (Ac (Ak 1 (Ae Gy (Aa (pxL 0) Ab)))
  (Ac (Ak 2 (Ae J7 (Aa (pxL 0) Ab)))
  (Ac (Ay (Aj Bm (BJ BK rfl Cq xa (Aa (pv 0) Ab)) Af (Ao _))
   (Ad (Al (yJ Mt (hr.mono (by decide)) rfl (Aa (pv 1) (Aa (pv 2) Ab)))))
   Aq)
  (Ac (Ay (PW.pt (IK (Aj Ek (pxL 0) Ai (Ao _)) (Gg (Aj GP (BJ BK rfl Cq xa (Aa (pv 0) Ab)) Af (Ao _)))))
   (Ad BX)
   Aq)
  (Ac (Ak 3 (Ae Gy (Aa (pxL 0) Ab)))
  (Ad (Al (Gm S9 (Aa (pv 1) (Aa (pv 2) (Aa (pv 3) (Aa (Ae XJ (Aa (Ej Iv (pv 0) (Fd Af) Fe) Ab)) Ab))))))))))))),?_⟩
 symm;refine⟨l,_,rfl,.inl (SqL.of hl),?_⟩;symm;refine CN (by show ¬(5:Int)<2;decide) ?_;symm;refine Bc (SqL.of hl) Ed ?_;refine Ge ?_;refine⟨s',rfl,o.s,fun H1 s1=>?_⟩;have h1:=s1 _ _ hl;symm;refine Bc (SqL.of h1) G9 ?_;refine Ge ?_;refine⟨[f',g],rfl,(fun z=>nomatch z),(by show 2<=3;decide),o.t2,fun l2 H2 hl2 s2 t2=>?_⟩;have h2:=s2 _ _ h1;symm;refine⟨l,_,rfl,.inl (SqL.of h2),?_⟩;symm;refine CN (fun z=>nomatch V.int.inj z) ?_;symm;refine Bc (SqL.of h2) KJ ?_;symm;refine FN (HX _) ?_;symm;refine⟨l,_,rfl,.inl (SqL.of h2),?_⟩;symm;refine CN (by show ¬(5:Int)<5;decide) ?_;symm;refine Bc (SqL.of h2) uQ ?_;refine Ge ?_;refine⟨2,rfl,sm1 (by decide) (by decide),fun H3 s3=>?_⟩;have h3:=s3 _ _ h2;symm;refine Np (SqL.of h3) fun u hu=>?_;rw[show J5 (wvS (Vu s' f' g a b)) (some 4) none=wvS [tmW a b] from Kc _ 4];refine fresh hu fun H4 s4 t4=>?_;refine Ge ?_;refine⟨u,a,b,rfl,t4,o.t3,fun l5 p H5 s5 t5 hp=>?_⟩;symm;refine fun x dx hx hdx ne=>nF hx hdx ne (s5 _ _ (s4 _ _ (s3 _ _ t2))) (.cons hp .nil) (.inr ⟨l5,rfl,t5⟩) o.gd (Nat.lt_trans o.s (by decide)) fun H6 s6 S6=>⟨rfl,?_⟩;exact q x _ ((s1.trans s2).trans ((s3.trans s4).trans (s5.trans s6))) (o.cal S6)
theorem ZK:C0 1 "read_moon" ["words"] qJ:=co (st:=X7) (by walk_at"g") (by walk_at"b") fun _=>⟨fun _ _ _ _ h=>h.elim,fun _ _ _ _ _ _ _ _ _ _ _ _ _ h=>h.elim⟩
theorem QT:C0 10 "read_calendar" ["text"] (j5 K Bk Av):=by
 refine co' ["text","words"] Pz (fun h=>?_) fun nd H vs Q E hr h=>?_
 ·obtain⟨s',f',g,a,b,rfl,_⟩:=h;rfl
 obtain⟨s',f',g,a,b,rfl,o,q⟩:=h;obtain⟨sp,tl,tk⟩:=o.tx;refine⟨_,(Ac (Ay (JF (Gh (Ae Kw (Aa (pv 0) Ab))))
  (Ad BX)
  Aq)
  (Ac (Ak 1 (GK ku je6 je7 Mh (pv 0) (Aa Ai Ab)))
  (Ac (Ay (Aj Bm (pxL 1) Ai (Ao _))
   (Ad (Al (Ae bY (Aa (Ej Iv (pv 1) (Fd Af) Fe) Ab))))
   Aq)
  (Ac (Ay (Aj Bm (pxL 1) Ai (Ao _))
   (Ad (Al (Ae ZK (Aa (Ej Iv (pv 1) (Fd Af) Fe) Ab))))
   Aq)
  (Ad BX))))),?_⟩
 symm;refine⟨_,rfl,tk,by rw[Cr];lia,?_⟩;symm;refine Ep ?_;symm;refine Oz ?_;symm;refine⟨rfl,?_⟩;symm;refine⟨_,32,rfl,by rw[show Str.ofString " "=⟨#[32]⟩ from by ac_rfl],by decide,tk.len,fun l hl=>?_⟩;refine fresh hl fun H1 s1 t1=>?_;have t1:H1 l=some (.lst (wvS (Sd s' f' g a b))):=by rw[t1,Z2,Bg,sp,vi];rfl
 symm;refine Bc (SqL.of t1) Ed ?_;symm;refine Hw (HX _) ?_;symm;refine Np (SqL.of t1) fun u hu=>?_;rw[show J5 (wvS (Sd s' f' g a b)) (some 1) none=wvS (Vu s' f' g a b) from Kc _ 1];refine Ge ?_;exact⟨u,s',f',g,a,b,rfl,Ah,o,fun x H3 s3 C=>q x _ ((s1.trans (Am hu _)).trans s3) C⟩
theorem Sh:C0 1 "words_of_row" ["row"] wK:=by
 refine co' ["row","words","form","wanted"] Q8 (fun h=>?_) fun nd H vs Q E hr h=>?_
 ·obtain⟨R,rfl,_⟩:=h;rfl
 obtain⟨R,rfl,ok,q⟩:=h;have tok:=R.tok ok;obtain⟨rs,eh⟩:=R.head;have e32:Str.ofString " "=⟨#[32]⟩:=by ac_rfl
 refine⟨_,(Ac (Ay (JF (Gh (BJ SN rfl Ir PyProof.Rows.boot_isinstance (Aa (pv 0) (Aa (Wh rfl Dp qo (aL _)) Ab)))))
  (Ad BX)
  Aq)
  (Ac (Ak 1 (GK ku je6 je7 Mh (pv 0) (Aa Ai Ab)))
  (Ac (Ay (Wa (aW (pxL 1) (Bv rfl Fy.m (Gx _))))
   (Ad BX)
   Aq)
  (Ac (Ak 2 (RZ (Bv rfl Fy.m (Gx _)) (pxL 1) (fun _ _=>rfl)))
  (Ac (Ei (Ay (Aj Bm (CT Ho (pv 2) (Gj El Af) (fun _ _=>rfl)) Ai (Ao _))
   (Ad (Ak 1 (GK ku je6 je7 gj (pv 0) (Aa Ai (Aa (BJ BK rfl Cq xa (Aa (pv 2) Ab)) Ab)))))
   Aq))
  (Ac (Ak 3 (Ag Bq (BJ BK rfl Cq xa (Aa (pv 2) Ab)) Af))
  (Ac (Ay (PW.pt (IK (Aj GP (BJ BK rfl Cq xa (Aa (pv 1) Ab)) (pv 3) (Ao _)) (Gg (PW.pt (K6 (Aj Fl (BJ BK rfl Cq xa (Aa (pv 1) Ab)) (pv 3) (Ao _)) (JD (Aj Ek (pxL 1) Ai (Ao _))))))))
   (Ad BX)
   Aq)
  (Ad (Al (pv 1)))))))))),?_⟩
 symm;refine aN (.txt _ tok) ?_;symm;refine Ep ?_;symm;refine Oz ?_;symm;refine⟨rfl,?_⟩;symm;refine⟨_,32,rfl,by rw[e32],by decide,tok.len,fun l hl=>?_⟩;refine fresh hl fun H1 s1 t1=>?_;rw[Z2,Bg,eh,xk,xk,Jo] at t1;symm;unfold cN;symm;refine Bc (SqL.of t1) Ed ?_;symm;refine⟨_,_,.inr R.hd,rfl,Fy.d,rfl,?_⟩;rw[Rn];refine⟨_,rfl,Ep ?_⟩;symm;unfold Z1;symm;refine Bc (SqL.of t1) Ed ?_;symm;refine⟨_,_,.inr R.hd,_,rfl,Fy.d,rfl,Rn _ R,?_⟩;symm;refine EY (fun Z' H'=>Ax H H'/\∃l',An3 (H l'=none) (Z'=[some (.str (sW R.T)),some (.ref l'),some (.ref (Ym R.fi)),none]) (H' l'=some (.lst (.str R.hd::wkV R.ws)))) ?_ ?_
 ·symm;rcases R.kind ok with ⟨nm,w,hn,ew⟩ | ⟨e1,z,hz,e2⟩
  ·have fs:=Fy.s R;rw[ew] at fs;refine An (fs _) (show _=some (V.str "TEXT") from rfl) ?_;symm;refine Hw rfl ?_;symm;refine Oz ?_;symm;refine⟨rfl,?_⟩;symm;refine⟨_,_,rfl,.inr (fs _),?_⟩;symm;refine⟨_,32,cpl R.hd,nm,w,rfl,by rw[e32];rfl,by decide,?_,fun y=>((W5 R).1 32 y).2 rfl,fun y=>by have:=(HB.wc hn).2 32 y;unfold wch at this;lia,tok.len,fun l2 h2=>fresh h2 fun H2 s2 t2=>?_⟩
   ·show cpl (sW R.T)=_;rw[Bg];unfold Row.T;rw[ew];rfl
   symm;refine⟨s1.trans s2,l2,s1.free h2,rfl,?_⟩;rw[t2,ew];exact xo (fun z=>some (HO.lst (V.str z::_))) (Jo R.hd)
  ·refine An (Fy.s R _) e2 ?_;symm;refine CN (fun y=>hz (V.str.inj y)) ?_;symm;refine⟨s1,l,hl,rfl,?_⟩;rw[eh] at e1;rw[t1,(List.cons.inj e1).2];unfold wkV;rw[vi,vi];rfl
 rintro Z' H2 ⟨s2,l',hl',rfl,t2⟩;have ln:((V.str R.hd::wkV R.ws).length:Int)=((R.ws.map fun w=>V.str w.k).length:Int)+1:=by unfold wkV;rw[qq,jp,jp];lia
 symm;refine⟨_,_,rfl,.inr (Fy.s R _),?_⟩;symm;refine⟨_,_,rfl,.inl (SqL.of t2),?_⟩;symm;rw[ln];refine CN (by lia) ?_;symm;refine⟨_,_,rfl,.inl (SqL.of t2),?_⟩;symm;rw[ln];refine CN (by lia) ?_;refine Ep ?_;symm;exact q l' H2 hl' s2 t2
theorem Vf:C0 1 "kept_by" ["kept","name"] wW:=by
 refine co' ["kept","name"] gF (fun h=>?_) fun nd H vs Q E hr h=>?_
 ·obtain⟨a,kv,nm,v,rfl,_⟩:=h;rfl
 obtain⟨a,kv,nm,v,rfl,ha,hv,q⟩:=h;have dg:Qf H a (.str (sW nm)) (some v):=by rw[<-hv];exact Qf.k (k:=.inr (sW nm)) ha
 refine⟨_,(Ac (Ay (Wa (U8 (dh hr) (pv 1) (pv 0)))
  (Ad BX)
  Aq)
  (Ad (Al (dH (dh hr) (pv 0) (pv 1) (fun _ _=>rfl))))),?_⟩
 symm;unfold Vt;symm;refine⟨a,_,rfl,dg,?_⟩;refine⟨_,rfl,?_⟩;refine Ep ?_;symm;unfold jh;symm;exact⟨a,v,rfl,dg,q⟩
theorem ZL:C0 1 "read_date" ["text"] qJ:=co (st:=X8) (by walk_at"g") (by walk_at"b") fun _=>⟨fun _ _ _ _ h=>h.elim,fun _ _ _ _ _ _ _ _ _ _ _ _ _ h=>h.elim⟩
theorem ZV:C0 3 "looked_up" ["desk","kind","word"] (wU Ey):=by
 refine co' ["desk","kind","word"] YG (fun h=>?_) fun nd H vs Q E hr h=>?_
 ·obtain⟨x,kv,k,rfl,_⟩:=h;rfl
 obtain⟨x,kv,k,rfl,ok,⟨dx,a,r,hx,hr'⟩,hn,q⟩:=h;have ne:∀{a b:String},decide (Str.ofString a=Str.ofString b)=false->V.str (Str.ofString a)≠V.str (Str.ofString b):=fun h z=>of_decide_eq_false h (V.str.inj z);refine⟨_,(Ac (Ay (PW.pt (K6 (Aj Bm (pv 1) Ai (Ao _)) (JD (JF (Gh (Ae Vg (Aa (pv 2) Ab)))))))
  (Ad BX)
  Aq)
  (Ac (Ay (Aj Bm (pv 1) Ai (Ao _))
   (Ad (Al (Ae Vf (Aa (By (pv 0) (by rfl)) (Aa (pv 2) Ab)))))
   Aq)
  (Ac (Ay (Aj Bm (pv 1) Ai (Ao _))
   (Ad (Al (Ae Vf (Aa (By (pv 0) (by rfl)) (Aa (pv 2) Ab)))))
   Aq)
  (Ac (Ay (Aj Bm (pv 1) Ai (Ao _))
   (Ad (Al (Ae Gy (Aa (pv 2) Ab))))
   Aq)
  (Ac (Ay (Aj Bm (pv 1) Ai (Ao _))
   (Ad (Al (Ae ZL (Aa (pv 2) Ab))))
   Aq)
  (Ad (Al (pv 2)))))))),?_⟩
 symm;cases k with
 | nm n=>
  refine Hw rfl ?_;symm;refine⟨_,rfl,⟨Fi.mpr (by rw[Bg];exact(Wk.box ok).1),by rw[Cr];have:=(Wk.box ok).2.1;lia⟩,fun v H1 s1 hv=>?_⟩;rw[hv.mpr (by rw[Bg];exact ok)];refine⟨_,rfl,Ep ?_⟩;symm;refine CN (ne (by ac_rfl)) ?_;symm;refine CN (ne (by ac_rfl)) ?_;symm;refine CN (ne (by ac_rfl)) ?_;symm;refine CN (ne (by ac_rfl)) ?_;symm;exact q _ _ s1 rfl
 | tx d=>
  refine CN (ne (by ac_rfl)) ?_;refine Ep ?_;symm;refine CN (ne (by ac_rfl)) ?_;symm;refine CN (ne (by ac_rfl)) ?_;symm;refine CN (ne (by ac_rfl)) ?_;symm;refine CN (ne (by ac_rfl)) ?_;symm;exact q _ _ (Ax.refl _) rfl
 | ru n=>
  obtain⟨v,hv⟩:=hn n rfl;refine CN (ne (by ac_rfl)) ?_;refine Ep ?_;symm;refine CN (ne (by ac_rfl)) ?_;symm;refine Hw rfl ?_;symm;refine⟨x,Ey,dx,_,_,rfl,hx,Bu,Gr,rfl,?_⟩;symm;exact⟨r,kv,n,v,rfl,hr',hv,q v _ (Ax.refl _) hv⟩
 | nu i=>
  refine CN (ne (by ac_rfl)) ?_;refine Ep ?_;symm;refine CN (ne (by ac_rfl)) ?_;symm;refine CN (ne (by ac_rfl)) ?_;symm;refine Hw rfl ?_;symm;exact⟨i,rfl,ok,fun H1 s1=>q _ _ s1 rfl⟩
theorem Up:C0 2 "named_rules" ["desk","names"] (qK Ey):=by
 refine co' ["desk","names"] UL (fun h=>?_) fun nd H vs Q E hr h=>?_
 ·obtain⟨x,l,rfl,_⟩:=h;rfl
 obtain⟨x,l,rfl,hl,q⟩:=h;refine⟨_,(Ad (Al (Ff rfl (Cw ["desk","names"] ["desk","names"] rfl rfl (by with_unfolding_all rfl) (by ac_rfl) rfl (by ac_rfl) rfl (by ac_rfl) (by walk_at"fm") (by with_unfolding_all rfl) (by with_unfolding_all rfl)) (Fx (pv 1)) (fun _ _ _ _=>Dr) (fun _ _ _ _=>ABL)))),?_⟩;symm;refine Em (Jp ?_);symm;refine⟨l,rfl,⟨_,SqL.of hl⟩,?_⟩;refine IW (K1 (xs:=[])) (by show 0<sizeLine;decide) ?_ (fun _=>true) (fun _=>V.non) (fun x hx=>nomatch hx) (fun x hx=>nomatch hx) (fun D hD=>?_)
 ·exact fun D ys hD=>SqL.of (by rw[Aw (Bj hl hD)];exact hl)
 ·refine fresh hD fun H1 s1 t1=>?_;exact q D H1 hD s1 t1
theorem jF:C0 20 "tell_on" ["given"] (AAQ K Ba CL):=by
 refine co' ["given"] gB (fun h=>?_) fun nd H vs Q E hr h=>?_
 ·obtain⟨l,y,n,d,b,rfl,_⟩:=h;rfl
 obtain⟨l,y,n,d,b,rfl,hl,R,q⟩:=h;refine⟨_,(Ad (Al (Ds (Gh (mC oV (hr.mono (by decide)) (pxL 0) (Aa (pxL 0) Ab))) Ai Ai))),?_⟩;symm
 try refine JC ?_
 symm;refine Bc (SqL.of hl) Ed ?_;symm;obtain⟨C,dr,fs,m,hr,_,_,l3⟩:=R.mt;refine⟨y,C,dr,fs,_,m _,rfl,hr,l3,?_⟩;symm;refine Bc (SqL.of hl) G9 ?_;symm;refine⟨ja2,y,n,d,b,rfl,R,?_⟩;symm;cases hb:On n b d with
 | true=>
  rw[hb] at q;refine FW ?_;symm;exact q
 | false=>
  rw[hb] at q;refine Ep ?_;symm;exact q
theorem Y9:C0 20 "tell_size" ["given"] (qD K Ba CL):=by
 refine co' ["given"] Xv (fun h=>?_) fun nd H vs Q E hr h=>?_
 ·obtain⟨l,y,n,b,rfl,_⟩:=h;rfl
 obtain⟨l,y,n,b,rfl,hl,R,q⟩:=h;obtain⟨n0,n1,lt⟩:=R.rnd;refine⟨_,(Ad (Al (BZ BL rfl Dp qo (Aa (CT Ho (Ae XM (Aa (Bl Be (pxL 0)) Ab)) Af (fun _ _=>rfl)) Ab)))),?_⟩;symm;refine Bc (SqL.of hl) Ed ?_;symm;obtain⟨C,dr,fs,m,hr,l1,_⟩:=R.mt;refine⟨y,C,dr,fs,_,m _,rfl,hr,l1,?_⟩;symm;refine⟨ja2,y,_,b,rfl,R,fun p hp=>?_⟩;symm;refine⟨p,n,b,rfl,SqT.of hp,n0,n1,lt,fun p2 H1 z c s1 t1 L=>?_⟩;symm;refine An (SqT.of t1) Ed ?_;symm;refine⟨_,rfl,Qp (zv (vc n0 L.dv) (by lia)),?_⟩;have:=q z c H1 s1 L
 rwa [show sW (nW (z:Int))=De (z:Int) from Jo _] at this
theorem JQ:C0 1 "paper_text" ["paper"] AAT:=by
 refine co' ["paper","word","number"] WD (fun h=>?_) fun nd H vs Q E hr h=>?_
 ·obtain⟨p,w,e,r,rfl,_⟩:=h;rfl
 obtain⟨p,w,e,r,rfl,hp,wl,lg,q⟩:=h;refine⟨_,(Ac (Ak 1 (pxT 0))
  (Ac (Ak 2 (pxT 0))
  (Ad (Al (JH (Cv (JK hr.toN (pv 1)) (Cv Ai (Cv (JK hr.toN (pv 2)) K7)))))))),?_⟩
 symm;refine An (SqT.of hp) Ed ?_;symm;refine An (SqT.of hp) G9 ?_;symm;refine Hz ?_;refine AAs 0 10 (by decide) wl (by decide) rfl fun l1=>?_;refine JZ _ l1 (by decide) fun l2=>Ox _ l2 (by decide) rfl lg fun l3=>JB (fits l3 (by decide)) ?_;have e0:(Str.empty++w++Str.ofString " "++De e)=sW (cpl w++(sg " "++nW e)):=Gw (by rw[Bg,Kf,Kf,Kf,vZ,ji5,ke];rfl);symm;have q:=q;rw[<-e0] at q;exact q
theorem ZC:C0 20 "tell_same" ["given"] (wI K Ba CL Zj C70):=by
 refine co' ["given","paper","size"] Xw (fun h=>?_) fun nd H vs Q E hr h=>?_
 ·obtain⟨l,y,y',n,b,m,c,d,rfl,_⟩:=h;rfl
 obtain⟨l,y,y',n,b,m,c,d,rfl,hl,R1,R2,sd,cf,g⟩:=h;obtain⟨n0,n1,lt⟩:=R1.rnd;obtain⟨m0,m1,lt'⟩:=R2.rnd;refine⟨_,(Ac (Ak 1 (Ae zB (Aa (Bl Be (pxL 0)) (Aa (Bl Be (pxL 0)) (Aa (pxL 0) Ab)))))
  (Ac (Ay (Aj Bm (pxT 1) Ai (Ao _))
   (Ac (Ak 2 (CT Ho (pxT 1) Af (fun _ _=>rfl)))
  (Ad (Al (JH (Cv Ai (Cv (JK hr.toN (pv 2)) K7))))))
   Aq)
  (Ad (Al (Ae JQ (Aa (pv 1) Ab)))))),?_⟩
 symm;refine Bc (SqL.of hl) Ed ?_;symm;obtain⟨C,dr,fs,mm,hr,l1,_⟩:=R1.mt;refine⟨y,C,dr,fs,_,mm _,rfl,hr,l1,?_⟩;symm;refine⟨ja2,y,_,b,rfl,R1,fun p hp=>?_⟩;symm;refine Bc (SqL.of hl) G9 ?_;symm;obtain⟨C',dr',fs',mm',hr',l1',_⟩:=R2.mt;refine⟨y',C',dr',fs',_,mm' _,rfl,hr',l1',?_⟩;symm;refine⟨ja2,y',_,c,rfl,R2,fun p' hp'=>?_⟩;symm;refine Bc (SqL.of hl) KJ ?_;symm;obtain⟨c1,c2⟩:=cf;refine⟨p,p',n,b,m,c,d,rfl,⟨n0,c1,lt,hp⟩,⟨m0,c2,lt',hp'⟩,fun pp H1 s1 S=>?_⟩;cases S with
 | same t z x ht hz L1 L2=>
  symm;refine An (SqT.of ht) Ed ?_;symm;refine Hw rfl ?_;symm;refine An (SqT.of ht) G9 ?_;symm;refine An (SqT.of hz) Ed ?_;symm;have lg:=Qp (n:=z) (zv (vc n0 L1.dv) (by lia));refine Hz ?_;refine JZ 0 (by decide) (by decide) fun l1=>Ox _ l1 (by decide) rfl lg fun l2=>JB (fits l2 (by decide)) ?_;have e0:(Str.empty++Str.ofString "same "++De (z:Int))=sW (sg "same "++nW (z:Int)):=Gw (by rw[Bg,Kf,Kf,vZ,ji5];rfl);rw[e0];exact g.1 z x H1 s1 L1 L2
 | parted e ht P=>
  symm;refine An (SqT.of ht) Ed ?_;symm;refine CN (fun z=>absurd (V.str.inj z) (by ac_rfl)) ?_;symm;have:=P.ge;have:=P.lt;exact⟨pp,_,e,[],rfl,ht,by ac_rfl,bC sd (by lia) (by lia),g.2 e H1 s1 P⟩
theorem ZD:C0 20 "tell_meet" ["given"] (wI K Ba CL Zk Ux):=by
 refine co' ["given"] Xx (fun h=>?_) fun nd H vs Q E hr h=>?_
 ·obtain⟨l,y,y',n,b,m,c,d,rfl,_⟩:=h;rfl
 obtain⟨l,y,y',n,b,m,c,d,rfl,hl,R1,R2,sd,cf,g⟩:=h;obtain⟨n0,n1,lt⟩:=R1.rnd;obtain⟨m0,m1,lt'⟩:=R2.rnd;refine⟨_,(Ad (Al (Ae JQ (Aa (Ae jG (Aa (Bl Be (pxL 0)) (Aa (Bl Be (pxL 0)) (Aa (pxL 0) Ab)))) Ab)))),?_⟩;symm;refine Bc (SqL.of hl) Ed ?_;symm;obtain⟨C,dr,fs,mm,hr,l1,_⟩:=R1.mt;refine⟨y,C,dr,fs,_,mm _,rfl,hr,l1,?_⟩;symm;refine⟨ja2,y,_,b,rfl,R1,fun p hp=>?_⟩;symm;refine Bc (SqL.of hl) G9 ?_;symm;obtain⟨C',dr',fs',mm',hr',l1',_⟩:=R2.mt;refine⟨y',C',dr',fs',_,mm' _,rfl,hr',l1',?_⟩;symm;refine⟨ja2,y',_,c,rfl,R2,fun p' hp'=>?_⟩;symm;refine Bc (SqL.of hl) KJ ?_;symm;refine⟨p,p',n,b,m,c,d,rfl,⟨n0,n1,lt,hp⟩,⟨m0,m1,lt',hp'⟩,vA sd,fun _=>cf,fun pp H1 s1 S=>?_⟩;symm;cases S with
 | never x y' ht _ _ _ nm=>exact⟨pp,_,_,_,rfl,ht,by ac_rfl,Qp (zv (vc n0 (jc2 n m)) (by lia)),g.1 H1 s1 nm⟩
 | meet e ht F _=>
  have:=F.ge;have:=F.lt;have cf:Bx (n:Int) (m:Int)<=150000:=cf;exact⟨pp,_,e,[],rfl,ht,by ac_rfl,bC sd (by lia) (by lia),g.2 e H1 s1 F⟩
theorem Uo:C0 20 "tell_within" ["given"] (wI K Ba CL Zi Ux):=by
 refine co' ["given"] Tw (fun h=>?_) fun nd H vs Q E hr h=>?_
 ·obtain⟨l,y,y',n,b,m,c,d,rfl,_⟩:=h;rfl
 obtain⟨l,y,y',n,b,m,c,d,rfl,hl,R1,R2,sd,cf,g⟩:=h;obtain⟨n0,n1,lt⟩:=R1.rnd;obtain⟨m0,m1,lt'⟩:=R2.rnd;refine⟨_,(Ad (Al (Ae JQ (Aa (Ae oR (Aa (Bl Be (pxL 0)) (Aa (Bl Be (pxL 0)) (Aa (pxL 0) Ab)))) Ab)))),?_⟩;symm;refine Bc (SqL.of hl) Ed ?_;symm;obtain⟨C,dr,fs,mm,hr,l1,_⟩:=R1.mt;refine⟨y,C,dr,fs,_,mm _,rfl,hr,l1,?_⟩;symm;refine⟨ja2,y,_,b,rfl,R1,fun p hp=>?_⟩;symm;refine Bc (SqL.of hl) G9 ?_;symm;obtain⟨C',dr',fs',mm',hr',l1',_⟩:=R2.mt;refine⟨y',C',dr',fs',_,mm' _,rfl,hr',l1',?_⟩;symm;refine⟨ja2,y',_,c,rfl,R2,fun p' hp'=>?_⟩;symm;refine Bc (SqL.of hl) KJ ?_;symm;refine⟨p,p',n,b,m,c,d,rfl,⟨n0,n1,lt,hp⟩,⟨m0,m1,lt',hp'⟩,vA sd,fun _ _ _=>cf,fun pp co H1 s1 Cm S=>?_⟩;symm;cases S with
 | never x y' ht _ _ _ nm=>exact⟨pp,_,_,_,rfl,ht,by ac_rfl,Qp (zv (vc n0 (jc2 n m)) (by lia)),(g co Cm).1 H1 s1 nm⟩
 | meet e ht F _=>
  have:=F.ge;have:=F.lt;have cf:Bx (n:Int) (m:Int)<=150000:=cf;exact⟨pp,_,e,[],rfl,ht,by ac_rfl,bC sd (by lia) (by lia),(g co Cm).2 e H1 s1 F⟩
theorem Qc:CI0 1 "Desk" Ey ["self"] (ww K ⟨Ey,Bk,Av,Ba,CL⟩):=by
 refine ci' ["self"] QH (fun h=>?_) fun nd H vs Q E hr h=>?_
 ·obtain⟨H0,x,dx,rfl,_⟩:=h;rfl
 obtain⟨H0,x,dx,rfl,hx,hd,ne,rfl,q⟩:=h;refine⟨_,(Ac (Fq (pv 0) Yb (by rfl))
  (Ad (Fq (pv 0) Yb (by rfl)))),?_⟩
 symm;intro d1 n1;symm;have a1:d1≠x:=fun z=>by rw[z,Ah] at n1;cases n1
 have a2:d1≠dx:=fun z=>by rw[z,Aw ne,Ah] at n1;cases n1
 have n1':H0 d1=none:=by rw[Aw a1,Aw a2] at n1;exact n1
 refine⟨x,Ey,dx,[],rfl,by rw[Aw a1.symm];exact Ah,Bu,FZ,by decide,?_⟩;symm;intro d2 n2;symm;have b1:d2≠x:=fun z=>by rw[z,Ah] at n2;cases n2
 have b2:d2≠d1:=fun z=>by rw[z,Aw a1,Ah] at n2;cases n2
 have b3:d2≠dx:=fun z=>by rw[z,Aw ne,Aw a2.symm,Aw ne,Ah] at n2;cases n2
 have n2':H0 d2=none:=by rw[Aw b1,Aw b2,Aw b1,Aw b3] at n2;exact n2
 refine⟨x,Ey,dx,_,rfl,by rw[Aw b1.symm];exact Ah,Bu,Gr,(by show 1<1000;decide),?_⟩;refine q _ (fun y u e=>?_) ⟨dx,d1,d2,[],Ah,?_,?_,qh _,b2,fun _ _ _ z=>nomatch z⟩
 ·have c1:y≠x:=Bj e hx;rw[Aw c1,Aw (Bj e n2'),Aw c1,Aw (Bj e n1'),Aw c1,Aw (Bj e hd)];exact e
 ·show _=_;rw[Aw a1,Aw b2.symm,Aw a1];exact Ah
 ·rw[Aw b1];exact Ah
theorem Mw:CI0 1 "Change" oW ["self","old","new","day"] qJ:=ci (st:=Ls) (by walk_at"k") (by walk_at"k") (by walk_at"k") (by walk_at"h") (by walk_at"b") fun _=>⟨fun _ _ _ _ h=>h.elim,fun _ _ _ _ _ _ _ _ _ _ _ _ _ h=>h.elim⟩
theorem zF:C0 133 "keep" ["desk","word","given"] (wX K ⟨Ey,Bk,Av,Ba,CL⟩):=by
 refine co' ["desk","word","given","name"] xK (fun h=>?_) fun nd H vs Q E hr h=>?_
 ·obtain⟨x,l,c,j,m,D,lb,⟨s',f',g,a,b,rfl,_⟩ | ⟨nm,p,D',rfl,_⟩⟩:=h<;>rfl
 obtain⟨x,l,c,j,m,DK,lb,h⟩:=h;obtain⟨dx,a,r,kv,hx,hc,hk,lk,na,hm⟩:=DK.ex;refine⟨_,(Ac (Ak 3 (pxL 2))
  (Ac (Ei (Ay (Aj Bm (pv 1) Ai (Ao _))
   (Ad (Wb (ub (Nat.add_le_add_left (by decide:1<=64) _) hr.units) (By (pv 0) (by rfl)) (pv 3) (Ae QT (Aa (pxL 2) Ab)) rfl))
   (Ad (Ei (Ay (Aj Bm (pv 1) Ai (Ao _))
   (Ad (Wb (ub (Nat.add_le_add_left (by decide:1<=64) _) hr.units) (By (pv 0) (by rfl)) (pv 3) (Gm Mw (Aa (pxL 2) (Aa (pxL 2) (Aa (pxL 2) Ab)))) rfl))
   (Ad (Wb (ub (Nat.add_le_add_left (by decide:1<=64) _) hr.units) (By (pv 0) (by rfl)) (pv 3) (Ae ZJ (Aa (pxL 2) (Aa (By (pv 0) (by rfl)) Ab))) rfl)))))))
  (Ad (Al Ai)))),?_⟩
 rcases h with ⟨s',f',g,a',b,rfl,hl,o,rfl,q⟩ | ⟨nm,p,D,rfl,hl,rfl,D0,fi,q⟩
 ·symm;refine Bc (SqL.of hl) Ed ?_;symm;refine EY (fun _ H'=>Q (.str "ok") H') ?_ (fun Z' H' h=>by symm;exact h);symm;refine Hw rfl ?_;unfold lG;symm;refine Bc (SqL.of hl) G9 ?_;symm;refine⟨s',f',g,a',b,rfl,o,fun y H1 s1 C1=>?_⟩;symm;refine⟨x,Ey,dx,_,_,rfl,s1 _ _ hx,Bu,FZ,rfl,?_⟩;symm;have h0:=s1 _ _ hc;have kd:=Kd.put h0 (kv':=putK [] (.inr (sW (sg "sun"))) (.ref y));refine⟨a,_,rfl,Zm.k (k:=.inr (sW (sg "sun"))) h0 (by decide),q _ ((Kd.of s1).trans kd) ⟨dx,a,r,kv,kd.ins (s1 _ _ hx),⟨_,y,Ah,rfl,C1.kd kd⟩,by rw[Aw na];exact s1 _ _ hk,lk,na,fun nm n b e=>?_⟩⟩;obtain⟨y',g1,g2⟩:=hm nm n b e;exact⟨y',g1,(g2.same s1).kd kd⟩
 ·symm;refine Bc (SqL.of hl) Ed ?_;symm;refine EY (fun _ H'=>Q (.str "ok") H') ?_ (fun Z' H' h=>by symm;exact h);symm;refine CN (fun z=>absurd (V.str.inj z) (by ac_rfl)) ?_;refine EY (fun _ H'=>Q (.str "ok") H') ?_ (fun Z' H' h=>h);symm;refine CN (fun z=>absurd (V.str.inj z) (by ac_rfl)) ?_;unfold lG;symm;refine Bc (SqL.of hl) G9 ?_;symm;refine⟨x,Ey,dx,_,_,rfl,hx,Bu,FZ,rfl,?_⟩;symm;refine⟨a,p,D,rfl,fi.ok,fi.kn,fi.tl,fi.dp,fi.mn,D0,hc,fi.sz,fun y b H1 s1 R E=>?_⟩;symm;refine⟨x,Ey,dx,_,_,rfl,s1 _ _ hx,Bu,Gr,rfl,?_⟩;symm;have h0:=s1 _ _ hk;have kd:=Kd.put h0 (kv':=putK kv (.inr (sW nm)) (.ref y));have sp:=PT.sz_pos D0 fi.ok;refine⟨r,_,rfl,Zm.k (k:=.inr (sW nm)) h0 (ub lk (ub lb (by decide))),q b _ ((Kd.of s1).trans kd) ⟨dx,a,r,_,kd.ins (s1 _ _ hx),?_,Ah,zv (Jz _ _ _) (by lia),na,fun k n b' e=>?_⟩ E⟩
  ·obtain⟨kv',y',e1,e2,e3⟩:=hc;exact⟨kv',y',by rw[Aw (Ne.symm na)];exact s1 _ _ e1,e2,(e3.same s1).kd kd⟩
  ·unfold setM at e;rw[jW];split at e
   ·rename_i z
    subst z;cases e;exact⟨y,xz rfl,by rw[Jn (by lia)];exact R.kd kd⟩
   ·rename_i z
    obtain⟨y',g1,g2⟩:=hm k n b' e;exact⟨y',by rw[yv fun w=>z (by have:=xo cpl (Sum.inr.inj w);rwa [Bg,Bg] at this)];exact g1,(g2.same s1).kd kd⟩
theorem Cg:CM0 134 Ey "say" ["self","row"] (AAR K ⟨Ey,Bk,Av,Ba,CL⟩):=by
 refine cm' ["self","row","words","form","given"] aJ (fun h=>?_) fun nd H vs Q E hr h=>?_
 ·obtain⟨x,c,j,m,R,rfl,_⟩:=h;rfl
 obtain⟨x,c,j,m,R,rfl,ok,DK,lb,SQ⟩:=h;obtain⟨dx,a,r,kv,hx,hc,hk,lk,na,hm⟩:=DK.ex;have nn:∀{nm n b},m nm=some (n,b)->∃v,Fp kv (.inr (sW nm))=some v:=fun e=>by
  obtain⟨y,h1,_⟩:=hm _ _ _ e;exact⟨_,h1⟩
 have en:∀n,.ru n∈R.ws->∃v,Fp kv (.inr (sW n))=some v:=fun n hn=>by
  cases R with
  | cal=>simp[Row.ws] at hn
  | rule=>simp[Row.ws] at hn
  | on=>
   obtain⟨_,_,e,_⟩:=SQ;simp[Row.ws] at hn;exact hn ▸ nn e
  | size=>
   obtain⟨_,_,e,_⟩:=SQ;simp[Row.ws] at hn;exact hn ▸ nn e
  | _=>
   obtain⟨_,_,_,_,e1,e2,_⟩:=SQ;simp[Row.ws] at hn;rcases hn with z | z
   ·exact z ▸ nn e1
   ·exact z ▸ nn e2
 have dk:DkH Ey H x kv:=⟨dx,a,r,hx,hk⟩;refine⟨_,(Ac (Ak 2 (Ae Sh (Aa (pv 1) Ab)))
  (Ac (Ak 3 (RZ (Bv rfl Fy.m (Gx _)) (pxL 2) (fun _ _=>rfl)))
  (Ac (O1 (i:=4) nd rfl (by walk_at"o") (xs:=["kind","word"]) rfl (Ks ["kind","word"] ["self","row","words","form","given"] ["self","row","words","form","given"] rfl rfl (by with_unfolding_all rfl) (by ac_rfl) rfl (by ac_rfl) (by ac_rfl) (by ac_rfl) (by walk_at"fm") (by with_unfolding_all rfl) (by with_unfolding_all rfl)) (rO rfl uh (Aa (pv 3) (Aa (Ej Iv (pv 2) (Fd Af) Fe) Ab))) (fun _ _ _ _=>Dr) (fun _ _ _ _=>(YZ (n:=2) rfl (Lw (FJ (i:=0) (show (["kind","word","self","row","words","form","given"]:List Str).Nodup from by ac_rfl) rfl (by walk_at"o")) (Lw (FJ (i:=1) (show (["kind","word","self","row","words","form","given"]:List Str).Nodup from by ac_rfl) rfl (by walk_at"o")) c7)))) (fun _ _ _ _=>(Ae ZV (Aa (pv 2) (Aa (pv 0) (Aa (pv 1) Ab))))))
  (Ac (BR (GK ve jd2 jd3 Ik (pv 4) (Aa (Ae Up (Aa (pv 0) (Aa (Ej Iv (pv 2) (Fd (Ag Bq (BJ BK rfl Cq xa (Aa (pv 3) Ab)) Af)) Fe) Ab))) Ab)))
  (Ac (Ay (Wa (rW (pxL 2) (Bv rfl Dh.m (Gx _))))
   (Ad (Al (mG (k:=20) (HF.cons jF (HF.cons Y9 (HF.cons ZC (HF.cons ZD (HF.cons Uo HF.nil))))) (hr.mono (by decide)) (RZ (Bv rfl Dh.m (Gx _)) (pxL 2) (fun _ _=>rfl)) (Aa (pv 4) Ab))))
   Aq)
  (Ad (Al (Ae zF (Aa (pv 0) (Aa (pxL 2) (Aa (pv 4) Ab))))))))))),?_⟩
 symm;refine⟨R,rfl,ok,fun l H1 hl s1 t1=>?_⟩;symm;unfold Z1;symm;refine Bc (SqL.of t1) Ed ?_;symm;refine⟨_,_,.inr R.hd,_,rfl,Fy.d,rfl,Rn _ R,?_⟩;symm;refine YT (qx ?_);symm;refine Np (SqL.of t1) fun u hu=>?_;rw[show J5 (V.str R.hd::wkV R.ws) (some 1) none=wkV R.ws from Kc _ 1];refine fresh hu fun H2 s2 t2=>?_;symm;have s02:=s1.trans s2;refine⟨_,u,rfl,⟨_,_,Fy.s R _,SqL.of t2⟩,?_⟩;refine iw (kv:=kv) (Fy.s R) t2 (ub R.few.2 (by decide)) (fun k hk' H3 Q3 s3 q3=>?_) (fun D H3 vs hD s3 t3 g=>?_)
 ·symm;exact⟨x,kv,k,rfl,ok k hk',dk.same (s02.trans s3),fun n e=>en n (e ▸ hk'),q3⟩
 symm;have s03:=s02.trans s3;refine Nr rfl t3 ?_;symm;refine⟨_,_,rfl,.inr (Fy.s R _),?_⟩;symm;have t1':=s3 _ _ (s2 _ _ t1);refine Np (SqL.of t1') fun u5 hu5=>?_;have e5:J5 (V.str R.hd::wkV R.ws) (some (((R.ws.map fun w=>V.str w.k).length:Int)+1)) none=[]:=by
  have:=Kc (V.str R.hd::wkV R.ws) ((R.ws.map fun w=>V.str w.k).length+1);rw[jg1,Int.natCast_one] at this;rw[this,uk (by unfold wkV;simp)]
 rw[e5];refine fresh hu5 fun H5 s5 t5=>?_;symm;have s05:=s03.trans s5;refine⟨x,u5,rfl,t5,fun l6 H6 hl6 s6 t6=>?_⟩;have s06:=s05.trans s6;have tD:=s6 _ _ (s5 _ _ t3);symm;refine⟨D,l6,vs,[],rfl,rfl,tD,t6,by rw[jg3,Nat.add_zero,g.1];exact zv R.few.2 (by decide),?_⟩;rw[ya,vp tD];have t16:=s6 _ _ (s5 _ _ t1');have DK6:=DK.same s06;have rl:∀{nm n b v},m nm=some (n,b)->Fp kv (.inr (sW nm))=some v->∃y,v=.ref y/\DP K Ba CL H6 y (n:Int) b:=fun e e'=>by
  obtain⟨y,h1,h2⟩:=hm _ _ _ e;exact⟨y,ki (e'.symm.trans h1),h2.same s06⟩
 symm;unfold cN;symm;refine Bc (SqL.of t16) Ed ?_;symm;refine⟨_,_,.inr R.hd,rfl,Dh.d,rfl,?_⟩;cases R with
 | cal s' f' g' a' b'=>
  refine⟨_,rfl,Ep ?_⟩;symm;refine Bc (SqL.of t16) Ed ?_;symm;obtain⟨v0,ws0,rfl,e0,g1⟩:=GV.cons g;obtain⟨v1,rfl,e1⟩:=GV.one g1;cases e0;cases e1;obtain⟨o,ec,q⟩:=SQ;exact⟨x,D,c,j,m,DK6,lb,.inl ⟨s',f',g',a',b',rfl,tD,o,ec,fun H' k d=>q H' ((Kd.of s06).trans k) d⟩⟩
 | rule nm p=>
  refine⟨_,rfl,Ep ?_⟩;symm;refine Bc (SqL.of t16) Ed ?_;symm;obtain⟨v0,ws0,rfl,e0,g1⟩:=GV.cons g;obtain⟨v1,rfl,e1⟩:=GV.one g1;cases e0;cases e1;obtain⟨D',ec,D0,fi,q⟩:=SQ;exact⟨x,D,c,j,m,DK6,lb,.inr ⟨nm,p,D',rfl,tD,ec,D0,fi,fun b H' k d=>q b H' ((Kd.of s06).trans k) d⟩⟩
 | on nm d=>
  refine⟨_,rfl,FW ?_⟩;symm;unfold KY;dsimp only;symm;refine Bc (SqL.of t16) Ed ?_;symm;refine⟨_,_,.inr "on",_,rfl,Dh.d,rfl,rfl,_,_,_,rfl,.head _,Dh.g3,?_⟩;symm;obtain⟨n,b,e,q⟩:=SQ;obtain⟨v0,ws0,rfl,e0,g1⟩:=GV.cons g;obtain⟨v1,rfl,e1⟩:=GV.one g1;cases e1;obtain⟨y,rfl,R⟩:=rl e e0;exact⟨D,y,n,d,b,rfl,tD,R,q H6 s06⟩
 | size nm=>
  refine⟨_,rfl,FW ?_⟩;symm;unfold KY;dsimp only;symm;refine Bc (SqL.of t16) Ed ?_;symm;refine⟨_,_,.inr "size",_,rfl,Dh.d,rfl,rfl,_,_,_,rfl,.tail _ (.head _),Dh.g8,?_⟩;symm;obtain⟨n,b,e,q⟩:=SQ;obtain⟨v0,rfl,e0⟩:=GV.one g;obtain⟨y,rfl,R⟩:=rl e e0;exact⟨D,y,n,b,rfl,tD,R,fun z c H' s'=>q z c H' (s06.trans s')⟩
 | same na nb d=>
  refine⟨_,rfl,FW ?_⟩;symm;unfold KY;dsimp only;symm;refine Bc (SqL.of t16) Ed ?_;symm;refine⟨_,_,.inr "same",_,rfl,Dh.d,rfl,rfl,_,_,_,rfl,.tail _ (.tail _ (.head _)),Dh.g9,?_⟩;symm;obtain⟨n,b,k,b',e,e',cf,q⟩:=SQ;obtain⟨v0,ws0,rfl,e0,g1⟩:=GV.cons g;obtain⟨v1,ws1,rfl,e1,g2⟩:=GV.cons g1;obtain⟨v2,rfl,e2⟩:=GV.one g2;cases e2;obtain⟨y,rfl,R⟩:=rl e e0;obtain⟨y',rfl,R'⟩:=rl e' e1;exact⟨D,y,y',n,b,k,b',d,rfl,tD,R,R',ok (.nu d) (.tail _ (.tail _ (.head _))),cf,q.later s06⟩
 | meet na nb d=>
  refine⟨_,rfl,FW ?_⟩;symm;unfold KY;dsimp only;symm;refine Bc (SqL.of t16) Ed ?_;symm;refine⟨_,_,.inr "meet",_,rfl,Dh.d,rfl,rfl,_,_,_,rfl,.tail _ (.tail _ (.tail _ (.head _))),Dh.g10,?_⟩;symm;obtain⟨n,b,k,b',e,e',cf,q⟩:=SQ;obtain⟨v0,ws0,rfl,e0,g1⟩:=GV.cons g;obtain⟨v1,ws1,rfl,e1,g2⟩:=GV.cons g1;obtain⟨v2,rfl,e2⟩:=GV.one g2;cases e2;obtain⟨y,rfl,R⟩:=rl e e0;obtain⟨y',rfl,R'⟩:=rl e' e1;exact⟨D,y,y',n,b,k,b',d,rfl,tD,R,R',ok (.nu d) (.tail _ (.tail _ (.head _))),cf,q.later s06⟩
 | within na nb d=>
  refine⟨_,rfl,FW ?_⟩;symm;unfold KY;dsimp only;symm;refine Bc (SqL.of t16) Ed ?_;symm;refine⟨_,_,.inr "within",_,rfl,Dh.d,rfl,rfl,_,_,_,rfl,.tail _ (.tail _ (.tail _ (.tail _ (.head _)))),Dh.g11,?_⟩;symm;obtain⟨n,b,k,b',e,e',cf,q⟩:=SQ;obtain⟨v0,ws0,rfl,e0,g1⟩:=GV.cons g;obtain⟨v1,ws1,rfl,e1,g2⟩:=GV.cons g1;obtain⟨v2,rfl,e2⟩:=GV.one g2;cases e2;obtain⟨y,rfl,R⟩:=rl e e0;obtain⟨y',rfl,R'⟩:=rl e' e1;exact⟨D,y,y',n,b,k,b',d,rfl,tD,R,R',ok (.nu d) (.tail _ (.tail _ (.head _))),cf,q.later s06⟩
theorem Dl:C0 1 "_law_cell_at" ["_law_script","_law_k"] (kY K):=by
 refine co' ["_law_script","_law_k"] UV (fun h=>?_) fun nd H vs Q E hr h=>?_
 ·obtain⟨a,ns,k,rfl,_⟩:=h;rfl
 obtain⟨a,ns,k,rfl,hS,h0,hl,q⟩:=h;refine⟨_,(Ac (Ay (Aj GP (pv 1) (BJ BK rfl Cq xa (Aa (pv 0) Ab)) (Ao _))
  (Ad (Al (CT Ck (pv 0) (pv 1) (fun _ _=>rfl))))
  Aq)
  (Ad (Al Af))),?_⟩
 symm;refine⟨a,_,rfl,.inl hS,?_⟩;symm;rw[jp];refine CG (fun c=>?_) (fun c=>?_)
 ·symm;refine Bc hS (eV h0 c) ?_;exact q
 ·symm;have e:ns.getD k.toNat 0=0:=by
   simp[List.getD,jd1 (show ns.length<=k.toNat by lia)]
  rw[e] at q;exact q
theorem S5:C0 1 "_law_divisor" ["_law_one","_law_other"] wu:=by
 refine co' ["_law_one","_law_other"] UT (fun h=>?_) fun nd H vs Q E hr h=>?_
 ·obtain⟨x,y,rfl,_⟩:=h;rfl
 obtain⟨x,y,rfl,x0,y0,q⟩:=h;refine⟨_,(Ac (FT PassesOwn.never (Aj Ek (pv 1) Af (Ao _))
  (Ad (yE (i:=0) (j:=1) rfl nd rfl rfl (by decide) rfl rfl (Aa (pv 1) (Aa (Ag Bp (pv 0) (pv 1)) Ab)) (by with_unfolding_all rfl))))
  (Ad (Al (pv 0)))),?_⟩
 symm;refine⟨fun m Z' H'=>H'=H/\∃u v:Int,Z'=[some (.int u),some (.int v)]/\0<u/\0<=v/\Int.gcd u v=Int.gcd x y/\v.toNat=m,⟨_,rfl,x,y,rfl,x0,by lia,rfl,rfl⟩,?_⟩;rintro m Z' H' ⟨rfl,u,v,rfl,u0,v0,hg,rfl⟩;symm;by_cases hv:v=0
 ·subst hv;refine FN rfl ?_;symm;rw[Int.gcd_zero_right] at hg;have:((Int.gcd x y:Nat):Int)=u:=by lia
  rw[this] at q;exact q
 ·refine dZ (fun z=>hv (V.int.inj z)) ?_;refine⟨_,fun Z' H' hh=>hh,?_⟩;symm;refine⟨_,_,rfl,?_⟩;have m0:=qg u hv;have m1:=qc u (show 0<v by lia);refine⟨(u%v).toNat,by lia,rfl,v,u%v,rfl,by lia,m0,?_,rfl⟩;rw[<-hg];exact ACf u v
theorem J9:C0 1 "_law_leaf" ["_law_word","_law_beside","_law_days"] qP:=by
 refine co' ["_law_word","_law_beside","_law_days","_law_size","_law_text_here"] aD (fun h=>?_) fun nd H vs Q E hr h=>?_
 ·obtain⟨wd,x,D,rfl,_⟩:=h;rfl
 obtain⟨wd,x,D,rfl,D0,D1,q⟩:=h;have lf:∀(b:Bool) {H1:Hp} (a:Addr),H1 a=none->Ax H H1->wd=sW (PT.tx (.lf b))->Q (.ref a) (upd H1 a (.tup [.str wd,.int 1,.int 1])):=fun b {H1} a ha s e=>q a (.lf b) _ (s.trans (Am ha _)) ⟨O2 e rfl rfl trivial trivial (by cases b<;>ac_rfl),by show(1:Int)<=60;decide,by show 1+0<=40;decide⟩;refine⟨_,(Ac (Ay (PW.pt (IK (Aj Bm (pv 0) Ai (Ao _)) (Gg (Aj Bm (pv 0) Ai (Ao _)))))
  (Ad (Al (Az (Aa (pv 0) (Aa Af (Aa Af Ab))))))
  Aq)
  (Ac (Ay (Aj Bm (pv 0) Ai (Ao _))
   (Ac (Ak 4 (Ag Ar (Ag Ar (Ag Ar Ai (CT Ck (En (Aa Ai (Aa Ai (Aa Ai Ab)))) (Ag Bp (pv 1) Af) (fun _ _=>rfl))) Ai) (CT Ck (dF (ss:=["1","*","-1","2","-3","6"]) rfl) (Ag Bp (Ag Bs (pv 1) Af) Af) (fun _ _=>rfl))))
  (Ac (Ei (Ay (Aj Bm (Ag Bp (Ag Bs (pv 1) Af) Af) Af (Ao _))
   (Ad (Ak 4 (Ag Ar (Ag Ar (pv 4) Ai) (BZ BL rfl Dp qo (Aa (Ag Bp (Ag Bs (pv 1) Af) (Ag Jt Af Af)) Ab)))))
   Aq))
  (Ad (Al (Az (Aa (pv 4) (Aa (pv 2) (Aa Af Ab))))))))
   Aq)
  (Ac (Ak 3 (Ag Bq Af (Ag Bp (pv 1) Af)))
  (Ad (Al (Az (Aa (Ag Ar (Ag Ar (Ag Ar Ai (BZ BL rfl Dp qo (Aa (pv 3) Ab))) Ai) (BZ BL rfl Dp qo (Aa (Ag DN (Ag Bp (Ag Bs (pv 1) Af) (Ag Jt Af Af)) (Ag Jt Af Af)) Ab))) (Aa (pv 3) (Aa Af Ab))))))))),?_⟩
 nofun;refine CG (fun c=>FW ?_) (fun c=>?_)
 ·nofun;exact⟨(by show 3<=sizeLine;decide),fun a ha=>lf true a ha (Ax.refl _) (by rw[vq];exact V.str.inj c)⟩
 nofun;refine CG (fun c=>?_) (fun c=>?_)
 ·nofun;exact⟨(by show 3<=sizeLine;decide),fun a ha=>lf false a ha (Ax.refl _) (by rw[cI];exact V.str.inj c)⟩
 nofun;refine CG (fun c=>?_) (fun c=>?_)
 ·nofun;refine⟨(by show 3<=sizeLine;decide),fun l hl=>?_⟩;refine fresh hl fun H1 s1 t1=>?_;obtain⟨zm,m,Mm,om,em⟩:=zK x;nofun;refine Bc (SqL.of t1) em ?_;have Z:=(Lg.s "date sun ").ap (Lg.w (Fj m) Mm.l);rw[Mm.e];refine⟨_,_,rfl,rfl,Z.le,?_⟩;nofun;have Z:=Z.aps " ";refine⟨_,_,rfl,rfl,Z.le,?_⟩;nofun;refine Ql ?_;refine⟨(by show 6<=sizeLine;decide),fun l2 hl2=>?_⟩;refine fresh hl2 fun H2 s2 t2=>?_;have t2:H2 l2=some (.lst (dyS.map V.str)):=t2;obtain⟨zd,d,Md,od,ed⟩:=zN (x/3);nofun;refine Bc (SqL.of t2) ed ?_;have Z:=Z.ap (Lg.w (Fj d) Md.l);rw[Md.e];refine⟨_,_,rfl,rfl,Z.le,?_⟩;nofun;refine EY (fun Z' H'=>Ax H H'/\Ex2 fun(z:Str) (y:Option (Int×Int))=>An4 (z=sW (PT.tx (.date (sg "sun") m d y))) ((PT.date (sg "sun") m d y).ok) ((PT.tx (.date (sg "sun") m d y)).length<=80) (Z'=[some (.str wd),some (.int x),some (.int D),none,some (.str z)])) ?_ ?_
  ·nofun;refine CG (fun c=>?_) (fun c=>?_)
   ·have g0:=qg (x/36) (show (10000000000000000000000000000000000000000:Int)≠0 by decide);have g1:=qc (x/36) (show (0:Int)<10000000000000000000000000000000000000000 by decide);nofun;have Z:=Z.aps " each 2 from ";refine⟨_,_,rfl,rfl,Z.le,?_⟩;nofun;rw[p40];have gs:Sm (x/36%10000000000000000000000000000000000000000):=Eh (by lia) (by lia);generalize x/36%10000000000000000000000000000000000000000=g at gs ⊢;refine⟨_,rfl,Cd gs,?_⟩;have Z:=Z.ap (.n gs);refine⟨_,_,rfl,rfl,Z.le,?_⟩;nofun;have e:=za m d g;have s2':Sm 2:=Eh (by decide) (by decide);refine⟨s1.trans s2,_,some (2,g),Z.eq e,⟨aj,Mm.ok,Md.ok,fun z hz=>by cases hz;exact⟨s2',gs,(by show(1:Int)<=2;decide),(by show(2:Int)<=2;decide)⟩,om,od⟩,?_,rfl⟩;rw[<-e];have h1:(sg "date sun ").length=9:=by ac_rfl
    have h2:(sg " ").length=1:=by ac_rfl
    have h3:(sg " each 2 from ").length=13:=by ac_rfl
    have h4:=Mm.l;have h5:=Md.l;have h6:=Df gs;simp only[qf];lia
   ·nofun;have e:=zb m d;refine⟨s1.trans s2,_,none,Z.eq e,⟨aj,Mm.ok,Md.ok,(fun z hz=>nomatch hz),om,od⟩,?_,rfl⟩;rw[<-e];have h1:(sg "date sun ").length=9:=by ac_rfl
    have h2:(sg " ").length=1:=by ac_rfl
    have h4:=Mm.l;have h5:=Md.l;simp only[qf];lia
  rintro Z' H3 ⟨s3,z,y,ez,ok,tl,rfl⟩;nofun;exact⟨(by show 3<=sizeLine;decide),fun a ha=>q a _ _ (s3.trans (Am ha _)) ⟨O2 ez rfl rfl ok rfl tl,D1,by show 1+0<=40;decide⟩⟩
 nofun;have a0:=qg x (show (9:Int)≠0 by decide);have a1:=qc x (show (0:Int)<9 by decide);have n0:1<=1+x%9:=by lia
 have n9:1+x%9<=9:=by lia
 generalize 1+x%9=n at n0 n9 ⊢;have ss:Sm n:=Eh (by lia) (by lia);refine⟨_,rfl,Cd ss,?_⟩;have Z:=(Lg.s "each ").ap (.n ss);refine⟨_,_,rfl,rfl,Z.le,?_⟩;nofun;have Z:=Z.aps " from ";refine⟨_,_,rfl,rfl,Z.le,?_⟩;nofun;rw[p40,p39];have g0:=qg (x/9) (show (10000000000000000000000000000000000000000:Int)≠0 by decide);have g1:=qc (x/9) (show (0:Int)<10000000000000000000000000000000000000000 by decide);have gs:Sm (x/9%10000000000000000000000000000000000000000-1000000000000000000000000000000000000000):=Eh (by lia) (by lia);generalize x/9%10000000000000000000000000000000000000000-1000000000000000000000000000000000000000=g at gs ⊢;refine⟨_,rfl,Cd gs,?_⟩;have Z:=Z.ap (.n gs);refine⟨_,_,rfl,rfl,Z.le,?_⟩;nofun;have e:=PT.tx_each n g;refine⟨(by show 3<=sizeLine;decide),fun a ha=>q a (.each n g) _ (Am ha _) ⟨O2 (Z.eq e.symm) rfl rfl ⟨ss,gs,n0,by lia⟩ trivial ?_,by show n<=60;lia,by show 1+0<=40;decide⟩⟩;rw[e];unfold R8;have h1:(sg "each ").length=5:=by ac_rfl
 have h2:(sg " from ").length=6:=by ac_rfl
 have h3:(nW n).length<=2:=by
  rcases(by lia:n=1\/n=2\/n=3\/n=4\/n=5\/n=6\/n=7\/n=8\/n=9) with e | e | e | e | e | e | e | e | e<;>subst e<;>ac_rfl
 have h6:=Df gs;simp only[qf,PT.lv,PT.br];lia
theorem XQ:C0 2 "_law_grown" ["_law_word","_law_beside","_law_one","_law_other"] kE:=by
 refine co' ["_law_word","_law_beside","_law_one","_law_other","_law_number","_law_first","_law_size","_law_many","_law_text_here"] YH (fun h=>?_) fun nd H vs Q E hr h=>?_
 ·obtain⟨wd,x,a,b,p,r,D,rfl,_⟩:=h;rfl
 obtain⟨wd,x,a,b,p,r,D,rfl,hw,D0,N0,N1,q⟩:=h;have e1:=N0.n.h;have e2:=N1.n.h;have X:=N0.lg;have Y:=N1.lg;have t1:=N0.n.tl;have t2:=N1.n.tl;have n1:=PT.sz_pos D0 N0.n.ok;have n2:=PT.sz_pos D0 N1.n.ok;have z1:=N0.sz;have z2:=N1.sz;have x0:=qg x (show (3:Int)≠0 by decide);have x1:=qc x (show (0:Int)<3 by decide);have c1:(sg "(").length=1:=by ac_rfl
 have c2:(sg ")").length=1:=by ac_rfl
 refine⟨_,(Ac (Ak 4 (Ag Bq Af (Ag Bp (pv 1) Af)))
  (Ac (Ak 5 (BZ BL rfl Dp qo (Aa (Ag DN (Ag Bp (Ag Bs (pv 1) Af) (Ag Jt Af Af)) (Ag CW Af (Ag Jt Af Af))) Ab)))
  (Ac (Ay (Aj Bm (pv 0) Ai (Ao _))
   (Ad (Al (Az (Aa (Ag Ar (Ag Ar Ai (pxT 2)) Ai) (Aa (pxT 2) (Aa (Ag Bq Af (pxT 2)) Ab))))))
   Aq)
  (Ac (Ay (Aj Bm (pv 0) Ai (Ao _))
   (Ad (Al (Az (Aa (Ag Ar (Ag Ar (Ag Ar (Ag Ar Ai (pv 5)) Ai) (pxT 2)) Ai) (Aa (pxT 2) (Aa (Ag Bq Af (pxT 2)) Ab))))))
   Aq)
  (Ac (Ay (Aj Bm (pv 0) Ai (Ao _))
   (Ac (Ak 8 (Ag Ar (Ag Ar (Ag Ar (Ag Ar (Ag Ar (Ag Ar Ai (BZ BL rfl Dp qo (Aa (pv 4) Ab))) Ai) (pxT 2)) Ai) (pv 5)) Ai))
  (Ad (Al (Az (Aa (pv 8) (Aa (Ag CW (pxT 2) (pv 4)) (Aa (Ag Bq Af (pxT 2)) Ab)))))))
   Aq)
  (Ac (Ak 6 (Ag CW (Ag Bs (pxT 2) (Ae S5 (Aa (pxT 2) (Aa (pxT 3) Ab)))) (pxT 3)))
  (Ac (Ak 7 (Ag Bq (Ag Bq Af (pxT 2)) (pxT 3)))
  (Ac (Ay (Aj Bm (pv 0) Ai (Ao _))
   (Ac (Ei (Ay (Aj Fl (Ag Bp (pv 1) Af) Af (Ao _))
   (Ad (Ak 4 (Gj El (pv 4))))
   Aq))
  (Ad (Al (Az (Aa (Ag Ar (Ag Ar (Ag Ar (Ag Ar (Ag Ar (Ag Ar Ai (BZ BL rfl Dp qo (Aa (pv 4) Ab))) Ai) (pxT 2)) Ai) (pxT 3)) Ai) (Aa (pv 6) (Aa (pv 7) Ab)))))))
   Aq)
  (Ad (Al (Az (Aa (Ag Ar (Ag Ar (Ag Ar (Ag Ar (Ag Ar (Ag Ar Ai (pxT 2)) Ai) (pv 0)) Ai) (pxT 3)) Ai) (Aa (pv 6) (Aa (pv 7) Ab)))))))))))))),?_⟩
 nofun;have k0:1<=1+x%3:=by lia
 have k3:1+x%3<=3:=by lia
 generalize 1+x%3=k at k0 k3 ⊢;have sk:Sm k:=Eh (by lia) (by lia);have sk':Sm (-k):=Eh (by lia) (by lia);rw[p40,p39];refine DQ ⟨64,200,Bh (by lia) (by lia) (by decide),Zc (by lia) (by lia),by decide⟩ ?_;nofun;have g0:=qg (x/6) (show (10000000000000000000000000000000000000000:Int)≠0 by decide);have g1:=qc (x/6) (show (0:Int)<10000000000000000000000000000000000000000 by decide);have gs:Sm (x/6%10000000000000000000000000000000000000000-5*1000000000000000000000000000000000000000):=Eh (by lia) (by lia);generalize x/6%10000000000000000000000000000000000000000-5*1000000000000000000000000000000000000000=g at gs ⊢;refine⟨_,rfl,Cd gs,?_⟩;have G:=Lg.n gs;have gl:=Df gs;have kl:=Df sk;have kl':=Df sk';nofun;refine CG (fun c=>?_) (fun c=>?_)
 ·nofun;refine An (SqT.of e1) Ed ?_;have Z:=(Lg.s "(not ").ap X;refine⟨_,_,rfl,rfl,Z.le,?_⟩;nofun;have Z:=Z.aps ")";refine⟨_,_,rfl,rfl,Z.le,?_⟩;nofun;refine An (SqT.of e1) G9 ?_;nofun;refine An (SqT.of e1) KJ ?_;nofun;refine⟨(by show 3<=sizeLine;decide),fun t ht=>q t (.no p) _ (Am ht _) (O2 (Z.eq (PT.tx_no _).symm) rfl (by simp only[PT.lv,PT.br];lia) N0.n.ok N0.n.kn ?_)⟩;rw[PT.tx_no];have h1:(sg "(not ").length=5:=by ac_rfl
  simp only[qf,PT.lv,PT.br];lia
 nofun;refine CG (fun c'=>?_) (fun c'=>?_)
 ·nofun;have Z:=(Lg.s "(").ap G;refine⟨_,_,rfl,rfl,Z.le,?_⟩;nofun;have Z:=Z.aps " later ";refine⟨_,_,rfl,rfl,Z.le,?_⟩;nofun;refine An (SqT.of e1) Ed ?_;have Z:=Z.ap X;refine⟨_,_,rfl,rfl,Z.le,?_⟩;nofun;have Z:=Z.aps ")";refine⟨_,_,rfl,rfl,Z.le,?_⟩;nofun;refine An (SqT.of e1) G9 ?_;nofun;refine An (SqT.of e1) KJ ?_;nofun;refine⟨(by show 3<=sizeLine;decide),fun t ht=>q t (.la g p) _ (Am ht _) (O2 (Z.eq (PT.tx_la _ _).symm) rfl (by simp only[PT.lv,PT.br];lia) ⟨gs,N0.n.ok⟩ N0.n.kn ?_)⟩;rw[PT.tx_la];have h1:(sg " later ").length=7:=by ac_rfl
  simp only[qf,PT.lv,PT.br];lia
 nofun;refine CG (fun c''=>?_) (fun c''=>?_)
 ·nofun;refine⟨_,rfl,Cd sk,?_⟩;have Z:=(Lg.s "(every ").ap (.n sk);refine⟨_,_,rfl,rfl,Z.le,?_⟩;nofun;have Z:=Z.aps " of ";refine⟨_,_,rfl,rfl,Z.le,?_⟩;nofun;refine An (SqT.of e1) Ed ?_;have Z:=Z.ap X;refine⟨_,_,rfl,rfl,Z.le,?_⟩;nofun;have Z:=Z.aps " from ";refine⟨_,_,rfl,rfl,Z.le,?_⟩;nofun;have Z:=Z.ap G;refine⟨_,_,rfl,rfl,Z.le,?_⟩;nofun;have Z:=Z.aps ")";refine⟨_,_,rfl,rfl,Z.le,?_⟩;nofun;refine An (SqT.of e1) G9 ?_;nofun;refine DQ ⟨64,64,Bh (by lia) (by lia) (by decide),Bh (by lia) (by lia) (by decide),by decide⟩ ?_;nofun;refine An (SqT.of e1) KJ ?_;nofun;have te:sg "(every "++nW k++sg " of "++p.tx++sg " from "++nW g++sg ")"=PT.tx (.ev k p g):=by rw[PT.tx_ev];simp
  refine⟨(by show 3<=sizeLine;decide),fun t ht=>q t (.ev k p g) _ (Am ht _) (O2 (Z.eq te) rfl (by simp only[PT.lv,PT.br];lia) ⟨sk,gs,N0.n.ok,k0,k3⟩ N0.n.kn ?_)⟩;rw[<-te];have h1:(sg "(every ").length=7:=by ac_rfl
  have h2:(sg " of ").length=4:=by ac_rfl
  have h3:(sg " from ").length=6:=by ac_rfl
  have h4:(nW k).length<=2:=by rcases(by lia:k=1\/k=2\/k=3) with e | e | e<;>subst e<;>ac_rfl
  simp only[qf,PT.lv,PT.br];lia
 nofun;refine An (SqT.of e1) G9 ?_;nofun;refine An (SqT.of e1) G9 ?_;nofun;refine An (SqT.of e2) G9 ?_;nofun;have gp:=Qs (b:=r.sz D) n1;have gl2:=nO (b:=r.sz D) n1;refine⟨_,_,rfl,n1,n2,?_⟩;refine DQ (Fb gp (by lia)) ?_;nofun;refine An (SqT.of e2) G9 ?_;have q0:=Int.ediv_nonneg (a:=p.sz D) (b:=(Int.gcd (p.sz D) (r.sz D):Int)) (by lia) (by lia);have q1:=ji7 (a:=p.sz D) (Int.gcd (p.sz D) (r.sz D):Int) (by lia);refine DQ ⟨64,64,Bh (by lia) (by lia) (by decide),Bh (by lia) (by lia) (by decide),by decide⟩ ?_;rw[show p.sz D/(Int.gcd (p.sz D) (r.sz D):Int)*r.sz D=Bx (p.sz D) (r.sz D) from rfl];nofun;refine An (SqT.of e1) KJ ?_;nofun;refine An (SqT.of e2) KJ ?_;nofun;refine CG (fun co=>?_) (fun co=>?_)
 ·nofun;refine EY (fun Z' H'=>H'=H/\∃k':Int,An3 (Sm k') (k'≠0) (Z'=[some (.str wd),some (.int x),some (.ref a),some (.ref b),some (.int k'),some (.str (De g)),some (.int (Bx (p.sz D) (r.sz D))),some (.int (1+((p.lv+p.br:Nat):Int)+((r.lv+r.br:Nat):Int))),none])) ?_ ?_
  ·nofun;refine CG (fun z=>?_) (fun z=>?_)
   ·nofun;exact⟨rfl,-k,sk',by lia,rfl⟩
   ·nofun;exact⟨rfl,k,sk,by lia,rfl⟩
  rintro Z' H' ⟨rfl,k',ks,kz,rfl⟩;have kl:=Df ks;nofun;refine⟨_,rfl,Cd ks,?_⟩;have Z:=(Lg.s "(").ap (.n ks);refine⟨_,_,rfl,rfl,Z.le,?_⟩;nofun;have Z:=Z.aps " of ";refine⟨_,_,rfl,rfl,Z.le,?_⟩;nofun;refine An (SqT.of e1) Ed ?_;have Z:=Z.ap X;refine⟨_,_,rfl,rfl,Z.le,?_⟩;nofun;have Z:=Z.aps " from ";refine⟨_,_,rfl,rfl,Z.le,?_⟩;nofun;refine An (SqT.of e2) Ed ?_;have Z:=Z.ap Y;refine⟨_,_,rfl,rfl,Z.le,?_⟩;nofun;have Z:=Z.aps ")";refine⟨_,_,rfl,rfl,Z.le,?_⟩;nofun;refine⟨(by show 3<=sizeLine;decide),fun t ht=>q t (.nt k' p r) _ (Am ht _) (O2 (Z.eq (PT.tx_nt _ _ _).symm) rfl (by simp only[PT.lv,PT.br];lia) ⟨ks,N0.n.ok,N1.n.ok,kz⟩ ⟨N0.n.kn,N1.n.kn⟩ ?_)⟩;rw[PT.tx_nt];have h1:(sg " of ").length=4:=by ac_rfl
  have h2:(sg " from ").length=6:=by ac_rfl
  simp only[qf,PT.lv,PT.br];lia
 ·obtain⟨w,rfl⟩:∃w:PK,wd=w.s:=hw.resolve_left fun z=>by
   simp only[qm,yb,or_false] at z;rcases z with z | z | z | z
   ·exact c (xo V.str z)
   ·exact c' (xo V.str z)
   ·exact c'' (xo V.str z)
   ·exact co (xo V.str z)
  nofun;refine An (SqT.of e1) Ed ?_;have Z:=(Lg.s "(").ap X;refine⟨_,_,rfl,rfl,Z.le,?_⟩;nofun;have Z:=Z.aps " ";refine⟨_,_,rfl,rfl,Z.le,?_⟩;nofun;have L1:Lg (Str.ofString w.s) (sg w.s) 6:=⟨rfl,by cases w<;>ac_rfl⟩;have Z:=Z.ap L1;refine⟨_,_,rfl,rfl,Z.le,?_⟩;nofun;have Z:=Z.aps " ";refine⟨_,_,rfl,rfl,Z.le,?_⟩;nofun;refine An (SqT.of e2) Ed ?_;have Z:=Z.ap Y;refine⟨_,_,rfl,rfl,Z.le,?_⟩;nofun;have Z:=Z.aps ")";refine⟨_,_,rfl,rfl,Z.le,?_⟩;nofun;have te:sg "("++p.tx++sg " "++sg w.s++sg " "++r.tx++sg ")"=PT.tx (.pr w p r):=by rw[PT.tx_pr,PT.pk_t];simp
  refine⟨(by show 3<=sizeLine;decide),fun t ht=>q t (.pr w p r) _ (Am ht _) (O2 (Z.eq te) rfl (by simp only[PT.lv,PT.br];lia) ⟨N0.n.ok,N1.n.ok⟩ ⟨N0.n.kn,N1.n.kn⟩ ?_)⟩;rw[<-te];have h1:=L1.l;have h2:(sg " ").length=1:=by ac_rfl
  simp only[qf,PT.lv,PT.br];lia
theorem ZZ:C0 3 "_law_text" ["_law_script","_law_days"] (qC K):=by
 refine co' ["_law_script","_law_days","_law_leaves","_law_words","_law_nodes","_law_k","_law_word","_law_beside","_law_one","_law_other","_law_found"] aC (fun h=>?_) fun nd H vs Q E hr h=>?_
 ·obtain⟨a,ns,D,rfl,_⟩:=h;rfl
 obtain⟨a,ns,D,rfl,hS,nl,d1,d60,q⟩:=h;refine zH ⟨_,(Ip (bw (i:=2) nd rfl (by walk_at"o") (XS (ss:=["each","date","each","none","all"]) (by rfl)))
  (Ip (bw (i:=3) nd rfl (by walk_at"o") (XS (ss:=["and","upon","or","not","of","but","until","later","but","near","each","till","every"]) (by rfl)))
  (Ip (bw (i:=3) nd rfl (by walk_at"o") (ABd Wm (be (pv 3)) (XS (ss:=["unlike","date","none","all","or","or"]) (by rfl))))
  (Ip (bs (Ak 4 (En (Aa (Ae J9 (Aa Ai (Aa (Ae Dl (Aa (pv 0) (Aa Af Ab))) (Aa (pv 1) Ab)))) Ab))))
  (Ip (bs (BR (GK ve jb4 jb5 GQ (pv 4) (Aa (Ae J9 (Aa (CT Ck (pv 2) (Ag Bp (Ae Dl (Aa (pv 0) (Aa Af Ab))) Af) (fun _ _=>rfl)) (Aa (Ae Dl (Aa (pv 0) (Aa Af Ab))) (Aa (pv 1) Ab)))) Ab))))
  (Ip (bs (Ib PassesOwn.never rfl (Ka rfl Gu (Aa Af (Aa (BJ (jB rfl) rfl um PyProof.Rows.boot_min (Aa (BJ BK rfl Cq xa (Aa (pv 0) Ab)) (Aa Af Ab))) (Aa Af Ab)))) (FJ (i:=5) nd rfl (by walk_at"o"))
   (Ac (Ak 6 (CT Ck (pv 3) (Ag Bp (CT Ck (pv 0) (pv 5) (fun _ _=>rfl)) Af) (fun _ _=>rfl)))
  (Ac (Ak 7 (Ae Dl (Aa (pv 0) (Aa (Ag Bq (pv 5) Af) Ab))))
  (Ac (Ak 8 (CT Ck (pv 4) (Ag DN (Ag DN (BJ BK rfl Cq xa (Aa (pv 4) Ab)) Af) (Ag Bp (Ag Bp (Ag Bs (CT Ck (pv 0) (pv 5) (fun _ _=>rfl)) Af) Af) (BJ BK rfl Cq xa (Aa (pv 4) Ab)))) (fun _ _=>rfl)))
  (Ac (Ei (Ay (Aj Bm (Ag Bp (Ag Bs (CT Ck (pv 0) (pv 5) (fun _ _=>rfl)) Af) Af) Af (Ao _))
   (Ad (Ak 8 (CT Ck (pv 4) (Ag Bp (Ag Bs (CT Ck (pv 0) (pv 5) (fun _ _=>rfl)) Af) (BJ BK rfl Cq xa (Aa (pv 4) Ab))) (fun _ _=>rfl))))
   Aq))
  (Ac (Ak 9 (CT Ck (pv 4) (Ag Bp (Ag Bp (Ag Bs (CT Ck (pv 0) (pv 5) (fun _ _=>rfl)) Af) Af) (BJ BK rfl Cq xa (Aa (pv 4) Ab))) (fun _ _=>rfl)))
  (Ac (Ak 10 Hm)
  (Ac (Ei (Ay (Aj gZ (pv 6) (pv 2) (by rfl))
   (Ad (Ak 10 (Ae J9 (Aa (pv 6) (Aa (pv 7) (Aa (pv 1) Ab))))))
   (Ad (Ak 10 (Ae XQ (Aa (pv 6) (Aa (pv 7) (Aa (pv 8) (Aa (pv 9) Ab)))))))))
  (Ad (Ei (Ay (PW.pt (K6 (Aj Ja (pxT 10) Af (Ao _)) (JD (Aj Ja (pxT 10) Af (Ao _)))))
   (Ad (BR (GK ve jb4 jb5 GQ (pv 4) (Aa (pv 10) Ab))))
   Aq))))))))))))
  (uN (bs (Al (CT Ho (CT Ck (pv 4) (Gj El Af) (fun _ _=>rfl)) Af (fun _ _=>rfl))))))))))),?_⟩
 nofun;refine Ql ?_;refine⟨(by show 5<=sizeLine;decide),fun lv hlv=>?_⟩;refine fresh hlv fun H1 s1 t1=>?_;nofun;refine Ql ?_;refine⟨(by show 13<=sizeLine;decide),fun lw0 hlw0=>?_⟩;refine fresh hlw0 fun H2 s2 t2=>?_;nofun;refine Ql ?_;refine⟨(by show 6<=sizeLine;decide),fun lw1 hlw1=>?_⟩;refine fresh hlw1 fun H3 s3 t3=>?_;nofun;refine⟨lw0,lw1,_,_,rfl,rfl,s3 _ _ t2,t3,(by show 13+6<=sizeLine;decide),fun lw hlw=>?_⟩;refine fresh hlw fun H4 s4 t4=>?_;rw[<-yi] at t4;have t4:H4 lw=some (.lst (wdS.map V.str)):=t4;have tv4:H4 lv=some (.lst (lvS.map V.str)):=(s2.trans (s3.trans s4)) _ _ t1;have s4:=s1.trans (s2.trans (s3.trans s4));clear t2 t3 t1;nofun;refine KZ (s4.seq hS) nl (by lia) ?_;nofun;refine⟨_,_,D,rfl,d1,d60,fun a1 p1 H5 s5 N1=>?_⟩;nofun;refine⟨(by show 1<=sizeLine;decide),fun L hL=>?_⟩;have hL5:=hL;refine fresh hL fun H6 s6 t6=>?_;have R6:Xb D H6 L [(a1,p1)]:=⟨t6,fun z hz=>by obtain rfl:=vj.mp hz;exact N1.same s6⟩;nofun;refine HW rfl t6 ?_;have s56:=s5.trans s6;have s06:=s4.trans s56;nofun;refine KZ (s06.seq hS) nl (by lia) ?_;nofun;obtain⟨wl,_,ewl⟩:=eU (ss:=lvS) (qg (ns.getD (4:Int).toNat 0) (show (5:Int)≠0 by decide)) (qc (ns.getD (4:Int).toNat 0) (show (0:Int)<5 by decide));refine Bc (SqL.of (s56 _ _ tv4)) ewl ?_;nofun;refine KZ (s06.seq hS) nl (by lia) ?_;nofun;refine⟨wl,_,D,rfl,d1,d60,fun a2 p2 H9 s9 N2=>?_⟩;refine Ge ?_;have R9:=R6.same s9;refine Nt R9.1 (by show 1<sizeLine;decide) ?_;have RA:=R9.app N2;have sA:Ax H5 (upd H9 L (.lst (([(a1,p1)].map fun z=>V.ref z.1)++[.ref a2]))):=Cz hL5 (s6.trans s9);generalize upd H9 L (.lst (([(a1,p1)].map fun z=>V.ref z.1)++[.ref a2]))=HA at RA sA ⊢;have tv5:=s5 _ _ tv4;have tw5:=s5 _ _ t4;have s05:=s4.trans s5;have hS5:=s05.seq hS;clear R6 R9 s6 s9 N1 N2 s06 s56 ewl t6 tv4 t4;nofun;refine Nq (Qm ?_);nofun;refine⟨a,_,rfl,.inl (sA.seq hS5),?_⟩;rw[jp];nofun;refine⟨_,_,rfl,?_⟩;obtain⟨M,hM⟩:∃M:Int,(if (26:Int)<(ns.length:Int) then (26:Int) else (ns.length:Int))=M:=⟨_,rfl⟩;have M0:0<=M/\M<=26/\M<=(ns.length:Int):=by split at hM<;>lia
 rw[hM];nofun;obtain⟨n,hn,n10,hk⟩:∃n:Nat,(n:Int)=Builtin.Range.rangeSize 6 M 2/\n<=10/\∀k:Nat,k<n->6+(k:Int)*2<M:=by
  rw[Gf (by lia)];by_cases c:6<M
  ·rw[xz c];exact⟨((M-6-1)/2+1).toNat,by lia,by lia,fun k hk=>by lia⟩
  ·rw[yv c];exact⟨0,rfl,by lia,fun k hk=>absurd hk (Nat.not_lt_zero k)⟩
 refine⟨6,M,2,rfl,by lia,by lia,Hh (by lia) (by lia) (by lia) (by lia) (by lia) (by lia),n,hn,LQ (fun i Z' H'=>Ax H5 H'/\Ex7 fun(zs:List (Addr×PT)) (v5 v6 v7 v8 v9 v10:Option V)=>An4 (Xb D H' L zs) (2<=zs.length) (zs.length<=2+i) (Z'=[some (.ref a),some (.int D),some (.ref lv),some (.ref lw),some (.ref L),v5,v6,v7,v8,v9,v10])) ⟨sA,[(a1,p1),(a2,p2)],none,none,none,none,none,none,RA,(by show 2<=2;decide),(by show 2<=2+0;decide),rfl⟩ ?_ ?_⟩
 ·rintro i Z' H' hi ⟨sH,zs,v5,v6,v7,v8,v9,v10,R,z2,zi,rfl⟩;have kM:=hk i hi;generalize hkk:(6:Int)+(i:Int)*2=kk at kM ⊢;have hSH:=sH.seq hS5;have hat:=eV (ns:=ns) (k:=kk) (by lia) (by lia);generalize ns.getD kk.toNat 0=x at hat;have zl:(0:Int)<(zs.length:Int):=by lia
  nofun;refine Bc hSH hat ?_;nofun;obtain⟨wd,hwd,ewd⟩:=eU (ss:=wdS) (qg x (show (19:Int)≠0 by decide)) (qc x (show (0:Int)<19 by decide));refine Bc (SqL.of (sH _ _ tw5)) ewd ?_;nofun;refine KZ hSH nl (by lia) ?_;generalize ns.getD (kk+1).toNat 0=y;nofun;refine⟨L,_,rfl,.inl (SqL.of R.1),?_⟩;rw[jp];nofun;refine Bc hSH hat ?_;nofun;refine⟨L,_,rfl,.inl (SqL.of R.1),?_⟩;rw[jp];nofun;have a0:=qg (x/38%3) (show (zs.length:Int)≠0 by lia);have b1:=qc (x/38%3) zl;obtain⟨o,ho,eo⟩:=Tg (zs:=zs) (k:=(zs.length:Int)-1-x/38%3%(zs.length:Int)) (by lia) (by lia);refine Bc (SqL.of R.1) eo ?_;nofun;refine EY (fun Z' H3=>H3=H'/\∃z,z∈zs/\Z'=[some (.ref a),some (.int D),some (.ref lv),some (.ref lw),some (.ref L),some (.int kk),some (.str wd),some (.int y),some (.ref z.1),v9,v10]) ?_ ?_
  ·nofun;refine Bc hSH hat ?_;nofun;refine CG (fun c=>?_) (fun c=>?_)
   ·nofun;refine Bc hSH hat ?_;nofun;refine⟨L,_,rfl,.inl (SqL.of R.1),?_⟩;rw[jp];nofun;obtain⟨o',ho',eo'⟩:=Tg (zs:=zs) (qg (x/2280) (show (zs.length:Int)≠0 by lia)) (qc (x/2280) zl);refine Bc (SqL.of R.1) eo' ?_;nofun;exact⟨rfl,o',ho',rfl⟩
   ·nofun;exact⟨rfl,o,ho,rfl⟩
  clear eo ho;rintro Z' Hx ⟨hx,o,ho,rfl⟩;subst hx;nofun;refine Bc hSH hat ?_;nofun;refine⟨L,_,rfl,.inl (SqL.of R.1),?_⟩;rw[jp];nofun;obtain⟨o2,ho2,eo2⟩:=Tg (zs:=zs) (qg (x/114%20) (show (zs.length:Int)≠0 by lia)) (qc (x/114%20) zl);refine Bc (SqL.of R.1) eo2 ?_;nofun;refine EY (fun Z' H4=>Ax Hx H4/\Ex2 fun b p=>Nd0 D H4 b p/\Z'=[some (.ref a),some (.int D),some (.ref lv),some (.ref lw),some (.ref L),some (.int kk),some (.str wd),some (.int y),some (.ref o.1),some (.ref o2.1),some (.ref b)]) ?_ ?_
  ·nofun;refine⟨lv,_,rfl,.inl (SqL.of (sH _ _ tv5)),rfl,iW lvS,?_⟩;nofun;cases hb:inV (V.str wd) (lvS.map V.str) with
   | true=>
    refine FW ?_;nofun;refine⟨wd,y,D,rfl,d1,d60,fun b p H4 s4 N=>?_⟩;nofun;exact⟨s4,b,p,N.n,rfl⟩
   | false=>
    refine Ep ?_;nofun;refine⟨wd,y,o.1,o2.1,o.2,o2.2,D,rfl,vo hwd hb,d1,R.2 o ho,R.2 o2 ho2,fun b p H4 s4 N=>?_⟩;nofun;exact⟨s4,b,p,N,rfl⟩
  rintro Z' H4 ⟨s4,b,p,N,rfl⟩;have R4:=R.same s4;have sH4:=sH.trans s4;nofun;refine EY (fun Z' H4=>Ax H5 H4/\∃zs',An4 (Xb D H4 L zs') (2<=zs'.length) (zs'.length<=2+(i+1)) (Z'=[some (.ref a),some (.int D),some (.ref lv),some (.ref lw),some (.ref L),some (.int kk),some (.str wd),some (.int y),some (.ref o.1),some (.ref o2.1),some (.ref b)])) ?_ ?_
  ·nofun;refine An (SqT.of N.h) G9 ?_;nofun;refine CG (fun c1=>?_) (fun c1=>?_)
   ·nofun;refine An (SqT.of N.h) KJ ?_;nofun;refine CG (fun c=>?_) (fun c=>?_)
    ·nofun;refine HW rfl R4.1 ?_;nofun;refine Nt R4.1 (by rw[jp,sizeLine_eq];lia) ?_;exact⟨Cz hL5 sH4,zs++[(b,p)],R4.app ⟨N,by lia,by lia⟩,by rw[qf];lia,by rw[qf];show zs.length+1<=_;lia,rfl⟩
    ·nofun;exact⟨sH4,zs,R4,z2,by lia,rfl⟩
   ·refine Ep ?_;nofun;exact⟨sH4,zs,R4,z2,by lia,rfl⟩
  rintro Z' H5' ⟨s5',zs',R5,z4,z5,rfl⟩;exact⟨s5',zs',_,_,_,_,_,_,R5,z4,z5,rfl⟩
 ·rintro Z' H' ⟨sH,zs,v5,v6,v7,v8,v9,v10,R,z2,zi,rfl⟩;nofun;obtain⟨o,ho,eo⟩:=uP (zs:=zs) (by lia);refine Bc (SqL.of R.1) eo ?_;nofun;have N:=R.2 o ho;refine An (SqT.of N.n.h) Ed ?_;nofun;exact q o.2 _ (s05.trans sH) N.fine N.sz
theorem Ky:C0 1 "_law_joined" ["_law_texts"] qR:=by
 refine co' ["_law_texts","_law_pairs"] WL (fun h=>?_) fun nd H vs Q E hr h=>?_
 ·obtain⟨l,us,D,n,rfl,_⟩:=h;rfl
 obtain⟨l,us,D,n,rfl,hl,l60,hu,n0,f60,q⟩:=h;refine⟨_,(Ac (Ay (Aj (Ye hr.units) (pv 0) (En Ab) (Ao _))
  (Ad (Al Ai))
  Aq)
  (Ac (FT PassesOwn.never (Aj Fl (BJ BK rfl Cq xa (Aa (pv 0) Ab)) Af (Ao _))
   (Ac (JG (i:=1) nd rfl (by walk_at"o") rfl (Cw ["_law_texts","_law_pairs"] ["_law_texts","_law_pairs"] rfl rfl (by with_unfolding_all rfl) (by ac_rfl) rfl (by ac_rfl) rfl (by ac_rfl) (by walk_at"fm") (by with_unfolding_all rfl) (by with_unfolding_all rfl)) (Ka rfl Gu (Aa Af (Aa (Ag DN (BJ BK rfl Cq xa (Aa (pv 0) Ab)) Af) (Aa Af Ab)))) (fun _ _ _ _=>Dr) (fun _ _ _ _=>(Ag Ar (Ag Ar (Ag Ar (Ag Ar Ai (CT N8 (pv 1) (pv 0) (fun _ _=>rfl))) Ai) (CT N8 (pv 1) (Ag Bq (pv 0) Af) (fun _ _=>rfl))) Ai)))
  (Ac (Ei (Ay (Aj Bm (Ag Bp (BJ BK rfl Cq xa (Aa (pv 0) Ab)) Af) Af (Ao _))
   (Ad (BR (GK ve jb4 jb5 GQ (pv 1) (Aa (CT Ck (pv 0) (Gj El Af) (fun _ _=>rfl)) Ab))))
   Aq))
  (Ad (Ak 0 (pv 1))))))
  (Ad (Al (pxL 0))))),?_⟩
 nofun;refine⟨(by show 0<=sizeLine;decide),fun e he=>?_⟩;refine fresh he fun H1 s1 t1=>?_;refine⟨l,e,_,rfl,rfl,SqL.of (s1 _ _ hl),SqL.of t1,?_⟩;nofun;cases us with
 | nil=>
  refine FW ?_;nofun;have:=q (.lf false) H1 s1 (fun _=>rfl) (fun z=>absurd rfl z);rw[cI] at this;exact this
 | cons u0 us=>
 refine Ep ?_;nofun;have hl1:=s1 _ _ hl;generalize hw:u0::us=ws at hl1 l60 hu f60 q;have w1:1<=ws.length:=by rw[<-hw];simp
 have wn:ws≠[]:=by rw[<-hw];simp
 refine⟨fun m Z' H'=>Ax H1 H'/\∃(l':Addr) (vs:List (PT×List Int)) (j f:Nat) (v1:Option V),H' l'=some (.lst (txV vs))/\(∀u∈vs,Ut D n j u)/\vs.flatMap (·.2)=ws.flatMap (·.2)/\1<=vs.length/\vs.length<=60/\vs.length<=2^f/\j+f=6/\f=m/\Z'=[some (.ref l'),v1],⟨6,Ax.refl _,l,ws,0,6,none,hl1,hu,rfl,w1,l60,by lia,rfl,rfl,rfl⟩,?_⟩;rintro m Z' H' ⟨sH,l',vs,j,f,v1,hv,Uv,Fv,v0,v60,vf,jf,rfl,rfl⟩;nofun;refine⟨l',_,rfl,.inl (SqL.of hv),?_⟩;have lv:(txV vs).length=vs.length:=jp _;have tlu:∀u∈vs,u.1.tx.length<=1400:=fun u hu=>by have:=(Uv u hu).tl;have:=vY hu;rw[Fv] at this;lia
 rw[lv];nofun;refine CG (fun c=>?_) (fun c=>?_)
 ·refine⟨_,fun Z' H' hh=>hh,?_⟩;nofun;refine Em (Qm ?_);nofun;refine⟨l',_,rfl,.inl (SqL.of hv),?_⟩;rw[lv];nofun;have hk:((vs.length/2:Nat):Int)=Builtin.Range.rangeSize 0 ((vs.length:Int)-1) 2:=by
   rw[Gf (by lia),xz (by lia)];lia
  refine⟨0,_,2,rfl,by lia,by lia,Hh (by lia) (by lia) (by lia) (by lia) (by lia) (by lia),vs.length/2,hk,?_⟩;refine Hr pK (by rw[jp,uu,sizeLine_eq];lia) (fun D i ys H3=>H3 D=some (.lst ys)/\Ax H' H3/\ys=txV (pr2 (vs.take (2*i)))/\ys.length=i) (fun D hD=>⟨Ah,Am hD _,rfl,rfl⟩)
   (fun D i ys H3 _ ⟨h1,h2,h3,h4⟩=>⟨h1,by lia,trivial⟩) (fun D i v ys H3 hD hx ⟨h1,h2,h3,h4⟩=>?_) (fun lp ys H3 hlp ⟨h1,h2,h3,h4⟩=>?_)
  ·have hi:i<vs.length/2:=jd8 fun z=>by
    rw[jd1 (by rw[jp,uu];exact z)] at hx;cases hx
   rw[xc,List.getElem?_range hi] at hx;obtain rfl:v=V.int ((2*i:Nat):Int):=by
    rw[<-ki hx];exact xo V.int (by lia)
   have i0:2*i<vs.length:=by lia
   have i1:2*i+1<vs.length:=by lia
   have hS:=SqL.of (K:=K) (h2 _ _ hv);refine Iz (FW ?_);nofun;refine Bc hS (jY i0) ?_;have Z:=(Lg.s "(").ap (.w _ (tlu _ (jd6 i0)));refine⟨_,_,rfl,rfl,Z.le,?_⟩;nofun;have Z:=Z.aps " or ";refine⟨_,_,rfl,rfl,Z.le,?_⟩;nofun;rw[show ((2*i:Nat):Int)+1=((2*i+1:Nat):Int) by lia];refine Bc hS (jY i1) ?_;have Z:=Z.ap (.w _ (tlu _ (jd6 i1)));refine⟨_,_,rfl,rfl,Z.le,?_⟩;nofun;have Z:=Z.aps ")";refine⟨_,_,rfl,rfl,Z.le,?_⟩;refine⟨h1,Ah,Cz hD h2,?_,by rw[qf,h4];rfl⟩;rw[pN i1,<-h3,Z.eq (PT.tx_pr .or _ _).symm]
  rw[jp,uu] at h3 h4;nofun;have hS:=SqL.of (K:=K) (h2 _ _ hv);refine EY (fun Z' H4=>An3 (Ax H' H4) (H4 lp=some (.lst (txV (pr2 vs)))) (Z'=[some (.ref l'),some (.ref lp)])) ?_ ?_
  ·nofun;refine⟨l',_,rfl,.inl hS,?_⟩;rw[lv];nofun;refine CG (fun o=>?_) (fun o=>?_)
   ·have o:=V.int.inj o;have e:vs.length=2*(vs.length/2)+1:=by lia
    nofun;refine HW rfl h1 ?_;nofun;refine Bc hS (Ze (v:=.str (sW (vs[2*(vs.length/2)]'(by lia)).1.tx)) ?_) ?_
    ·rw[lv,show vs.length-1=2*(vs.length/2) by lia];unfold txV;rw[xc,qv (by lia)];rfl
    refine Ge ?_;refine Nt h1 (by rw[h4,sizeLine_eq];lia) ?_;exact⟨Cz hlp h2,by rw[Ah];exact xo (fun z=>some (HO.lst z)) (by rw[pO e,<-h3]),rfl⟩
   ·have o:¬((vs.length:Int)%2=1):=fun z=>o (xo V.int z);nofun;rw[yy (by lia)] at h3;exact⟨h2,by rw[h1,h3],rfl⟩
  rintro Z' H4 ⟨s4,t4,rfl⟩;nofun;have pl:=cg vs;obtain _ | f:=f
  ·rw[Nat.pow_zero] at vf;lia
  rw[Nat.pow_succ] at vf;exact⟨f,jj0 f,sH.trans s4,lp,pr2 vs,j+1,f,some (.ref lp),t4,lV n0 _ Uv,(lW vs).trans Fv,by lia,by lia,by lia,by lia,rfl,rfl⟩
 ·nofun;obtain⟨u,rfl⟩:∃u,vs=[u]:=List.length_eq_one_iff.mp (by lia);refine Bc (SqL.of hv) Ed ?_;nofun;have U:=(Uv u (by simp)).mono (show j<=6 by lia);have e2:u.2=ws.flatMap (·.2):=by rw[<-Fv];simp
  refine q u.1 H' (s1.trans sH) (fun z=>absurd z wn) fun _=>?_;rw[<-e2];exact U
theorem Ur:C0 135 "_law_parted" ["_law_desk","_law_size","_law_held","_law_cell","_law_day"] (qH K ⟨Ey,Bk,Av,Ba,CL⟩):=by
 refine co' ["_law_desk","_law_size","_law_held","_law_cell","_law_day","_law_gone","_law_texts","_law_due"] WK (fun h=>?_) fun nd H vs Q E hr h=>?_
 ·obtain⟨x,lh,z,cell,day,hs,D,j,m,n,b,rfl,_⟩:=h;rfl
 obtain⟨x,lh,z,cell,day,hs,D,j,m,n,b,rfl,hl,dk,j40,D0,ma,HL,hn,dy0,dy1,q⟩:=h;have l0:(0:Int)<(hs.length:Int):=by have:=List.length_pos_iff.mpr hn;lia
 obtain⟨g,gm,eg⟩:=zL (c:=cell) hn;have z0:=HL.z0;have z1:=HL.z1;have z2:(0:Int)<(z:Int):=by lia
 have gz:=HL.mem g gm;have sd:Sm day:=Eh (by lia) (by lia);have r0:=qg (g-day) (show (z:Int)≠0 by lia);have r1:=qc (g-day) z2;have sz:Sm (z:Int):=Eh (by lia) (by lia);refine⟨_,(Ac (Ak 5 (CT Ck (pv 2) (Ag Bp (pv 3) (BJ BK rfl Cq xa (Aa (pv 2) Ab))) (fun _ _=>rfl)))
  (Ac (JG (i:=6) nd rfl (by walk_at"o") rfl (Cw ["_law_desk","_law_size","_law_held","_law_cell","_law_day","_law_gone","_law_texts","_law_due"] ["_law_desk","_law_size","_law_held","_law_cell","_law_day","_law_gone","_law_texts","_law_due"] rfl rfl (by with_unfolding_all rfl) (by ac_rfl) rfl (by ac_rfl) rfl (by ac_rfl) (by walk_at"fm") (by with_unfolding_all rfl) (by with_unfolding_all rfl)) (Fx (pv 2)) (fun _ _ _ _=>(Jq (Aj Ek (pv 0) (pv 6) (Ao _)))) (fun _ _ _ _=>(Ag Ar (Ag Ar (Ag Ar Ai (BZ BL rfl Dp qo (Aa (pv 2) Ab))) Ai) (BZ BL rfl Dp qo (Aa (pv 0) Ab)))))
  (Ac (Ay (Aj Ek (DR Cg Bu (pv 0) (Aa (Ag Ar Ai (Ae Ky (Aa (pv 6) Ab))) Ab)) Ai (Ao _))
   (Ad (Al Jr))
   Aq)
  (Ac (Ak 7 (Ag Bq (pv 4) (Ag Bp (Ag DN (pv 5) (pv 4)) (pv 1))))
  (Ac (Ay (Aj Ek (DR Cg Bu (pv 0) (Aa (Ag Ar Ai (BZ BL rfl Dp qo (Aa (pv 4) Ab))) Ab)) (Ag Ar Ai (BZ BL rfl Dp qo (Aa (pv 7) Ab))) (Ao _))
   (Ad (Al Jr))
   Aq)
  (Ac (Ay (Aj Ek (Ej NK (DR Cg Bu (pv 0) (Aa (Ag Ar Ai (BZ BL rfl Dp qo (Aa (pv 4) Ab))) Ab)) Fe (Fd Af)) Ai (Ao _))
   (Ad (Al Jr))
   Aq)
  (Ad (Al (HN Ek (DR Cg Bu (pv 0) (Aa (Ag Ar Ai (BZ BL rfl Dp qo (Aa (pv 7) Ab))) Ab)) (Ag Ar Ai (BZ BL rfl Dp qo (Aa (pv 7) Ab))) (Ao _)))))))))),?_⟩
 nofun;refine⟨lh,_,rfl,.inl (SqL.of hl),?_⟩;rw[jp];nofun;refine Bc (SqL.of hl) eg ?_;nofun;refine Em (Jp ?_);nofun;refine⟨lh,rfl,⟨_,SqL.of hl⟩,?_⟩;refine Hr K1 (by rw[jp,sizeLine_eq];have:=HL.l;lia) (fun D i ys H3=>H3 D=some (.lst ys)/\Ax H H3/\ys=txV (eaU z ((hs.take i).filter fun k=>decide (k≠g)))/\ys.length<=i) (fun D hD=>⟨Ah,Am hD _,rfl,qh _⟩)
  (fun D i ys H3 _ ⟨h1,h2,h3,h4⟩=>⟨h1,h4,SqL.of (h2 _ _ hl)⟩) (fun D i v ys H3 hD hx ⟨h1,h2,h3,h4⟩=>?_) (fun lt ys H3 hlt ⟨h1,h2,h3,h4⟩=>?_)
 ·obtain⟨k,hk,rfl,ek⟩:=ABe hx;have kz:=HL.mem k hk;rw[ek,jh9];nofun;by_cases c:k=g
  ·refine FN (xo V.int c) ?_;refine⟨h1,h2,?_,by lia⟩;rw[h3,List.filter_cons_of_neg (by simp[c]),List.filter_nil,ya]
  ·refine dZ (fun z=>c (V.int.inj z)) ?_;have sk:Sm k:=Eh (by lia) (by lia);nofun;refine⟨_,rfl,Cd sz,?_⟩;have Z:=(Lg.s "each ").ap (.n sz);refine⟨_,_,rfl,rfl,Z.le,?_⟩;nofun;have Z:=Z.aps " from ";refine⟨_,_,rfl,rfl,Z.le,?_⟩;nofun;refine⟨_,rfl,Cd sk,?_⟩;have Z:=Z.ap (.n sk);refine⟨_,_,rfl,rfl,Z.le,?_⟩;refine⟨h1,Ah,Cz hD h2,?_,by rw[qf];show ys.length+1<=i+1;lia⟩;rw[List.filter_cons_of_pos (by simp[c]),List.filter_nil,du,<-h3];exact xo (fun z=>ys++[V.str z]) (Z.eq (PT.tx_each _ _).symm)
 ·rw[jp,ja9] at h3;subst h3;have fm:∀k∈hs.filter (fun k=>decide (k≠g)),0<=k/\k<(z:Int):=fun k hk=>HL.mem k (je4.mp hk).1;have fl:(hs.filter fun k=>decide (k≠g)).length<=60:=zv (jf3 _ _) HL.l;have dk3:=dk.same h2;obtain⟨dx,_,_,_,hx3,_⟩:=id dk3.ex;nofun;refine⟨x,dx,_,rfl,hx3,rfl,?_⟩;nofun;refine⟨lt,eaU z (hs.filter fun k=>decide (k≠g)),D,z,rfl,h1,by unfold eaU;rw[jp];exact fl,nq (by lia) (by lia) fm,z2,by rw[W9];exact fl,fun p H4 s4 e0 e1=>?_⟩;have U:Un D z _ p:=Un.of (by lia) (by lia) fl e0 e1;have Z:=(Lg.s "rule c ").ap (.w p.tx U.f.tl);refine⟨_,_,rfl,rfl,Z.le,?_⟩;rw[Z.eq (ACo p).symm];nofun;refine⟨x,some D,j,m,_,rfl,WW sO U.f,dk3.same s4,by lia,D,rfl,D0,U.f,fun bc H5 k5 dk5 ev=>?_⟩;have nc0:=U.n0;have nc1:=U.n1;have hc:((p.sz D).toNat:Int)=p.sz D:=by lia
  have oc:=U.on bc ev;rw[<-hc] at oc;generalize (p.sz D).toNat=nc at oc dk5 hc;have ma5:setM m (sg "c") (nc,bc) (sg "a")=some (n,b):=(yv (by ac_rfl)).trans ma;have mc5:setM m (sg "c") (nc,bc) (sg "c")=some (nc,bc):=xz rfl;generalize setM m (sg "c") (nc,bc)=m' at dk5 ma5 mc5;have n0:=HL.n0;have n1:=HL.n1;have few:Ux n nc/\Ux nc n:=nY n0 n1 (by lia) (by lia);nofun;refine FN rfl ?_;nofun;have dm:=dw (g:=g) (day:=day) z2;have pa:=fun e P=>rY (e:=e) (day:=day) HL gm oc P;generalize hdue:day+(g-day)%(z:Int)=due at dm pa;have su:Sm due:=Eh (by lia) (by lia);obtain⟨dx5,_,_,_,hx5,_⟩:=id dk5.ex;refine⟨x,dx5,_,rfl,hx5,rfl,?_⟩;nofun;refine⟨_,rfl,Cd sd,?_⟩;have Z:=(Lg.s "same a c ").ap (.n sd);refine⟨_,_,rfl,rfl,Z.le,?_⟩;nofun;refine⟨x,some D,j+1,m',.same (sg "a") (sg "c") day,xo (fun z=>[V.ref x,V.str z]) (Z.eq (ABl day).symm),Jh Uj sO sd,dk5,by lia,n,b,nc,bc,ma5,mc5,⟨by lia,by lia⟩,fun z' y H6 s6 L1 L2=>?_,fun e H6 s6 P=>?_⟩
  ·refine absurd ((diff HL gm oc g).mp ?_) (fun c=>c (by rw[Int.sub_self,Int.zero_emod]));rw[L1.on n0,L2.on (by lia)]
  obtain rfl:=pa e P;have dk6:=dk5.same s6;obtain⟨dx6,_,_,_,hx6,_⟩:=id dk6.ex;nofun;refine⟨_,rfl,Cd su,?_⟩;have Z:=(Lg.s "parted ").ap (.n su);refine⟨_,_,rfl,rfl,Z.le,?_⟩;nofun;refine FN (xo V.str (Z.eq (by rw[<-ke];rfl)).symm) ?_;nofun;refine⟨x,dx6,_,rfl,hx6,rfl,?_⟩;nofun;refine⟨_,rfl,Cd sd,?_⟩;have Z:=(Lg.s "within c a ").ap (.n sd);refine⟨_,_,rfl,rfl,Z.le,?_⟩;nofun;refine⟨x,some D,j+1,m',.within (sg "c") (sg "a") day,xo (fun z=>[V.ref x,V.str z]) (Z.eq (ABi day).symm),Jh sO Uj sd,dk6,by lia,nc,bc,n,b,mc5,ma5,few.2,fun co C=>⟨fun H7 s7 _=>?_,fun e H7 s7 F=>?_⟩⟩
  rotate_left
  ·have h1:=F.on1;have h2:=F.on2;rw[C.on n0,HL.on] at h2;rw[oc,W3 HL.mem z2 gm,kc] at h1;rw[h1.1] at h2;cases h2
  have dk7:=dk6.same s7;obtain⟨dx7,_,_,_,hx7,_⟩:=id dk7.ex;nofun;refine⟨_,rfl,Xf (nM (by lia)),?_⟩;rw[cH];nofun;refine FN rfl ?_;nofun;refine⟨x,dx7,_,rfl,hx7,rfl,?_⟩;nofun;refine⟨_,rfl,Cd su,?_⟩;have Z:=(Lg.s "meet a c ").ap (.n su);refine⟨_,_,rfl,rfl,Z.le,?_⟩;nofun;have Z':=(Lg.s "meet ").ap (.n su);refine⟨x,some D,j+1,m',.meet (sg "a") (sg "c") e,xo (fun z=>[V.ref x,V.str z]) (Z.eq (ABo e).symm),Jh Uj sO su,dk7,by lia,n,b,nc,bc,ma5,mc5,few.1,fun H8 s8 _=>?_,fun e' H8 s8 F=>?_⟩
  ·nofun;refine⟨_,rfl,Cd su,?_⟩;refine⟨_,_,rfl,rfl,Z'.le,?_⟩;nofun;exact ABH (Q:=Q) (fun c=>mW ((V.str.inj c).trans (Z'.eq rfl))) (q _)
  ·have f1:=F.ge;have f2:=F.lt;have f3:=F.on2;have f4:Bx (n:Int) (nc:Int)<=150000:=few.1;have ne:e'≠e:=fun c=>by
    rw[c,oc,W3 HL.mem z2 gm,decide_eq_true dm,Bool.not_true,Bool.and_false] at f3;cases f3
   nofun;refine⟨_,rfl,Cd su,?_⟩;refine⟨_,_,rfl,rfl,Z'.le,?_⟩;nofun;exact ABH (Q:=Q) (fun c=>sV (Eh (by lia) (by lia)) su ne ((V.str.inj c).trans (Z'.eq rfl))) (q _)
theorem w5:Cp ["_law_script","_law_cell","_law_first","_law_second","_law_a","_law_desk","_law_row","_law_told","_law_size","_law_held","_law_texts","_law_day","_law_names"] ["_law_script"] (BP cV):=by walk_at"s"
theorem yN(F:Fun K "law" "law" cV f fd):F0 136 f fd ["_law_script"] (cU K):=by
 refine F.ok (k:=135) w5 (fun h=>?_) fun nd H vs Q E hr h=>?_
 ·obtain⟨a,ns,rfl,_⟩:=h;rfl
 obtain⟨a,ns,rfl,hS,h63,hB,q⟩:=h;refine⟨_,(Ac (Ak 1 (Ae Dl (Aa (pv 0) (Aa Af Ab))))
  (Ac (Ak 2 (Ag Bq Af (Ag Bp (pv 1) Af)))
  (Ac (Ak 3 (Ag Bq Af (Ag Bp (Ag Bs (pv 1) Af) Af)))
  (Ac (Ak 4 (Ag Bp (Ag Bs (pv 1) Af) Af))
  (Ac (Ak 5 (aQ Qc (hr.mono (by decide)) rfl))
  (Ac (Ak 6 (Ag Ar (Ag Ar (Ag Ar (Ag Ar (Ag Ar Ai (BZ BL rfl Dp qo (Aa (Ag Bp (Ag Bs (pv 1) Af) (Ag Jt Af Af)) Ab))) Ai) (BZ BL rfl Dp qo (Aa (pv 2) Ab))) Ai) (BZ BL rfl Dp qo (Aa (pv 3) Ab))))
  (Ac (Ak 6 (Ag Ar (Ag Ar (Ag Ar (Ag Ar (Ag Ar (pv 6) Ai) (BZ BL rfl Dp qo (Aa (pv 4) Ab))) Ai) (BZ BL rfl Dp qo (Aa (Ag Bp (Ag Bs (pv 1) Af) Af) Ab))) Ai))
  (Ac (Ay (PW.pt (IK (Aj Ek (DR Cg Bu (pv 5) (Aa (pv 6) Ab)) Ai (Ao _)) (Gg (Aj Ek (DR Cg Bu (pv 5) (Aa (Ag Ar Ai (Ae ZZ (Aa (pv 0) (Aa (Ag Bq (Ag CW Af (Ag Bq (pv 2) (pv 3))) (pv 4)) Ab)))) Ab)) Ai (Ao _)))))
   (Ad (Al Jr))
   Aq)
  (Ac (Ak 7 (DR Cg Bu (pv 5) (Aa Ai Ab)))
  (Ac (Ay (Aj MP (pv 7) (Ff rfl (GJ ["_law_script","_law_cell","_law_first","_law_second","_law_a","_law_desk","_law_row","_law_told","_law_size","_law_held","_law_texts","_law_day","_law_names"] rfl (by ac_rfl) rfl (by ac_rfl) rfl (by ac_rfl) (by ac_rfl)) (gW rfl Gu (Aa Af (Aa Af Ab))) (fun _ _ _ _=>Dr) (fun _ _ _ _=>(BZ BL rfl Dp qo (Aa (pv 0) Ab)))) (by rfl))
   (Ad (Al Jr))
   Aq)
  (Ac (Ak 8 (BZ Ig rfl jR PyProof.Rows.boot_int (Aa (pv 7) Ab)))
  (Ac (JG (i:=9) nd rfl (by walk_at"o") rfl (Cw ["_law_script","_law_cell","_law_first","_law_second","_law_a","_law_desk","_law_row","_law_told","_law_size","_law_held","_law_texts","_law_day","_law_names"] ["_law_script","_law_cell","_law_first","_law_second","_law_a","_law_desk","_law_row","_law_told","_law_size","_law_held","_law_texts","_law_day","_law_names"] rfl rfl (by with_unfolding_all rfl) (by ac_rfl) rfl (by ac_rfl) rfl (by ac_rfl) (by walk_at"fm") (by with_unfolding_all rfl) (by with_unfolding_all rfl)) (Nu rfl Gu (Aa (pv 8) Ab)) (fun _ _ _ _=>(Jq (Aj Bm (DR (ta:=Lh 6) Cg Bu (pv 6) (Aa (Ag Ar Ai (BZ BL rfl Dp qo (Aa (pv 0) Ab))) Ab)) Ai (Ao _)))) (fun _ _ _ _=>(pv 0)))
  (Ac (JG (i:=10) nd rfl (by walk_at"o") rfl (Cw ["_law_script","_law_cell","_law_first","_law_second","_law_a","_law_desk","_law_row","_law_told","_law_size","_law_held","_law_texts","_law_day","_law_names"] ["_law_script","_law_cell","_law_first","_law_second","_law_a","_law_desk","_law_row","_law_told","_law_size","_law_held","_law_texts","_law_day","_law_names"] rfl rfl (by with_unfolding_all rfl) (by ac_rfl) rfl (by ac_rfl) rfl (by ac_rfl) (by walk_at"fm") (by with_unfolding_all rfl) (by with_unfolding_all rfl)) (Fx (pv 9)) (fun _ _ _ _=>Dr) (fun _ _ _ _=>(Ag Ar (Ag Ar (Ag Ar Ai (pv 8)) Ai) (BZ BL rfl Dp qo (Aa (pv 0) Ab)))))
  (Ac (Ay (PW.pt (IK (Aj Ek (DR Cg Bu (pv 5) (Aa (Ag Ar Ai (Ae Ky (Aa (pv 10) Ab))) Ab)) Ai (Ao _)) (Gg (Aj Ek (DR Cg Bu (pv 5) (Aa Ai Ab)) (pv 7) (Ao _)))))
   (Ad (Al Jr))
   Aq)
  (Ac (Ak 11 (Ag DN (Ag Bp (Ae Dl (Aa (pv 0) (Aa Af Ab))) (Ag Jt Af Af)) (Ag CW Af (Ag Jt Af Af))))
  (Ac (Ay (Aj Ek (DR Cg Bu (pv 5) (Aa (Ag Ar Ai (BZ BL rfl Dp qo (Aa (pv 11) Ab))) Ab)) (Ag Ar Ai (pv 7)) (Ao _))
   (Ad (Al Jr))
   Aq)
  (Ac (Ib PassesOwn.never rfl (Fx (En (Aa Ai (Aa Ai Ab)))) (FJ (i:=12) nd rfl (by walk_at"o"))
   (Ad (Ay (Aj Ek (Ej NK (DR Cg Bu (pv 5) (Aa (Ag Ar (Ag Ar Ai (pv 12)) (BZ BL rfl Dp qo (Aa (pv 11) Ab))) Ab)) Fe (Fd Af)) Ai (Ao _))
   (Ad (Al Jr))
   Aq)))
  (Ac (Ay (Aj Ek (DR Cg Bu (pv 5) (Aa (Ag Ar Ai (BZ BL rfl Dp qo (Aa (pv 11) Ab))) Ab)) (DR Cg Bu (pv 5) (Aa (Ag Ar Ai (BZ BL rfl Dp qo (Aa (pv 11) Ab))) Ab)) (Ao _))
   (Ad (Al Jr))
   Aq)
  (Ad (Al (ABK (HN (Ye hr.units) (pv 9) (En Ab) (Ao _)) (Wg (Ae Ur (Aa (pv 5) (Aa (pv 8) (Aa (pv 9) (Aa (Ae Dl (Aa (pv 0) (Aa Af Ab))) (Aa (pv 11) Ab)))))))))))))))))))))))))))),?_⟩
 nofun;generalize ns.getD (0:Int).toNat 0=cell;have f0:=qg cell (show (6:Int)≠0 by decide);have f1:=qc cell (show (0:Int)<6 by decide);have g0:=qg (cell/6) (show (6:Int)≠0 by decide);have g1:=qc (cell/6) (show (0:Int)<6 by decide);have a0:=qg (cell/36) (show (3:Int)≠0 by decide);have a1:=qc (cell/36) (show (0:Int)<3 by decide);have b0:=qg (cell/36) (show (2:Int)≠0 by decide);have b1:=qc (cell/36) (show (0:Int)<2 by decide);have s0:=qg (cell/108) (show (10000000000000000000000000000000000000000:Int)≠0 by decide);have s1:=qc (cell/108) (show (0:Int)<10000000000000000000000000000000000000000 by decide);have ss:Sm (cell/108%10000000000000000000000000000000000000000):=Eh (by lia) (by lia);have okc:Ok9 (cell/108%10000000000000000000000000000000000000000) (1+cell%6) (1+cell/6%6) (cell/36%3) (cell/36%2):=⟨ss,by lia,by lia,by lia,by lia,by lia,by lia,by lia,by lia⟩;have sf:Sm (1+cell%6):=Eh (by lia) (by lia);have sg':Sm (1+cell/6%6):=Eh (by lia) (by lia);have sa:Sm (cell/36%3):=Eh (by lia) (by lia);have sb:Sm (cell/36%2):=Eh (by lia) (by lia);intro x dx fx fd' ne';refine⟨H,x,dx,rfl,fx,fd',ne',rfl,fun H3 h3 dk=>⟨rfl,?_⟩⟩;nofun;rw[p40];refine⟨_,rfl,Cd ss,?_⟩;have Z:=(Lg.s "calendar sun sun ").ap (.n ss);refine⟨_,_,rfl,rfl,Z.le,?_⟩;nofun;have Z:=Z.aps " ";refine⟨_,_,rfl,rfl,Z.le,?_⟩;nofun;refine⟨_,rfl,Cd sf,?_⟩;have Z:=Z.ap (.n sf);refine⟨_,_,rfl,rfl,Z.le,?_⟩;nofun;have Z:=Z.aps ",";refine⟨_,_,rfl,rfl,Z.le,?_⟩;nofun;refine⟨_,rfl,Cd sg',?_⟩;have Z:=Z.ap (.n sg');refine⟨_,_,rfl,rfl,Z.le,?_⟩;nofun;have Z:=Z.aps " leap 2 +";refine⟨_,_,rfl,rfl,Z.le,?_⟩;nofun;refine⟨_,rfl,Cd sa,?_⟩;have Z:=Z.ap (.n sa);refine⟨_,_,rfl,rfl,Z.le,?_⟩;nofun;have Z:=Z.aps ",";refine⟨_,_,rfl,rfl,Z.le,?_⟩;nofun;refine⟨_,rfl,Cd sb,?_⟩;have Z:=Z.ap (.n sb);refine⟨_,_,rfl,rfl,Z.le,?_⟩;nofun;have Z:=Z.aps ",2";refine⟨_,_,rfl,rfl,Z.le,?_⟩;have eR:=Z.eq (ABp _ _ _ _ _).symm;clear Z;nofun;obtain⟨dx3,_,_,_,hx3,_⟩:=id dk.ex;refine⟨x,dx3,_,rfl,hx3,rfl,?_⟩;nofun;refine⟨x,none,0,_,_,xo (fun z=>[V.ref x,V.str z]) eR,zA okc,dk,by decide,okc,rfl,fun H4 k4 dk4=>?_⟩;clear eR;obtain⟨D,hD⟩:∃D,2*(1+cell%6+(1+cell/6%6))+cell/36%3=D:=⟨_,rfl⟩;have D1:1<=D/\D<=60:=by lia
 rw[hD] at dk4;have hS4:SqL K H4 a (ns.map V.int):=SqL.kd k4 (h3.seq hS);nofun;refine FN rfl ?_;nofun;obtain⟨dx4,_,_,_,hx4,_⟩:=id dk4.ex;refine⟨x,dx4,_,rfl,hx4,rfl,?_⟩;nofun;refine DQ ⟨64,64,Bh (by lia) (by lia) (by decide),Bh (by lia) (by lia) (by decide),by decide⟩ ?_;nofun;rw[hD];refine⟨a,ns,D,rfl,hS4,h63,D1.1,D1.2,fun p H5 s5 fp p60=>?_⟩;have Z:=(Lg.s "rule a ").ap (.w p.tx fp.tl);refine⟨_,_,rfl,rfl,Z.le,?_⟩;rw[Z.eq (ACq p).symm];clear Z;nofun;refine⟨x,some D,0,_,_,rfl,WW Uj fp,dk4.same s5,by decide,D,rfl,D1.1,fp,fun b H6 k6 dk6 _=>?_⟩;have n0:=PT.sz_pos D1.1 fp.ok;obtain⟨n,hn⟩:∃n:Nat,(p.sz D).toNat=n:=⟨_,rfl⟩;rw[hn] at dk6;have n1:0<n/\n<=60:=by lia
 have ma:setM (fun _=>none) (sg "a") (n,b) (sg "a")=some (n,b):=xz rfl;generalize setM (fun _=>none) (sg "a") (n,b)=m at dk6 ma;have hS6:SqL K H6 a (ns.map V.int):=SqL.kd k6 (s5.seq hS4);nofun;refine FN rfl ?_;nofun;obtain⟨dx6,_,_,_,hx6,_⟩:=id dk6.ex;refine⟨x,dx6,_,rfl,hx6,rfl,?_⟩;nofun;refine⟨x,some D,1,m,.size (sg "a"),xo (fun z=>[V.ref x,V.str z]) u6.1.symm,mR Uj,dk6,by decide,n,b,ma,fun z c H7 s7 L=>?_⟩;have z0:=L.z0;have zn:=vc n1.1 L.dv;have sz:Sm (z:Int):=Eh (by lia) (by lia);have HL:=tU n1.1 n1.2 L;nofun;refine Em (cY ?_);nofun;refine⟨1,61,rfl,⟨by decide,by decide,by decide,by decide⟩,?_⟩;refine Hr Zq (by rw[jp,uu,sizeLine_eq];decide) (fun D i ys H8=>H8 D=some (.lst ys)/\Ax H7 H8/\ys=(List.range i).map fun(t:Nat)=>V.str (sW (nW (1+(t:Int))))) (fun D hD=>⟨Ah,Am hD _,rfl⟩)
  (fun D i ys H8 _ ⟨h1,h2,h3⟩=>⟨h1,by rw[h3,jp,uu];exact qh _,trivial⟩) (fun D i v ys H8 hD hx ⟨h1,h2,h3⟩=>?_) (fun lk ys H8 hlk ⟨h1,h2,h3⟩=>?_)
 ·obtain⟨hi,rfl⟩:=ABf hx;have i60:i<60:=hi;have sk:Sm (1+(i:Int)):=Eh (by lia) (by lia);refine Iz (FW ?_);nofun;refine⟨_,rfl,Cd sk,?_⟩;refine⟨h1,Ah,Cz hD h2,?_⟩;rw[List.range_succ,yi,<-h3];exact xo (fun z=>ys++[V.str z]) (Jo _).symm
 rw[jp,uu] at h3;have h3:ys=(List.range 60).map fun(t:Nat)=>V.str (sW (nW (1+(t:Int)))):=h3;subst h3;refine⟨lk,_,rfl,.inl (SqL.of h1),rfl,by rw[jj2];exact va.mpr fun _ _=>rfl,?_⟩;rw[tO z0 (by lia)];nofun;refine Ep ?_;clear h1;nofun;have r:=OD (z:=sW (nW (z:Int))) (by rw[Bg];exact(Hn sz).1);rw[Bg,(Hn sz).2] at r;refine⟨_,_,rfl,by rw[Cr];exact zv (Df sz) (by decide),r,?_⟩;have dk8:=dk6.same (s7.trans h2);have hS8:=(s7.trans h2).seq hS6;clear hS6 dk6 r;nofun;refine Em (WY ?_);nofun;refine⟨(z:Int),rfl,by lia,by lia,?_⟩;rw[zk];refine Hr Zq (by rw[jp,uu,sizeLine_eq];lia) (fun D i ys H9=>H9 D=some (.lst ys)/\Ax H8 H9/\ys=(held n b i).map V.int) (fun D hD=>⟨Ah,Am hD _,rfl⟩)
  (fun D i ys H9 _ ⟨h1,h2,h3⟩=>⟨h1,by rw[h3,jp];exact Yn n b i,trivial⟩) (fun D i v ys H9 hD hx ⟨h1,h2,h3⟩=>?_) (fun lh ys H9 hlh ⟨h1,h2',h3⟩=>?_)
 ·obtain⟨hi,rfl⟩:=ABf hx;have sk:Sm ((i:Nat):Int):=Eh (by lia) (by lia);rw[Int.zero_add];have dk9:=dk8.same h2;obtain⟨dx9,_,_,_,hx9,_⟩:=id dk9.ex;nofun;refine⟨x,dx9,_,rfl,hx9,rfl,?_⟩;nofun;refine⟨_,rfl,Cd sk,?_⟩;have Z:=(Lg.s "on a ").ap (.n sk);refine⟨_,_,rfl,rfl,Z.le,?_⟩;nofun;refine⟨x,some _,1,m,.on (sg "a") (i:Int),xo (fun z=>[V.ref x,V.str z]) (Z.eq (ABn _).symm),Zt Uj sk,dk9,by decide,n,b,ma,fun Ha sa'=>?_⟩;nofun;have hb:=iM n b i;cases hon:On (n:Int) b (i:Int) with
  | true=>
   rw[hon,xz rfl] at hb;refine Hw rfl ?_;nofun;refine⟨sa' _ _ h1,Ah,Cz hD (h2.trans sa'),?_⟩;rw[hb,yi,<-h3];rfl
  | false=>
   rw[hon,yv (by decide),ya] at hb;refine CN (by ac_rfl) ?_;exact⟨sa' _ _ h1,h2.trans sa',by rw[hb];exact h3⟩
 rw[jp,uu] at h3;subst h3;generalize held n b z=hs at HL h1;have l60:=HL.l;have z1:(0:Int)<(z:Int):=by lia
 nofun;refine Em (Jp ?_);nofun;refine⟨lh,rfl,⟨_,SqL.of h1⟩,?_⟩;refine Hr K1 (by rw[jp,sizeLine_eq];lia) (fun D i ys Hb=>Hb D=some (.lst ys)/\Ax H9 Hb/\ys=txV (eaU z (hs.take i))/\ys.length<=i) (fun D hD=>⟨Ah,Am hD _,rfl,qh _⟩)
  (fun D i ys Hb _ ⟨_,g2,_,g4⟩=>⟨‹_›,g4,SqL.of (g2 _ _ h1)⟩) (fun D i v ys Hb hD hx ⟨g1,g2,g3,g4⟩=>?_) (fun lt ys Hb hlt ⟨k1,k2,k3,k4⟩=>?_)
 ·obtain⟨k,hk,rfl,ek⟩:=ABe hx;have kz:=HL.mem k hk;have sk:Sm k:=Eh (by lia) (by lia);rw[ek];refine Iz (FW ?_);nofun;have Z:=(Lg.s "each ").ap (.w _ (Df sz));refine⟨_,_,rfl,rfl,Z.le,?_⟩;nofun;have Z:=Z.aps " from ";refine⟨_,_,rfl,rfl,Z.le,?_⟩;nofun;refine⟨_,rfl,Cd sk,?_⟩;have Z:=Z.ap (.n sk);refine⟨_,_,rfl,rfl,Z.le,?_⟩;refine⟨g1,Ah,Cz hD g2,?_,by rw[qf];show ys.length+1<=i+1;lia⟩;rw[du,<-g3];exact xo (fun z=>ys++[V.str z]) (Z.eq (PT.tx_each _ _).symm)
 rw[jp,ja9] at k3;subst k3;have dkb:=dk8.same (h2'.trans k2);have hSb:=(h2'.trans k2).seq hS8;have hlb:=k2 _ _ h1;clear h1 dk8 hS8;obtain⟨dxb,_,_,_,hxb,_⟩:=id dkb.ex;nofun;refine⟨x,dxb,_,rfl,hxb,rfl,?_⟩;nofun;refine⟨lt,eaU z hs,D,z,rfl,k1,by unfold eaU;rw[jp];exact l60,nq (by lia) (by lia) HL.mem,z1,by rw[W9];exact l60,fun p' Hc sc e0 e1=>?_⟩;have U:Un D z _ p':=Un.of (by lia) (by lia) l60 e0 e1;have Z:=(Lg.s "rule b ").ap (.w p'.tx U.f.tl);refine⟨_,_,rfl,rfl,Z.le,?_⟩;rw[Z.eq (ACp p').symm];clear Z;nofun;refine⟨x,some D,1,m,_,rfl,WW gf U.f,dkb.same sc,by decide,D,rfl,D1.1,U.f,fun bb Hd kd dkd ev=>?_⟩;have u0:=U.n0;have u1:=U.n1;have hSd:SqL K Hd a (ns.map V.int):=SqL.kd kd (sc.seq hSb);have hld:=kd.lst (sc _ _ hlb);have hc:((p'.sz D).toNat:Int)=p'.sz D:=by lia
 have ob:=U.on bb ev;rw[<-hc] at ob;obtain⟨nb,hnb⟩:∃nb:Nat,(p'.sz D).toNat=nb:=⟨_,rfl⟩;rw[hnb] at dkd ob hc;have ma':setM m (sg "b") (nb,bb) (sg "a")=some (n,b):=(yv (by ac_rfl)).trans ma;have mb:setM m (sg "b") (nb,bb) (sg "b")=some (nb,bb):=xz rfl;generalize setM m (sg "b") (nb,bb)=m' at dkd ma' mb;have eqd:∀d,On (n:Int) b d=On (nb:Int) bb d:=fun d=>(HL.on d).trans (ob d).symm;have nb0:0<nb/\nb<=60:=by lia
 have few:=nY n1.1 n1.2 nb0.1 nb0.2;clear hlb hSb dkb ob k1 ev;nofun;refine FN rfl ?_;nofun;obtain⟨dxd,_,_,_,hxd,_⟩:=id dkd.ex;refine⟨x,dxd,_,rfl,hxd,rfl,?_⟩;nofun;refine⟨x,some D,2,m',.size (sg "b"),xo (fun z=>[V.ref x,V.str z]) u6.2.symm,mR gf,dkd,by decide,nb,bb,mb,fun z' c' He se L'=>?_⟩;have zz:z=z':=(L.same L' fun e=>by rw[<-L.on n1.1,<-L'.on nb0.1];exact eqd e).1;subst zz;have dke:=dkd.same se;have hSe:=se.seq hSd;have hle:=se _ _ hld;clear dkd hSd hld;nofun;refine FN rfl ?_;nofun;rw[p40,p39];refine DQ ⟨64,200,Bh (by lia) (by lia) (by decide),Zc (by lia) (by lia),by decide⟩ ?_;have y0:=qg (ns.getD (1:Int).toNat 0) (show (10000000000000000000000000000000000000000:Int)≠0 by decide);have y1:=qc (ns.getD (1:Int).toNat 0) (show (0:Int)<10000000000000000000000000000000000000000 by decide);nofun;obtain⟨day,hday⟩:∃day,ns.getD (1:Int).toNat 0%10000000000000000000000000000000000000000-5*1000000000000000000000000000000000000000=day:=⟨_,rfl⟩;rw[hday];have dy0: -5000000000000000000000000000000000000000<=day:=by lia
 have dy1:day<5000000000000000000000000000000000000000:=by lia
 have sd:Sm day:=Eh (by lia) (by lia);clear hday;obtain⟨dxe,_,_,_,hxe,_⟩:=id dke.ex;refine⟨x,dxe,_,rfl,hxe,rfl,?_⟩;nofun;refine⟨_,rfl,Cd sd,?_⟩;have Z:=(Lg.s "same a b ").ap (.n sd);refine⟨_,_,rfl,rfl,Z.le,?_⟩;nofun;refine⟨x,some D,2,m',.same (sg "a") (sg "b") day,xo (fun z=>[V.ref x,V.str z]) (Z.eq (ABm day).symm),Jh Uj gf sd,dke,by decide,n,b,nb,bb,ma',mb,⟨by lia,by lia⟩,fun z2 x2 Hf sf' M1 _=>?_,fun e Hf sf' P=>absurd (eqd e) P.ne⟩;have zz:z=z2:=(L.same M1 fun e=>by rw[<-L.on n1.1,<-M1.on n1.1]).1;subst zz;clear Z;have dkf:=dke.same sf';have hSf:=sf'.seq hSe;have hlf:=sf' _ _ hle;clear dke hSe hle;nofun;have Z:=(Lg.s "same ").ap (.w _ (Df sz));refine⟨_,_,rfl,rfl,Z.le,?_⟩;rw[Z.eq rfl];clear Z;nofun;refine FN rfl ?_;nofun;refine Nq (Jp ?_);nofun;refine⟨(by show 2<=sizeLine;decide),fun ln hln=>?_⟩;refine fresh hln fun Hg sg' tg=>?_;have tg:Hg ln=some (.lst (nmS.map V.str)):=tg;have dkg:=dkf.same sg';have hSg:=sg'.seq hSf;have hlg:=sg' _ _ hlf;clear dkf hSf hlf;refine⟨ln,rfl,⟨_,SqL.of tg⟩,J3 (xs:=nmS.map V.str) (fun i Z' H'=>Ax Hg H'/\Ex8 fun(v1 v2 v3 v4 v6 v7 v10 v12:Option V)=>Z'=[some (.ref a),v1,v2,v3,v4,some (.ref x),v6,v7,some (.int (z:Int)),some (.ref lh),v10,some (.int day),v12]) ⟨Ax.refl _,_,_,_,_,_,_,_,_,rfl⟩ ?_ ?_ ?_⟩
 ·rintro i Z' H' _ ⟨s,_⟩;exact SqL.of (s _ _ tg)
 ·rintro i v Z' H' hx ⟨sH,v1,v2,v3,v4,v6,v7,v10,v12,rfl⟩;obtain⟨nm,A,B,nA,bA,nB,bB,rfl,lnm,eT,iA,iB,mA,mB,fw,eq,pA,pB⟩:∃(nm:String) (A B:Wd) (nA bA nB bB:Nat),v=.str (Str.ofString nm)/\(sg nm).length<=30/\sg "within "++sg nm++nW day=Row.T (.within A B day)/\HB A/\HB B/\m' A=some (nA,bA)/\m' B=some (nB,bB)/\Ux nA nB/\(∀d,On (nA:Int) bA d=On (nB:Int) bB d)/\(0<nA/\nA<=60)/\0<nB:=by
   rw[xc] at hx;obtain⟨w,hw,rfl⟩:=ja4.mp hx;rcases sS (zh hw) with rfl | rfl
   ·exact⟨"a b ",sg "a",sg "b",n,b,nb,bb,rfl,by ac_rfl,by rw[ABk,show sg "within "++sg "a b "=sg "within a b " by ac_rfl],Uj,gf,ma',mb,few.1,eqd,n1,nb0.1⟩
   ·exact⟨"b a ",sg "b",sg "a",nb,bb,n,b,rfl,by ac_rfl,by rw[ABj,show sg "within "++sg "b a "=sg "within b a " by ac_rfl],gf,Uj,mb,ma',few.2,fun d=>(eqd d).symm,nb0,n1.1⟩
  have dkh:=dkg.same sH;obtain⟨dxh,_,_,_,hxh,_⟩:=id dkh.ex;nofun;refine⟨x,dxh,_,rfl,hxh,rfl,?_⟩;nofun;have Z:=(Lg.s "within ").ap (.s nm lnm);refine⟨_,_,rfl,rfl,Z.le,?_⟩;nofun;refine⟨_,rfl,Cd sd,?_⟩;have Z:=Z.ap (.n sd);refine⟨_,_,rfl,rfl,Z.le,?_⟩;nofun;refine⟨x,some D,2,m',.within A B day,xo (fun z=>[V.ref x,V.str z]) (Z.eq eT),Jh iA iB sd,dkh,by decide,nA,bA,nB,bB,mA,mB,fw,fun co C=>⟨fun Hi si _=>?_,fun e Hi si F=>?_⟩⟩
  rotate_left
  ·have h1:=F.on1;have h2:=F.on2;rw[C.on pB,<-eq,h1] at h2;cases h2
  nofun;refine⟨_,rfl,Xf (nM pA),?_⟩;rw[cH];nofun;refine FN rfl ?_;nofun;exact⟨sH.trans si,_,_,_,_,_,_,_,_,rfl⟩
 rintro Z' H' ⟨sH,v1,v2,v3,v4,v6,v7,v10,v12,rfl⟩;have dkh:=dkg.same sH;have hSh:=sH.seq hSg;have hlh:=sH _ _ hlg;clear dkg hSg hlg tg;obtain⟨dxh,_,_,_,hxh,_⟩:=id dkh.ex;nofun;refine⟨x,dxh,_,rfl,hxh,rfl,?_⟩;nofun;refine⟨_,rfl,Cd sd,?_⟩;have Z:=(Lg.s "on a ").ap (.n sd);refine⟨_,_,rfl,rfl,Z.le,?_⟩;nofun;refine⟨x,some D,2,m',.on (sg "a") day,xo (fun z=>[V.ref x,V.str z]) (Z.eq (ABn _).symm),Zt Uj sd,dkh,by decide,n,b,ma',fun Hi si=>?_⟩;have dki:=dkh.same si;obtain⟨dxi,_,_,_,hxi,_⟩:=id dki.ex;nofun;refine⟨x,dxi,_,rfl,hxi,rfl,?_⟩;nofun;refine⟨_,rfl,Cd sd,?_⟩;have Z:=(Lg.s "on b ").ap (.n sd);refine⟨_,_,rfl,rfl,Z.le,?_⟩;nofun;refine⟨x,some D,2,m',.on (sg "b") day,xo (fun z=>[V.ref x,V.str z]) (Z.eq (ACr _).symm),Zt gf sd,dki,by decide,nb,bb,mb,fun Hj sj=>?_⟩;have dkj:=dki.same sj;have hSj:=sj.seq (si.seq hSh);have hlj:=sj _ _ (si _ _ hlh);clear Z dkh dki hSh hlh;nofun;refine FN (by rw[eqd]) ?_;nofun;refine⟨(by show 0<=sizeLine;decide),fun le hle=>?_⟩;refine fresh hle fun Hk sk tk=>?_;refine⟨lh,le,_,rfl,rfl,SqL.of (sk _ _ hlj),SqL.of tk,_,rfl,?_⟩;by_cases hn:hs=[]
 ·subst hn;exact FW (q _)
 ·have e:(hs.map V.int).isEmpty=false:=by
   cases hs with
   | nil=>exact absurd rfl hn
   | cons=>rfl
  rw[e];refine Ep ?_;have hSk:=sk.seq hSj;nofun;exact⟨x,lh,z,_,day,hs,D,2,m',n,b,rfl,sk _ _ hlj,dkj.same sk,by decide,D1.1,ma',HL,hn,dy0,dy1,fun H'=>q _⟩
end
theorem zQ{w:World}{h:Heap}{mg:Str->Option Value}{fa:Addr}(X:(Hd.K w.params).In h)(G:h.Ns mainGlobals mg)(hfa:mg "law"=some (.ref fa))(Q:FnG (Hd.K w.params) "law" "law" "law" cV):
 ∃fd:FuncData,(∀(s:Shared) (v:Value),BindsTo s fd ⟨[v],[]⟩ [("_law_script",v)])/\∀base:Heap,(Hd.K w.params).In base->base.Ns mainGlobals mg->Et PySem.Challenge.rw_feastwheel_k97_whole_by_remainders.prog w (Hd.K w.params) mg base CX0 136 fa fd ["_law_script"] (cU (Hd.K w.params)):=by
 obtain⟨f,fd,a,F⟩:=Q;have e:=hfa.symm.trans (jg9 X G a);cases e;refine⟨fd,?_,fun base X2 G2=>?_⟩
 ·obtain⟨_,_,_,_,_,_,_,_,_,rfl,_,_⟩:=F.ex;exact fun s v=>.of_eq rfl
 exact Classical.byContradiction fun hn=>have z:=Classical.epsilon_spec (p:=fun d=>Gi d/\¬Ok d) ⟨⟨w,mg,base⟩,⟨X2,G2⟩,fun c=>hn (c F)⟩;z.2 fun F=>(haveI:Giv:=⟨z.1.X,z.1.G⟩;yN F)
end Fw
open PySem PySem.W PyProof.Rows
set_option maxRecDepth 100000 in
set_option maxHeartbeats 0 in
theorem PySem.Challenge.cw_feastwheel_k97_whole_by_remainders_holds : PySem.Challenge.rw_feastwheel_k97_whole_by_remainders.Holds := by
 refine Hd.ws fun said=>Hd.op said ?_;delta Hd.hk;k_fill;refine L2.jV (l:=PySem.Challenge.rw_feastwheel_k97_whole_by_remainders) (k:=136) rfl rfl ⟨rfl,by decide,by decide,rfl⟩ (fun w h Y=>PySem.W.kIn_of Y) ?F
 case F=>
  intro w mg fa h KX G hmg;exact Fw.zQ KX G hmg (by refine' L2.nU ?_ ?_ ?_ ?_<;>first | k_is | skip)
#print axioms PySem.Challenge.cw_feastwheel_k97_whole_by_remainders_holds
