import PyProof.Rows.All
import Wide.All
import OpenK.AllK
import Wide.FinOn
import HandS.ForMost
import HandS.AnyAll
import HandS.IsInst
import HandS.Wide
import HandS.EndTab
import HandS.TupLe
import HandS.Walk
import HandS.Conv
import HandS.Flow
import HandS.Comp
import HandS.Iter
import HandS.GenList
import HandS.TupAny
import HandS.Deep
import HandS.Dict
import HandS.Text
import HandS.Style
import HandS.More
import HandS.Set
import HandS.Strs
import HandS.TupSets
import PyProof.Rows.SortShellAny
import HandS.CallLocal
import HandS.Defaults
import HandS.Head0
import HandS.Head1
import HandS.Head2
import HandS.HeadEnd
import HandS.HeadHook1
import HandS.HeadHook2
import HandS.HeadHook3
import HandS.HeadWalk
import HandS.TupMul
import PyProof.CallFns
import HandS.RevRange
import HandS.RaiseMore
import HandS.List
import HandS.NoneIn
import KE.KDictZip
import PySem.Challenge.RW_owedonce_k06_whole_free_names
set_option Elab.async false
set_option linter.all false
set_option maxRecDepth 100000
set_option maxHeartbeats 4000000
namespace Ow
open PySem PySem.Spec PyProof.Rows L2
/-! ### the law's number source: a list of two ints -/
abbrev M61 : Int := 2305843009213693951
structure Fd (H : Hp) (p : Addr) : Prop where
  ex : ∃ d s : Int, H p = some (.lst [.int d, .int s]) ∧ 0 ≤ d ∧ 0 ≤ s ∧ s < M61
theorem same_upd {H : Hp} {p : Addr} {o : HO} (h : H p = none) : Same H (upd H p o) := fun b x e => by
  rw [upd_ne (ne_of_none e h)]
  exact e
/-- all but what stands at p is as it was -/
def But (p : Addr) (H H' : Hp) : Prop := ∀ b, b ≠ p → H' b = H b
theorem But.refl {p : Addr} {H : Hp} : But p H H := fun _ _ => rfl
theorem But.trans {p : Addr} {H H1 H2 : Hp} (a : But p H H1) (b : But p H1 H2) : But p H H2 := fun c h => (b c h).trans (a c h)
theorem But.upd {p : Addr} {H : Hp} {o : HO} : But p H (upd H p o) := fun _ h => upd_ne h
def spFeed (K : PySem.W.Frag) : Sp := fun vs H Q _ => ∃ (a : Addr) (ns : List Int) (k : Nat), vs = [.ref a, .int k] ∧ SqL K H a (ns.map V.int) ∧ k < 1000000 ∧
  ∀ p H', H p = none → Fd H' p → But p H H' → Q (.ref p) H'
def spTake : Sp := fun vs H Q _ => ∃ (p : Addr) (m : Int), vs = [.ref p, .int m] ∧ Fd H p ∧ 0 < m ∧ m < 1073741824 ∧
  ∀ r H', 0 ≤ r → r < m → Fd H' p → But p H H' → Q (.int r) H'
def spPickS : Sp := fun vs H Q _ => ∃ (p : Addr) (z : Str), vs = [.ref p, .str z] ∧ Fd H p ∧ 0 < z.length ∧ z.length < 1000000 ∧
  ∀ c H', c ∈ z.cps.toList → Fd H' p → But p H H' → Q (.str ⟨#[c]⟩) H'
def spPickL (K : PySem.W.Frag) : Sp := fun vs H Q _ => ∃ (p q : Addr) (xs : List V), vs = [.ref p, .ref q] ∧ p ≠ q ∧ (SqL K H q xs ∨ SqT K H q xs) ∧ Fd H p ∧ 0 < xs.length ∧ xs.length < 1000000 ∧
  ∀ x H', x ∈ xs → Fd H' p → But p H H' → Q x H'
def spPick (K : PySem.W.Frag) : Sp := fun vs H Q E => spPickS vs H Q E ∨ spPickL K vs H Q E
theorem line_ge : 1000000 ≤ sizeLine := by decide
/-! ### texts of one sign -/
theorem lt_one (a b : Nat) : decide ([a] < [b]) = decide (a < b) := by
  by_cases h : a < b
  · rw [decide_eq_true h, decide_eq_true (List.cons_lt_cons_iff.mpr (.inl h))]
  · rw [decide_eq_false h, decide_eq_false]
    intro z
    rcases List.cons_lt_cons_iff.mp z with z | ⟨_, z⟩
    · exact h z
    · exact absurd z (List.not_lt_nil _)
theorem elt_az {prog : Program} {w : World} {scope : Scope} {x lo hi : Str} {j1 j2 : Nat} {p1 p2 p3 p4 : Pos} (hk : scope.kind = .function) (hl : scope.names.lookup x = some .local) (hd : (x == ("__debug__" : Str)) = false := by decide) :
    GxR.EltP prog w scope x (.Compare (.Constant (.str lo) j1 p1) [.LtE, .LtE] [.Name x p2, .Constant (.str hi) j2 p3] p4) (fun c => !decide ([c] < lo.cps.toList) && !decide (hi.cps.toList < [c])) := by
  intro cenv A' E' c t s₂ m₂ hs hn hm
  refine Compare_chain (Calls.Constant_str (chain_link ?_)) rfl
  refine wpAny_Name (wpAny_loadName_local (by rw [hs]; exact hk) (show cenv.scope.names.lookup x = some .local by rw [hs]; exact hl) hn hm ?_) hd
  refine PySem.P.le_str ?_
  refine wpAny_truthy_bool ?_
  cases e : decide ([c] < lo.cps.toList) with
  | true =>
    have z : [c] < lo.cps.toList := of_decide_eq_true e
    simp only [z, decide_true, Bool.not_true, Bool.false_eq_true, if_false, Bool.false_and]
    exact ⟨trivial, GxR.keeps_tok _ _⟩
  | false =>
    have z : ¬ [c] < lo.cps.toList := of_decide_eq_false e
    simp only [z, decide_false, Bool.not_false, if_true, Bool.true_and]
    refine chain_last (Calls.Constant_str ?_)
    exact PySem.P.le_str ⟨rfl, GxR.keeps_tok _ _⟩
theorem fn_code {P : Program} {w : World} {K : PySem.W.Frag} {mg : Str → Option Value} {base : Heap} {x qual : Str} {st : Stmt} {f c : Addr} {N ps : List Str} {k : Nat} {sp : Sp} {oc : Value} {od an : Option Addr} {osl : Array (Option Value)} {kV doc pm ct : Value}
    (lk : K.lookup f = some ⟨oc, od, .func (PySem.W.fnOf x qual (defArgs st) (defBody st) (defScope st) .none kV doc pm an (.ref c) ct), osl⟩) (hcd : PySem.W.codeIn K (.ref c) qual = true) (S : FnScope N ps (defScope st)) (len : ∀ vs H Q E, sp vs H Q E → vs.length = ps.length)
    (hbody : ∀ (A : Around) (outer : List Env) (s : Shared) (H : Hp) (vs : List V) (Q : VK) (E : XK), Room k (A.deeper (envOfC qual (defScope st) s.heap.objs.size f (.ref c))) → sp vs H Q E →
      ∃ t, PSs (cxOf CX0 P w K mg base N qual (defScope st) f (.ref c) A outer s H E).nox (defBody st) t ∧ t { nx := fun _ H' => Q .non H', rt := Q } (start N vs) H) :
    FnOk P w K mg base CX0 (k + 1) f (PySem.W.fnOf x qual (defArgs st) (defBody st) (defScope st) .none kV doc pm an (.ref c) ct) ps sp := by
  refine fn_of lk hcd S len fun A outer s H vs Q E hr hsp => ?_
  obtain ⟨t, h, q⟩ := hbody A outer s H vs Q E hr hsp
  exact ⟨t, h.nox, q⟩
/-! ### is_name -/
def isNm (z : Str) : Bool := decide (1 ≤ z.length ∧ z.length ≤ 8) && z.cps.toList.all fun c => decide (97 ≤ c ∧ c ≤ 122)
/-- x is no text, of the type t -/
def NoStr (K : PySem.W.Frag) (H : Hp) (x : V) : Prop := ∃ t, TyX K H x t ∧ PySem.W.kitOne K t (.type "str") = some false
def spName (K : PySem.W.Frag) (T : Addr) : Sp := fun vs H Q _ => ∃ x, vs = [x] ∧ GxR.TabG H T ∧ ((∃ z, x = .str z ∧ z.length ≤ sizeLine ∧ ∀ H2, GxR.Tabbed T H H2 → Q (.bl (isNm z)) H2) ∨ (NoStr K H x ∧ Q (.bl false) H))
theorem az_eq (c : Nat) : (!decide ([c] < [97]) && !decide ([122] < [c])) = decide (97 ≤ c ∧ c ≤ 122) := by
  rw [lt_one, lt_one]
  by_cases h1 : 97 ≤ c
  · by_cases h2 : c ≤ 122
    · rw [decide_eq_false (show ¬ c < 97 by omega), decide_eq_false (show ¬ 122 < c by omega), decide_eq_true ⟨h1, h2⟩]
      rfl
    · rw [decide_eq_true (show 122 < c by omega), decide_eq_false (show ¬ (97 ≤ c ∧ c ≤ 122) by omega), Bool.not_true, Bool.and_false]
  · rw [decide_eq_true (show c < 97 by omega), decide_eq_false (show ¬ (97 ≤ c ∧ c ≤ 122) by omega)]
    rfl
theorem tab_refl {T : Addr} {H : Hp} (h : GxR.TabG H T) : GxR.Tabbed T H H := ⟨h, fun _ _ => rfl⟩
end Ow
namespace Ow
open PySem PySem.Spec PyProof.Rows L2
/-- text * 2 -/
theorem op_mul_str2 {X : Cx} : OpR X (binaryOp .Mult) (fun x y H Q => ∃ (z : Str), x = .str z ∧ y = .int 2 ∧ z.length ≤ 1000 ∧ Q (.str (z ++ z)) H) := by
  intro pins s σ H x y v u Q I rx ry h
  obtain ⟨z, rfl, rfl, hz, q⟩ := h
  obtain ⟨t, rfl⟩ := rx
  obtain ⟨t', rfl⟩ := ry
  refine PySem.P.mul_str (by decide) (fun _ _ => ?_) (fun _ _ => ?_) ?_
  · have : ((2 ^ 63 - 1) / 2 : Int) = 4611686018427387903 := by decide
    rw [this]
    omega
  · refine decide_eq_false ?_
    have : (2 : Int).toNat = 2 := rfl
    rw [this]
    have := line_ge
    show ¬ (z.length * 2 > sizeLine)
    omega
  · rw [if_neg (by decide)]
    by_cases e : ((2 : Int) == 1 || z.length == 0) = true
    · rw [if_pos e]
      have e0 : z.length = 0 := by
        simpa using e
      have ez : z ++ z = z := by
        obtain ⟨c⟩ := z
        have : c = #[] := Array.eq_empty_of_size_eq_zero e0
        subst this
        rfl
      refine ⟨.str z, H, I, ⟨_, rfl⟩, ?_⟩
      rw [← ez]
      exact q
    · rw [if_neg e]
      have ez : (⟨(List.replicate (2 : Int).toNat z.cps).foldl (· ++ ·) #[]⟩ : Str) = z ++ z := by
        show (⟨(#[] ++ z.cps) ++ z.cps⟩ : Str) = ⟨z.cps ++ z.cps⟩
        rw [Array.empty_append]
      rw [ez]
      refine ⟨?_, .str (z ++ z), H, I.tok _, ⟨_, rfl⟩, q⟩
      have h1 := line_ge
      have h2 : (z ++ z).length = z.length + z.length := Array.size_append
      omega
/-- list(text) -/
def signs (z : Str) : List V := z.cps.toList.map fun c => .str ⟨#[c]⟩
theorem call_list_text {X : Cx} (hc : X.calm = true) : CallR X (.type "list") (fun xs H Q => ∃ z, xs = [.str z] ∧ z.length ≤ sizeLine ∧ ∀ l, H l = none → Q (.ref l) (upd H l (.lst (signs z)))) := by
  intro pins s σ H xs us Q I r h
  obtain ⟨z, rfl, hz, q⟩ := h
  obtain ⟨u, rfl, rx⟩ := vals1 r
  obtain ⟨t, rfl⟩ := rx
  have el : (signs z).length = z.length := by
    unfold signs
    rw [List.length_map]
    simp [Str.length]
  refine PySem.call_list_str (I.ok.hd hc) z t (fun h' tk acc' c' hkeep hS hacc => ?_) hz
  refine ⟨.ref s.heap.objs.size, upd H s.heap.objs.size (.lst (signs z)), I.laid hkeep (Nat.le_refl _) (show ObjOk X.prog X.w _ _ _ (.lst (signs z)) from ⟨?_, acc'.toList, c', ?_, ?_⟩), rfl, q _ (I.hok.fresh (Nat.le_refl _))⟩
  · rw [el]
    exact hz
  · have ea : acc'.toList.length = acc'.size := by simp
    refine vals_of_at (by rw [ea, hacc.1, el]; rfl) fun j x w h1 h2 => ?_
    obtain ⟨c, t2, hc1, e⟩ := hacc.2 j w (by rw [← Array.getElem?_toList]; exact h2)
    subst e
    unfold signs at h1
    rw [List.getElem?_map, Array.getElem?_toList, hc1] at h1
    cases h1
    exact ⟨_, rfl⟩
  · rw [Array.toArray_toList]
    exact hS
end Ow
namespace Ow
open PySem PySem.Spec PyProof.Rows L2
/-- but for the table at T all that stood stands -/
structure SB (T : Addr) (H H' : Hp) : Prop where
  sb : ∀ b o, b ≠ T → H b = some o → H' b = some o
  tab : GxR.TabG H' T
section
variable {T : Addr} {H H0 H1 H2 : Hp}
theorem SB.refl (h : GxR.TabG H T) : SB T H H := ⟨fun _ _ _ e => e, h⟩
theorem SB.trans (x : SB T H H1) (y : SB T H1 H2) : SB T H H2 := ⟨fun b o n e => y.sb b o n (x.sb b o n e), y.tab⟩
theorem tab_ne {b : Addr} {o : HO} (h : GxR.TabG H T) (e : H b = some o) (n : ∀ ps, o ≠ .tbl ps) : b ≠ T := by
  obtain ⟨ps, h1, _⟩ := h
  exact ne_of e h1 (n ps)
theorem tab_upd {l : Addr} {o : HO} (h : GxR.TabG H T) (hl : l ≠ T) : GxR.TabG (upd H l o) T := by
  obtain ⟨ps, h1, h2⟩ := h
  exact ⟨ps, by rw [upd_ne hl.symm]; exact h1, h2⟩
theorem tab_new {l : Addr} (h : GxR.TabG H T) (hl : H l = none) : l ≠ T := by
  obtain ⟨ps, h1, h2⟩ := h
  exact (ne_of_none h1 hl).symm
theorem SB.new {l : Addr} {o : HO} (x : SB T H H1) (hl : H1 l = none) : SB T H (upd H1 l o) :=
  ⟨fun b u n e => by
    rw [upd_ne (ne_of_none (x.sb b u n e) hl)]
    exact x.sb b u n e, tab_upd x.tab (tab_new x.tab hl)⟩
/-- what is new since H may be changed -/
theorem SB.set {l : Addr} {o : HO} (x : SB T H H1) (hl : H l = none) (ht : l ≠ T) : SB T H (upd H1 l o) :=
  ⟨fun b u n e => by
    rw [upd_ne (ne_of_none e hl)]
    exact x.sb b u n e, tab_upd x.tab ht⟩
theorem SB.but {p : Addr} (x : SB T H H1) (hp : H p = none) (ht : p ≠ T) (b : But p H1 H2) : SB T H H2 :=
  ⟨fun c u n e => by
    rw [b c (ne_of_none e hp)]
    exact x.sb c u n e, by
    obtain ⟨ps, h1, h2⟩ := x.tab
    exact ⟨ps, by rw [b T ht.symm]; exact h1, h2⟩⟩
theorem SB.tabd (x : SB T H H1) (t : GxR.Tabbed T H1 H2) : SB T H H2 :=
  ⟨fun b o n e => by
    rw [t.2 b n]
    exact x.sb b o n e, t.1⟩
theorem SB.sq {K : PySem.W.Frag} {a : Addr} {xs : List V} (x : SB T H H1) (t : GxR.TabG H T) (h : SqL K H a xs) : SqL K H1 a xs := by
  rcases h with (h | ⟨o, h⟩) | h
  · exact .inl (.inl (x.sb _ _ (tab_ne t h (fun _ z => by cases z)) h))
  · exact .inl (.inr ⟨o, x.sb _ _ (tab_ne t h (fun _ z => by cases z)) h⟩)
  · exact .inr h
theorem SB.fd {p : Addr} (x : SB T H H1) (t : GxR.TabG H T) (h : Fd H p) : Fd H1 p := by
  obtain ⟨d, s, e, r⟩ := h
  exact ⟨d, s, x.sb _ _ (tab_ne t e (fun _ z => by cases z)) e, r⟩
theorem Fd.ne {p : Addr} (h : Fd H p) (t : GxR.TabG H T) : p ≠ T := by
  obtain ⟨d, s, e, r⟩ := h
  exact tab_ne t e (fun _ z => by cases z)
theorem SB.none (x : SB T H H1) (t : GxR.TabG H T) {l : Addr} (h : H1 l = none) : H l = none := by
  cases e : H l with
  | none => rfl
  | some o =>
    by_cases n : l = T
    · subst n
      obtain ⟨ps, h1, _⟩ := x.tab
      rw [h1] at h
      cases h
    · rw [x.sb l o n e] at h
      cases h
end
end Ow
namespace Ow
open PySem PySem.Spec PyProof.Rows L2
def one (c : Nat) : Str := ⟨#[c]⟩
theorem len_cps (z : Str) : z.cps.toList.length = z.length := by simp [Str.length]
theorem join_one : ∀ zs : List Nat, (Str.join ⟨#[]⟩ (zs.map one)).cps.toList = zs
  | [] => rfl
  | [c] => rfl
  | c :: d :: r => by
    have ih := join_one (d :: r)
    show ((#[c] ++ #[]) ++ (Str.join ⟨#[]⟩ ((d :: r).map one)).cps).toList = _
    rw [Array.toList_append, ih]
    rfl
theorem sum_one : ∀ zs : List Nat, (((zs.map one).map (·.length)).sum : Nat) = zs.length
  | [] => rfl
  | c :: r => by
    show 1 + ((r.map one).map (·.length)).sum = r.length + 1
    rw [sum_one r]
    omega
theorem cutS_len (z : Str) (lo hi : Option Int) : (cutS z lo hi).length ≤ z.length := by
  have e : (cutS z lo hi).length = (cutS z lo hi).cps.toList.length := (len_cps _).symm
  rw [e]
  unfold cutS
  rw [List.toList_toArray, List.length_take, List.length_drop, len_cps]
  omega
theorem app_len (x y : Str) : (x ++ y).length = x.length + y.length := Array.size_append
def az : List Nat := [97, 98, 99, 100, 101, 102, 103, 104, 105, 106, 107, 108, 109, 110, 111, 112, 113, 114, 115, 116, 117, 118, 119, 120, 121, 122]
theorem mem_az (c : Nat) : c ∈ az ↔ 97 ≤ c ∧ c ≤ 122 := by
  unfold az
  simp only [List.mem_cons, List.not_mem_nil, or_false]
  omega
theorem dec_az (c : Nat) : decide (c ∈ az) = decide (97 ≤ c ∧ c ≤ 122) := decide_eq_decide.mpr (mem_az c)
end Ow
namespace Ow
open PySem PySem.Spec PyProof.Rows L2
/-- signs below 128 -/
def Lo (z : Str) : Prop := ∀ c ∈ z.cps.toList, c < 128
theorem Lo.app {x y : Str} (a : Lo x) (b : Lo y) : Lo (x ++ y) := by
  intro c hc
  have e : (x ++ y).cps.toList = x.cps.toList ++ y.cps.toList := Array.toList_append
  rw [e] at hc
  rcases List.mem_append.mp hc with h | h
  · exact a c h
  · exact b c h
theorem Lo.cut {x : Str} (a : Lo x) (lo hi : Option Int) : Lo (cutS x lo hi) := by
  intro c hc
  unfold cutS at hc
  rw [List.toList_toArray] at hc
  exact a c (List.mem_of_mem_drop (List.mem_of_mem_take hc))
def sg (c : Nat) : V := .str ⟨#[c]⟩
theorem dp_signs {K : PySem.W.Frag} {H : Hp} : ∀ l : List Nat, DpAll K H (l.map sg) (l.map fun c => PyData.str ⟨#[c]⟩)
  | [] => .nil
  | _ :: r => .cons (.str _) (dp_signs r)
theorem lay_signs : ∀ l : List Nat, (∀ c ∈ l, c < 128) → PyData.canLayAll0 (l.map fun c => PyData.str ⟨#[c]⟩) = true
  | [], _ => by simp [PyData.canLayAll0]
  | c :: r, h => by
    have h1 : c < 128 := h c List.mem_cons_self
    have h2 := lay_signs r fun d hd => h d (List.mem_cons_of_mem _ hd)
    have h3 : PyData.strOk ⟨#[c]⟩ = true := by
      simp [PyData.strOk]
      omega
    rw [List.map_cons]
    unfold PyData.canLayAll0
    rw [h2, Bool.and_true]
    unfold PyData.canLay0
    exact h3
theorem depth_signs : ∀ l : List Nat, PyData.depthAll (l.map fun c => PyData.str ⟨#[c]⟩) = 0
  | [] => by simp [PyData.depthAll]
  | c :: r => by
    rw [List.map_cons]
    unfold PyData.depthAll
    rw [depth_signs r]
    simp [PyData.depth]
theorem shaped_signs {l : List Nat} (h : ∀ c ∈ l, c < 128) : SeqAt.shaped (.list (l.map fun c => PyData.str ⟨#[c]⟩)) = true := by
  unfold SeqAt.shaped
  rw [Bool.and_eq_true]
  constructor
  · unfold PyData.canLay0
    exact lay_signs l h
  · unfold PyData.depth
    rw [depth_signs l]
    decide
theorem eqv_nil : ∀ l : List PyData, PyData.eqv (.list l) (.list []) = l.isEmpty
  | [] => by simp [PyData.eqv, PyData.eqvAll]
  | _ :: _ => by simp [PyData.eqv, PyData.eqvAll]
theorem filt_nil (l : List Nat) : (l.filter fun c => !decide (c ∈ az)).isEmpty = l.all fun c => decide (97 ≤ c ∧ c ≤ 122) := by
  rw [Bool.eq_iff_iff, List.isEmpty_iff, List.filter_eq_nil_iff, List.all_eq_true]
  constructor
  · intro h c hc
    have := h c hc
    rw [dec_az] at this
    simpa using this
  · intro h c hc
    have := h c hc
    rw [dec_az, this]
    decide
theorem filt_step {l : List Nat} {j c : Nat} (h : l[j]? = some c) : ((l.take (j + 1)).filter fun c => !decide (c ∈ az)) = ((l.take j).filter fun c => !decide (c ∈ az)) ++ (if decide (c ∈ az) = true then [] else [c]) := by
  rw [List.take_add_one, h, List.filter_append]
  congr 1
  show List.filter _ [c] = _
  by_cases hc : c ∈ az
  · rw [decide_eq_true hc, if_pos rfl, List.filter_cons_of_neg (by rw [decide_eq_true hc]; decide)]
    rfl
  · rw [decide_eq_false hc, if_neg (by decide), List.filter_cons_of_pos (by rw [decide_eq_false hc]; decide)]
    rfl
end Ow
namespace Ow
open PySem PySem.Spec PyProof.Rows L2
/-- no text, told by the heap -/
def NoS (H : Hp) (x : V) : Prop := x = .non ∨ (∃ b, x = .bl b) ∨ (∃ i, x = .int i) ∨ ∃ a xs, x = .ref a ∧ (H a = some (.lst xs) ∨ H a = some (.tup xs))
theorem NoS.str {K : PySem.W.Frag} {H : Hp} {x : V} (h : NoS H x) : NoStr K H x := by
  rcases h with rfl | ⟨b, rfl⟩ | ⟨i, rfl⟩ | ⟨a, xs, rfl, h | h⟩
  · exact ⟨_, .base .non, kit_ty (by decide +kernel)⟩
  · exact ⟨_, .base (.bl _), kit_ty (by decide +kernel)⟩
  · exact ⟨_, .base (.int _), kit_ty (by decide +kernel)⟩
  · exact ⟨_, .base (.lst h), kit_ty (by decide +kernel)⟩
  · exact ⟨_, .base (.tup h), kit_ty (by decide +kernel)⟩
theorem NoS.sb {T : Addr} {H H' : Hp} {x : V} (h : NoS H x) (t : GxR.TabG H T) (b : SB T H H') : NoS H' x := by
  rcases h with rfl | ⟨c, rfl⟩ | ⟨i, rfl⟩ | ⟨a, xs, rfl, h | h⟩
  · exact .inl rfl
  · exact .inr (.inl ⟨_, rfl⟩)
  · exact .inr (.inr (.inl ⟨_, rfl⟩))
  · exact .inr (.inr (.inr ⟨a, xs, rfl, .inl (b.sb _ _ (tab_ne t h fun _ z => by cases z) h)⟩))
  · exact .inr (.inr (.inr ⟨a, xs, rfl, .inr (b.sb _ _ (tab_ne t h fun _ z => by cases z) h)⟩))
end Ow
namespace Ow
open PySem PySem.Spec PyProof.Rows L2 LamX
/-- what is known of the law's promise, where the tables of the defs are told -/
theorem walk_ofTab {l : PySem.W.OpenLaw} {n k : Nat} {q : Program} {loose : List Str} {XP : (Str → Option Value) → Heap → Prop} {YP : World → Heap → Prop} {d : DefRec} {K : Params → PySem.W.Frag} {CX : World → CXT} {x : Str}
    (hn : l.most = some n) (hn2 : n ≤ sizeLine) (hdf : d.params.defaults = []) (hr : Room k callerA) (hY : ∀ (w : World) (h : Heap), YP w h → (K w.params).In h)
    (F : ∀ (w : World) (mg : Str → Option Value) (fa : Addr) (h : Heap), (K w.params).In h → h.Ns mainGlobals mg → mg d.name = some (.ref fa) →
      (∀ (d' : DefRec) (x : Str) (c P : Addr), (recsOf q).find? (fun e => e.name == x) = some d' → PySem.W.tabIn (K w.params) x = some (c, P) → PySem.W.CodeHd h c P ∧ h.get? P = some { cls := .none, data := .fields #[] }) → LawAtS l w (K w.params) (CX w) k n x mg fa h)
    (hCX : ∀ (w : World) (H : Hp) (s : Shared) (e : Value) (s' : Shared), CX w [] H s (fun _ _ _ => False) e s' → False) :
    PySem.W.WalkO q loose XP YP l.row.toRowW d [] (fun f vs => PySem.call f vs) := by
  refine Att.attach_callB hn hdf fun w s₀ s₁ mg mb fa o pm cd doc a vs ns G Y ho hd hcd hmg hobj hints hlen hbits hg => ?_
  have KX := hY w _ Y
  obtain ⟨fd, cs, sp, hT, nT, C, hb, hsp, hF⟩ := F w mg fa _ KX G.T.g hmg (fun d' x c P hr ht => PySem.W.tab_of G.T KX hr ht)
  exact law_callTs KX G.T.g G.T.b G.T.builtins G.T.nolimit hg hT nT C G.T.bmain hobj hints (Nat.le_trans hlen hn2) hr hF hb (fun H hH hS => hsp H a ns hlen hbits hH hS) fun H e s' => hCX w H s₁ e s'
end Ow
namespace Ow
open PySem
theorem tab_mk {K : PySem.W.Frag} {x : Str} {f c P : Addr} {o1 o2 : Value} {d1 d2 : Option Addr} {s1 s2 : Array (Option Value)} {fd : FuncData} {vs : Array Value}
    (a : PySem.W.nsIn K mainGlobals x = some (some (.ref f))) (l : K.lookup f = some ⟨o1, d1, .func fd, s1⟩) (hc : fd.code = .ref c) (lc : K.lookup c = some ⟨o2, d2, .fields vs, s2⟩) (hv : vs[11]? = some (.ref P)) : PySem.W.tabIn K x = some (c, P) := by
  unfold PySem.W.tabIn
  rw [a]
  simp only [l, hc, lc, hv]
theorem tabB {base : Heap} {mg : Str → Option Value} {c P : Addr} (t : LamX.TabB base mg c P) : GxR.TabB base mg c P := ⟨t.code, t.bm, t.gP⟩
end Ow

set_option Elab.async false
set_option linter.all false
set_option maxRecDepth 100000
set_option maxHeartbeats 4000000
/-! Values with tuples in them, a store of numbered lists, dicts, instances; how they lie in the heap; readings over them. -/
namespace Ev
open PySem PySem.Spec PyProof.Rows L2 Ow
/-- a value: tuples (and lists that never change) are what they hold; n: what stands in the store at n; a: an address of the text (a def, a class) -/
inductive W where
  | non | bl (b : Bool) | int (i : Int) | str (x : Str) | tup (l : List W) | cl (l : List W) | ref (n : Nat) | adr (a : Addr) | ty (n : String)
/-- what stands in the store -/
inductive O where
  | lst (l : List W)
  | dK (l : List (Key × W))
  | dT (l : List (List Key × W))
  | fK (l : List (Key × W))
  | ins (C : Addr) (fs : List (Str × W))
abbrev Store := List O
abbrev EvS := List (Option W)
/-- a list that never changes -/
def FzL (K : PySem.W.Frag) (H : Hp) (a : Addr) (xs : List V) : Prop :=
  (∃ o, H a = some (.frz o (.lst xs))) ∨
    ∃ (o : Obj) (its : Array Value) (n : Nat), K.lookup a = some o ∧ o.cls = .type "list" ∧ o.dict = none ∧ o.data = .seq its n ∧ its.size ≤ sizeLine ∧ Vals xs its.toList
theorem FzL.sq {K : PySem.W.Frag} {H : Hp} {a : Addr} {xs : List V} (h : FzL K H a xs) : SqL K H a xs := by
  rcases h with h | h
  · exact .inl (.inr h)
  · exact .inr h
mutual
def VR (K : PySem.W.Frag) (ι : List Addr) (H : Hp) : W → V → Prop
  | .non, v => v = .non
  | .bl b, v => v = .bl b
  | .int i, v => v = .int i
  | .str x, v => v = .str x
  | .ty n, v => v = .ty n
  | .adr a, v => v = .ref a
  | .ref n, v => ∃ a, ι[n]? = some a ∧ v = .ref a
  | .tup l, v => ∃ a vs, v = .ref a ∧ SqT K H a vs ∧ VRs K ι H l vs
  | .cl l, v => ∃ a vs, v = .ref a ∧ FzL K H a vs ∧ VRs K ι H l vs
def VRs (K : PySem.W.Frag) (ι : List Addr) (H : Hp) : List W → List V → Prop
  | [], vs => vs = []
  | w :: l, vs => ∃ v r, vs = v :: r ∧ VR K ι H w v ∧ VRs K ι H l r
end
/-- what may come: new addresses, more tuples -/
structure Grow (K : PySem.W.Frag) (ι : List Addr) (H : Hp) (ι' : List Addr) (H' : Hp) : Prop where
  pre : ∃ m, ι' = ι ++ m
  tup : ∀ a xs, SqT K H a xs → SqT K H' a xs
  fz : ∀ a xs, FzL K H a xs → FzL K H' a xs
section
variable {K : PySem.W.Frag} {ι ι' ι'' : List Addr} {H H' H'' : Hp}
theorem Grow.refl : Grow K ι H ι H := ⟨⟨[], by simp⟩, fun _ _ h => h, fun _ _ h => h⟩
theorem Grow.trans (a : Grow K ι H ι' H') (b : Grow K ι' H' ι'' H'') : Grow K ι H ι'' H'' := by
  obtain ⟨⟨m, e⟩, t, z⟩ := a
  obtain ⟨⟨m', e'⟩, t', z'⟩ := b
  exact ⟨⟨m ++ m', by rw [e', e, List.append_assoc]⟩, fun a xs h => t' _ _ (t _ _ h), fun a xs h => z' _ _ (z _ _ h)⟩
theorem Grow.at (g : Grow K ι H ι' H') {n : Nat} {a : Addr} (h : ι[n]? = some a) : ι'[n]? = some a := by
  obtain ⟨⟨m, e⟩, _, _⟩ := g
  rw [e, List.getElem?_append_left (List.getElem?_eq_some_iff.mp h).1]
  exact h
mutual
theorem VR.grow (g : Grow K ι H ι' H') : ∀ (w : W) {v : V}, VR K ι H w v → VR K ι' H' w v
  | .non, _, h => h
  | .bl _, _, h => h
  | .int _, _, h => h
  | .str _, _, h => h
  | .ty _, _, h => h
  | .adr _, _, h => h
  | .ref _, _, ⟨a, h, e⟩ => ⟨a, g.at h, e⟩
  | .tup l, _, ⟨a, vs, e, h, r⟩ => ⟨a, vs, e, g.tup _ _ h, VRs.grow g l r⟩
  | .cl l, _, ⟨a, vs, e, h, r⟩ => ⟨a, vs, e, g.fz _ _ h, VRs.grow g l r⟩
theorem VRs.grow (g : Grow K ι H ι' H') : ∀ (l : List W) {vs : List V}, VRs K ι H l vs → VRs K ι' H' l vs
  | [], _, h => h
  | w :: l, _, ⟨v, r, e, h, t⟩ => ⟨v, r, e, VR.grow g w h, VRs.grow g l t⟩
end
theorem VRs.len : ∀ {l : List W} {vs : List V}, VRs K ι H l vs → vs.length = l.length
  | [], _, h => by rw [h]; rfl
  | _ :: _, _, ⟨_, _, e, _, t⟩ => by rw [e, List.length_cons, List.length_cons, t.len]
theorem VRs.at : ∀ {l : List W} {vs : List V} {i : Nat} {w : W}, VRs K ι H l vs → l[i]? = some w → ∃ v, vs[i]? = some v ∧ VR K ι H w v
  | [], _, _, _, _, h => by simp at h
  | _ :: _, _, 0, _, ⟨v, _, e, h, _⟩, q => by
    cases q
    exact ⟨v, by rw [e]; rfl, h⟩
  | _ :: _, _, i + 1, w, ⟨_, _, e, _, t⟩, q => by
    obtain ⟨v, h1, h2⟩ := t.at (i := i) (w := w) q
    exact ⟨v, by rw [e]; exact h1, h2⟩
theorem VRs.at' {l : List W} {vs : List V} {i : Nat} {v : V} (r : VRs K ι H l vs) (h : vs[i]? = some v) : ∃ w, l[i]? = some w ∧ VR K ι H w v := by
  have hi := (List.getElem?_eq_some_iff.mp h).1
  rw [r.len] at hi
  obtain ⟨v', h1, h2⟩ := r.at (List.getElem?_eq_getElem hi)
  rw [h] at h1
  cases h1
  exact ⟨_, List.getElem?_eq_getElem hi, h2⟩
theorem VRs.app : ∀ {l m : List W} {vs us : List V}, VRs K ι H l vs → VRs K ι H m us → VRs K ι H (l ++ m) (vs ++ us)
  | [], _, _, _, h, k => by rw [h]; exact k
  | _ :: _, _, _, _, ⟨v, r, e, h, t⟩, k => ⟨v, r ++ _, by rw [e]; rfl, h, t.app k⟩
theorem VRs.one {w : W} {v : V} (h : VR K ι H w v) : VRs K ι H [w] [v] := ⟨v, [], rfl, h, rfl⟩
theorem VRs.set : ∀ {l : List W} {vs : List V} {w : W} {v : V} (i : Nat), VRs K ι H l vs → VR K ι H w v → VRs K ι H (l.set i w) (vs.set i v)
  | [], _, _, _, _, h, _ => by rw [h]; rfl
  | _ :: _, _, _, v, 0, ⟨_, r, e, _, t⟩, k => by rw [e]; exact ⟨v, r, rfl, k, t⟩
  | _ :: _, _, _, _, i + 1, ⟨u, r, e, h, t⟩, k => by rw [e]; exact ⟨u, r.set i _, rfl, h, t.set i k⟩
theorem VRs.take : ∀ {l : List W} {vs : List V} (i : Nat), VRs K ι H l vs → VRs K ι H (l.take i) (vs.take i)
  | [], _, _, h => by rw [h, List.take_nil, List.take_nil]; rfl
  | _ :: _, _, 0, _ => rfl
  | _ :: _, _, i + 1, ⟨u, r, e, h, t⟩ => by rw [e]; exact ⟨u, r.take i, rfl, h, t.take i⟩
theorem VRs.drop : ∀ {l : List W} {vs : List V} (i : Nat), VRs K ι H l vs → VRs K ι H (l.drop i) (vs.drop i)
  | [], _, _, h => by rw [h, List.drop_nil, List.drop_nil]; rfl
  | _ :: _, _, 0, k => k
  | _ :: _, _, i + 1, ⟨_, r, e, _, t⟩ => by rw [e]; exact t.drop i
theorem VRs.dropLast {l : List W} {vs : List V} (h : VRs K ι H l vs) : VRs K ι H l.dropLast vs.dropLast := by
  rw [List.dropLast_eq_take, List.dropLast_eq_take, h.len]
  exact h.take _
theorem VRs.erase {l : List W} {vs : List V} (i : Nat) (h : VRs K ι H l vs) : VRs K ι H (l.eraseIdx i) (vs.eraseIdx i) := by
  rw [List.eraseIdx_eq_take_drop_succ, List.eraseIdx_eq_take_drop_succ]
  exact (h.take _).app (h.drop _)
theorem VRs.ofMem : ∀ {l : List W} {vs : List V} {v : V}, VRs K ι H l vs → v ∈ vs → ∃ w ∈ l, VR K ι H w v := by
  intro l vs v r h
  obtain ⟨i, hi⟩ := List.getElem?_of_mem h
  obtain ⟨w, h1, h2⟩ := r.at' hi
  exact ⟨w, List.mem_of_getElem? h1, h2⟩
end
/-- what an object of the store is in the heap -/
def OR (K : PySem.W.Frag) (ι : List Addr) (H : Hp) (a : Addr) : O → Prop
  | .lst l => ∃ vs, H a = some (.lst vs) ∧ VRs K ι H l vs
  | .dK l => ∃ kvs, H a = some (.dK kvs) ∧ kvs.map (·.1) = l.map (·.1) ∧ VRs K ι H (l.map (·.2)) (kvs.map (·.2))
  | .dT l => ∃ kvs, H a = some (.dT kvs) ∧ kvs.map (·.1) = l.map (·.1) ∧ VRs K ι H (l.map (·.2)) (kvs.map (·.2))
  | .fK l => ∃ o kvs, H a = some (.frz o (.dK kvs)) ∧ kvs.map (·.1) = l.map (·.1) ∧ VRs K ι H (l.map (·.2)) (kvs.map (·.2))
  | .ins C fs => ∃ dx gs, H a = some (.ins C dx gs) ∧ gs.map (·.1) = fs.map (·.1) ∧ VRs K ι H (fs.map (·.2)) (gs.map (·.2))
structure Sim (K : PySem.W.Frag) (Tb : List Addr) (ι : List Addr) (S : Store) (H : Hp) : Prop where
  len : ι.length = S.length
  nd : ι.Nodup
  obj : ∀ (n : Nat) (o : O), S[n]? = some o → ∃ a, ι[n]? = some a ∧ OR K ι H a o
  tab : ∀ T ∈ Tb, GxR.TabG H T
section
variable {K : PySem.W.Frag} {Tb : List Addr} {ι ι' : List Addr} {S : Store} {H H' : Hp}
theorem OR.stands {a : Addr} {o : O} (h : OR K ι H a o) : ∃ u, H a = some u ∧ (∀ ps, u ≠ .tbl ps) ∧ ∀ xs, u ≠ .tup xs := by
  cases o with
  | lst l => obtain ⟨vs, e, _⟩ := h; exact ⟨_, e, (fun _ z => by cases z), fun _ z => by cases z⟩
  | dK l => obtain ⟨vs, e, _⟩ := h; exact ⟨_, e, (fun _ z => by cases z), fun _ z => by cases z⟩
  | dT l => obtain ⟨vs, e, _⟩ := h; exact ⟨_, e, (fun _ z => by cases z), fun _ z => by cases z⟩
  | fK l => obtain ⟨o, vs, e, _⟩ := h; exact ⟨_, e, (fun _ z => by cases z), fun _ z => by cases z⟩
  | ins C fs => obtain ⟨dx, gs, e, _⟩ := h; exact ⟨_, e, (fun _ z => by cases z), fun _ z => by cases z⟩
theorem Sim.there (s : Sim K Tb ι S H) {n : Nat} {a : Addr} (h : ι[n]? = some a) : ∃ o, S[n]? = some o ∧ OR K ι H a o := by
  have hi := (List.getElem?_eq_some_iff.mp h).1
  rw [s.len] at hi
  obtain ⟨b, h1, h2⟩ := s.obj n _ (List.getElem?_eq_getElem hi)
  rw [h] at h1
  cases h1
  exact ⟨_, List.getElem?_eq_getElem hi, h2⟩
theorem Sim.stands (s : Sim K Tb ι S H) {a : Addr} (h : a ∈ ι) : ∃ u, H a = some u ∧ (∀ ps, u ≠ .tbl ps) ∧ ∀ xs, u ≠ .tup xs := by
  obtain ⟨n, hn⟩ := List.getElem?_of_mem h
  obtain ⟨o, _, r⟩ := s.there hn
  exact r.stands
/-- an object of the store keeps while its own place and all tuples do -/
theorem OR.keep {a : Addr} {o : O} (g : Grow K ι H ι' H') (h : OR K ι H a o) (e : H' a = H a) : OR K ι' H' a o := by
  cases o with
  | lst l => obtain ⟨vs, e1, r⟩ := h; exact ⟨vs, e.trans e1, VRs.grow g _ r⟩
  | dK l => obtain ⟨vs, e1, k, r⟩ := h; exact ⟨vs, e.trans e1, k, VRs.grow g _ r⟩
  | dT l => obtain ⟨vs, e1, k, r⟩ := h; exact ⟨vs, e.trans e1, k, VRs.grow g _ r⟩
  | fK l => obtain ⟨ob, vs, e1, k, r⟩ := h; exact ⟨ob, vs, e.trans e1, k, VRs.grow g _ r⟩
  | ins C fs => obtain ⟨dx, gs, e1, k, r⟩ := h; exact ⟨dx, gs, e.trans e1, k, VRs.grow g _ r⟩
/-- all that stood stands -/
theorem Grow.same (h : Same H H') : Grow K ι H ι H' := ⟨⟨[], by simp⟩, fun a xs q => by
  rcases q with (q | ⟨o, q⟩) | q
  · exact .inl (.inl (h _ _ q))
  · exact .inl (.inr ⟨o, h _ _ q⟩)
  · exact .inr q, fun a xs q => by
  rcases q with ⟨o, q⟩ | q
  · exact .inl ⟨o, h _ _ q⟩
  · exact .inr q⟩
theorem Sim.same (s : Sim K Tb ι S H) (h : Same H H') : Sim K Tb ι S H' :=
  ⟨s.len, s.nd, fun n o e => by
    obtain ⟨a, h1, r⟩ := s.obj n o e
    obtain ⟨u, hu, _⟩ := r.stands
    exact ⟨a, h1, r.keep (Grow.same h) (by rw [hu]; exact h _ _ hu)⟩, fun T hT => by
    obtain ⟨ps, h1, h2⟩ := s.tab T hT
    exact ⟨ps, h _ _ h1, h2⟩⟩
/-- a table has grown -/
theorem Grow.tab {T : Addr} (t : GxR.TabG H T) (h : ∀ b, b ≠ T → H' b = H b) : Grow K ι H ι H' := by
  obtain ⟨ps, hT, _⟩ := t
  have ne : ∀ b u, H b = some u → (∀ q, u ≠ .tbl q) → b ≠ T := fun b u e n z => by
    rw [z, hT] at e
    exact n _ (Option.some.inj e).symm
  refine ⟨⟨[], by simp⟩, fun a xs q => ?_, fun a xs q => ?_⟩
  · rcases q with (q | ⟨o, q⟩) | q
    · exact .inl (.inl (by rw [h _ (ne _ _ q fun _ z => by cases z)]; exact q))
    · exact .inl (.inr ⟨o, by rw [h _ (ne _ _ q fun _ z => by cases z)]; exact q⟩)
    · exact .inr q
  · rcases q with ⟨o, q⟩ | q
    · exact .inl ⟨o, by rw [h _ (ne _ _ q fun _ z => by cases z)]; exact q⟩
    · exact .inr q
theorem Sim.tabbed {T : Addr} (s : Sim K Tb ι S H) (hT : T ∈ Tb) (h : GxR.Tabbed T H H') : Sim K Tb ι S H' ∧ Grow K ι H ι H' := by
  have g : Grow K ι H ι H' := Grow.tab (s.tab T hT) h.2
  refine ⟨⟨s.len, s.nd, fun n o e => ?_, fun T' hT' => ?_⟩, g⟩
  · obtain ⟨a, h1, r⟩ := s.obj n o e
    obtain ⟨u, hu, nt, _⟩ := r.stands
    refine ⟨a, h1, r.keep g (h.2 a fun z => ?_)⟩
    obtain ⟨ps, q, _⟩ := s.tab T hT
    rw [z, q] at hu
    exact nt _ (Option.some.inj hu).symm
  · by_cases z : T' = T
    · rw [z]
      exact h.1
    · obtain ⟨ps, q1, q2⟩ := s.tab T' hT'
      exact ⟨ps, by rw [h.2 _ z]; exact q1, q2⟩
theorem Sim.fresh (s : Sim K Tb ι S H) {p : Addr} (h : H p = none) : p ∉ ι := fun z => by
  obtain ⟨u, hu, _⟩ := s.stands z
  rw [h] at hu
  cases hu
/-- a new object -/
theorem Sim.new (s : Sim K Tb ι S H) {p : Addr} {u : HO} {o : O} (h : H p = none) (r : ∀ ι' H', Grow K ι H ι' H' → H' p = some u → OR K ι' H' p o) :
    Sim K Tb (ι ++ [p]) (S ++ [o]) (upd H p u) ∧ Grow K ι H (ι ++ [p]) (upd H p u) := by
  have g1 : Grow K ι H ι (upd H p u) := Grow.same (same_upd h)
  have g : Grow K ι H (ι ++ [p]) (upd H p u) := ⟨⟨[p], rfl⟩, g1.tup, g1.fz⟩
  refine ⟨⟨by simp [s.len], ?_, fun n o' e => ?_, fun T hT => ?_⟩, g⟩
  · refine List.nodup_append.mpr ⟨s.nd, by simp, fun a ha b hb => ?_⟩
    rw [List.mem_singleton.mp hb]
    intro z
    rw [z] at ha
    exact s.fresh h ha
  · by_cases hn : n < S.length
    · rw [List.getElem?_append_left hn] at e
      obtain ⟨a, h1, q⟩ := s.obj n o' e
      refine ⟨a, g.at h1, q.keep g (upd_ne fun z => ?_)⟩
      obtain ⟨w, hw, _⟩ := q.stands
      rw [z, h] at hw
      cases hw
    · have hn' : n = S.length := by
        have := (List.getElem?_eq_some_iff.mp e).1
        rw [List.length_append, List.length_singleton] at this
        omega
      subst hn'
      rw [List.getElem?_append_right (Nat.le_refl _), Nat.sub_self] at e
      cases e
      refine ⟨p, ?_, r _ _ g upd_same⟩
      rw [← s.len, List.getElem?_append_right (Nat.le_refl _), Nat.sub_self]
      rfl
  · obtain ⟨ps, q1, q2⟩ := s.tab T hT
    exact ⟨ps, by rw [upd_ne (ne_of_none q1 h)]; exact q1, q2⟩
/-- a new tuple (of no number) -/
theorem Sim.tup (s : Sim K Tb ι S H) {p : Addr} {xs : List V} (h : H p = none) : Sim K Tb ι S (upd H p (.tup xs)) ∧ Grow K ι H ι (upd H p (.tup xs)) :=
  ⟨s.same (same_upd h), Grow.same (same_upd h)⟩
/-- an object is changed -/
theorem Sim.set (s : Sim K Tb ι S H) {n : Nat} {p : Addr} {u : HO} {o : O} (hn : ι[n]? = some p) (nz : ∀ ob v, H p ≠ some (.frz ob v)) (r : ∀ H', Grow K ι H ι H' → H' p = some u → OR K ι H' p o) :
    Sim K Tb ι (S.set n o) (upd H p u) ∧ Grow K ι H ι (upd H p u) := by
  obtain ⟨w, hw, nt, np⟩ := s.stands (List.mem_of_getElem? hn)
  have g : Grow K ι H ι (upd H p u) := by
    refine ⟨⟨[], by simp⟩, fun a xs q => ?_, fun a xs q => ?_⟩
    · rcases q with (q | ⟨o, q⟩) | q
      · refine .inl (.inl ?_)
        rw [upd_ne fun z => ?_]
        · exact q
        · rw [z, hw] at q
          exact np _ (Option.some.inj q)
      · refine .inl (.inr ⟨o, ?_⟩)
        rw [upd_ne fun z => nz _ _ (z ▸ q)]
        exact q
      · exact .inr q
    · rcases q with ⟨o, q⟩ | q
      · refine .inl ⟨o, ?_⟩
        rw [upd_ne fun z => nz _ _ (z ▸ q)]
        exact q
      · exact .inr q
  refine ⟨⟨by simp [s.len], s.nd, fun m o' e => ?_, fun T hT => ?_⟩, g⟩
  · by_cases hm : m = n
    · subst hm
      rw [List.getElem?_set_self (by rw [← s.len]; exact (List.getElem?_eq_some_iff.mp hn).1)] at e
      cases e
      exact ⟨p, hn, r _ g upd_same⟩
    · rw [List.getElem?_set_ne (Ne.symm hm)] at e
      obtain ⟨a, h1, q⟩ := s.obj m o' e
      refine ⟨a, h1, q.keep g (upd_ne fun z => hm ?_)⟩
      subst z
      obtain ⟨i1, e1⟩ := List.getElem?_eq_some_iff.mp h1
      obtain ⟨i2, e2⟩ := List.getElem?_eq_some_iff.mp hn
      exact (List.getElem_inj s.nd).mp (e1.trans e2.symm)
  · obtain ⟨ps, q1, q2⟩ := s.tab T hT
    refine ⟨ps, ?_, q2⟩
    rw [upd_ne fun z => ?_]
    · exact q1
    · rw [z, hw] at q1
      exact nt _ (Option.some.inj q1)
end
end Ev

set_option Elab.async false
set_option linter.all false
set_option maxRecDepth 100000
set_option maxHeartbeats 4000000
/-! Readings over the store, lifted; names, operators, calls, statements. -/
namespace Ev
open PySem PySem.Spec PyProof.Rows L2 Ow
abbrev WK := W → Store → Prop
abbrev ME := EvS → Store → WK → Prop
abbrev MA := EvS → Store → (List W → Store → Prop) → Prop
abbrev MT := EvS → Store → (Bool → Store → Prop) → Prop
structure MD where
  nx : EvS → Store → Prop
  rt : WK
  bk : EvS → Store → Prop := fun _ _ => False
  ct : EvS → Store → Prop := fun _ _ => False
abbrev MS := MD → EvS → Store → Prop
abbrev MG := W → EvS → Store → (EvS → Store → Prop) → Prop
structure MD.le (D D' : MD) : Prop where
  nx : ∀ e S, D.nx e S → D'.nx e S
  rt : ∀ w S, D.rt w S → D'.rt w S
  bk : ∀ e S, D.bk e S → D'.bk e S
  ct : ∀ e S, D.ct e S → D'.ct e S
theorem MD.le.refl {D : MD} : MD.le D D := ⟨fun _ _ h => h, fun _ _ h => h, fun _ _ h => h, fun _ _ h => h⟩
structure ER (K : PySem.W.Frag) (ι : List Addr) (H : Hp) (env : EvS) (σ : L2.St) : Prop where
  len : env.length = σ.length
  at_ : ∀ (i : Nat) (w : W), env[i]? = some (some w) → ∃ v, σ[i]? = some (some v) ∧ VR K ι H w v
section
variable {K : PySem.W.Frag} {ι ι' : List Addr} {H H' : Hp} {env : EvS} {σ : L2.St}
theorem ER.grow (g : Grow K ι H ι' H') (r : ER K ι H env σ) : ER K ι' H' env σ :=
  ⟨r.len, fun i w h => let ⟨v, h1, h2⟩ := r.at_ i w h; ⟨v, h1, VR.grow g w h2⟩⟩
theorem ER.set (r : ER K ι H env σ) {w : W} {v : V} (i : Nat) (h : VR K ι H w v) : ER K ι H (env.set i (some w)) (σ.set i (some v)) := by
  refine ⟨by simp [r.len], fun j u e => ?_⟩
  by_cases hj : i = j
  · subst hj
    by_cases hi : i < env.length
    · rw [List.getElem?_set_self hi] at e
      cases e
      exact ⟨v, List.getElem?_set_self (by rw [← r.len]; exact hi), h⟩
    · rw [List.getElem?_eq_none (by rw [List.length_set]; omega)] at e
      cases e
  · rw [List.getElem?_set_ne hj] at e
    obtain ⟨x, h1, h2⟩ := r.at_ j u e
    exact ⟨x, by rw [List.getElem?_set_ne hj]; exact h1, h2⟩
end
/-- the value in slot i -/
def lk : EvS → Nat → Option W
  | [], _ => none
  | x :: _, 0 => x
  | _ :: r, i + 1 => lk r i
theorem lk_at : ∀ {env : EvS} {i : Nat} {w : W}, lk env i = some w → env[i]? = some (some w)
  | [], _, _, h => by cases h
  | x :: _, 0, w, h => by
    have e : x = some w := h
    rw [e]
    rfl
  | _ :: r, i + 1, w, h => by
    have := lk_at (env := r) (i := i) (w := w) h
    rw [List.getElem?_cons_succ]
    exact this
section
variable (K : PySem.W.Frag) (Tb : List Addr)
def LE (m : ME) : TE := fun σ H Q => ∃ ι env S, Sim K Tb ι S H ∧ ER K ι H env σ ∧ m env S fun w S' => ∀ ι' H' v, Sim K Tb ι' S' H' → Grow K ι H ι' H' → VR K ι' H' w v → Q v H'
def LA (m : MA) : TA := fun σ H Q => ∃ ι env S, Sim K Tb ι S H ∧ ER K ι H env σ ∧ m env S fun ws S' => ∀ ι' H' vs, Sim K Tb ι' S' H' → Grow K ι H ι' H' → VRs K ι' H' ws vs → Q vs H'
def LT (m : MT) : L2.TT := fun σ H Q => ∃ ι env S, Sim K Tb ι S H ∧ ER K ι H env σ ∧ m env S fun b S' => ∀ ι' H', Sim K Tb ι' S' H' → Grow K ι H ι' H' → Q b H'
/-- the ends, seen from the store -/
def dn (ι : List Addr) (H : Hp) (D : Ends) : MD where
  nx := fun e S => ∀ ι' H' σ', Sim K Tb ι' S H' → Grow K ι H ι' H' → ER K ι' H' e σ' → D.nx σ' H'
  rt := fun w S => ∀ ι' H' v, Sim K Tb ι' S H' → Grow K ι H ι' H' → VR K ι' H' w v → D.rt v H'
  bk := fun e S => ∀ ι' H' σ', Sim K Tb ι' S H' → Grow K ι H ι' H' → ER K ι' H' e σ' → D.bk σ' H'
  ct := fun e S => ∀ ι' H' σ', Sim K Tb ι' S H' → Grow K ι H ι' H' → ER K ι' H' e σ' → D.ct σ' H'
def LS (m : MS) : TS := fun D σ H => ∃ ι env S, Sim K Tb ι S H ∧ ER K ι H env σ ∧ m (dn K Tb ι H D) env S
def LG (m : MG) : TG := fun v σ H Q => ∃ ι env S w, Sim K Tb ι S H ∧ ER K ι H env σ ∧ VR K ι H w v ∧ m w env S fun e S' => ∀ ι' H' σ', Sim K Tb ι' S' H' → Grow K ι H ι' H' → ER K ι' H' e σ' → Q σ' H'
def LGs (m : List W → EvS → Store → (EvS → Store → Prop) → Prop) : TGs := fun vs σ H Q => ∃ ι env S ws, Sim K Tb ι S H ∧ ER K ι H env σ ∧ VRs K ι H ws vs ∧ m ws env S fun e S' => ∀ ι' H' σ', Sim K Tb ι' S' H' → Grow K ι H ι' H' → ER K ι' H' e σ' → Q σ' H'
end
theorem dn_le {K : PySem.W.Frag} {Tb : List Addr} {ι ι' : List Addr} {H H' : Hp} {D : Ends} (g : Grow K ι H ι' H') : MD.le (dn K Tb ι H D) (dn K Tb ι' H' D) :=
  ⟨fun e S h ι2 H2 σ2 s g2 r => h ι2 H2 σ2 s (g.trans g2) r, fun e S h ι2 H2 σ2 s g2 r => h ι2 H2 σ2 s (g.trans g2) r, fun e S h ι2 H2 σ2 s g2 r => h ι2 H2 σ2 s (g.trans g2) r, fun e S h ι2 H2 σ2 s g2 r => h ι2 H2 σ2 s (g.trans g2) r⟩
abbrev MonoE (m : ME) : Prop := ∀ (env : EvS) (S : Store) (Q Q' : WK), (∀ w S', Q w S' → Q' w S') → m env S Q → m env S Q'
structure EE (X : Cx) (Tb : List Addr) (e : Expr) (m : ME) : Prop where
  pe : PE X e (LE X.K Tb m)
  mono : MonoE m
structure EA (X : Cx) (Tb : List Addr) (es : List Expr) (m : MA) : Prop where
  pa : PA X es (LA X.K Tb m)
  mono : ∀ (env : EvS) (S : Store) (Q Q' : List W → Store → Prop), (∀ w S', Q w S' → Q' w S') → m env S Q → m env S Q'
structure ET (X : Cx) (Tb : List Addr) (e : Expr) (m : MT) : Prop where
  pt : PT X e (LT X.K Tb m)
  mono : ∀ (env : EvS) (S : Store) (Q Q' : Bool → Store → Prop), (∀ w S', Q w S' → Q' w S') → m env S Q → m env S Q'
structure EW (X : Cx) (Tb : List Addr) (e : Expr) (m : MT) : Prop where
  pw : PW X e (LT X.K Tb m)
  mono : ∀ (env : EvS) (S : Store) (Q Q' : Bool → Store → Prop), (∀ w S', Q w S' → Q' w S') → m env S Q → m env S Q'
structure ES (X : Cx) (Tb : List Addr) (st : Stmt) (m : MS) : Prop where
  ps : PS X st (LS X.K Tb m)
  mono : ∀ (D D' : MD) (env : EvS) (S : Store), MD.le D D' → m D env S → m D' env S
structure ESs (X : Cx) (Tb : List Addr) (st : List Stmt) (m : MS) : Prop where
  ps : PSs X st (LS X.K Tb m)
  mono : ∀ (D D' : MD) (env : EvS) (S : Store), MD.le D D' → m D env S → m D' env S
structure EG (X : Cx) (Tb : List Addr) (e : Expr) (m : MG) : Prop where
  pg : PG X e (LG X.K Tb m)
  mono : ∀ (w : W) (env : EvS) (S : Store) (Q Q' : EvS → Store → Prop), (∀ e S', Q e S' → Q' e S') → m w env S Q → m w env S Q'
structure EGs (X : Cx) (Tb : List Addr) (e : List Expr) (m : List W → EvS → Store → (EvS → Store → Prop) → Prop) : Prop where
  pg : PGs X e (LGs X.K Tb m)
  mono : ∀ (w : List W) (env : EvS) (S : Store) (Q Q' : EvS → Store → Prop), (∀ e S', Q e S' → Q' e S') → m w env S Q → m w env S Q'
section
variable {X : Cx} {Tb : List Addr} {e a b : Expr} {t t' : TE}
theorem pe_imp (h : PE X e t) (k : ∀ σ H Q, t' σ H Q → t σ H Q) : PE X e t' := ⟨fun pins s σ H Q I q => h.run pins s σ H Q I (k σ H Q q)⟩
theorem pa_imp {es : List Expr} {t t' : TA} (h : PA X es t) (k : ∀ σ H Q, t' σ H Q → t σ H Q) : PA X es t' := ⟨fun pos pins s σ H Q I q => h.run pos pins s σ H Q I (k σ H Q q)⟩
theorem pt_imp {t t' : L2.TT} (h : PT X e t) (k : ∀ σ H Q, t' σ H Q → t σ H Q) : PT X e t' := ⟨fun pins s σ H Q I q => h.run pins s σ H Q I (k σ H Q q)⟩
theorem pw_imp {t t' : L2.TT} (h : PW X e t) (k : ∀ σ H Q, t' σ H Q → t σ H Q) : PW X e t' := ⟨fun wh pins s σ H Q I q => h.run wh pins s σ H Q I (k σ H Q q)⟩
theorem ps_imp {st : Stmt} {t t' : TS} (h : PS X st t) (k : ∀ D σ H, t' D σ H → t D σ H) : PS X st t' := ⟨fun pins s σ H D I q => h.run pins s σ H D I (k D σ H q)⟩
theorem pss_imp {st : List Stmt} {t t' : TS} (h : PSs X st t) (k : ∀ D σ H, t' D σ H → t D σ H) : PSs X st t' := ⟨fun pins s σ H D I q => h.run pins s σ H D I (k D σ H q)⟩
theorem pg_imp {t t' : TG} (h : PG X e t) (k : ∀ v σ H Q, t' v σ H Q → t v σ H Q) : PG X e t' := ⟨fun pins s σ H v u Q I r q => h.run pins s σ H v u Q I r (k v σ H Q q)⟩
theorem pgs_imp {es : List Expr} {t t' : TGs} (h : PGs X es t) (k : ∀ v σ H Q, t' v σ H Q → t v σ H Q) : PGs X es t' := ⟨fun pins s σ H v u Q I r q => h.run pins s σ H v u Q I r (k v σ H Q q)⟩
/-! ### names, constants -/
def mVar (i : Nat) : ME := fun env S Q => match lk env i with
  | some w => Q w S
  | none => False
def mC (w : W) : ME := fun _ S Q => Q w S
theorem e_var {i : Nat} {x : Str} {pos : Pos} (hN : X.N[i]? = some x := by rfl) (hv : Vis X.env.scope x := by first | exact Or.inl rfl | exact Or.inr (Or.inl rfl) | exact Or.inr (Or.inr rfl)) (hd : (x == ("__debug__" : Str)) = false := by decide)
    (hcd : (x == ("__classdict__" : Str)) = false := by decide) : EE X Tb (.Name x pos) (mVar i) := by
  refine ⟨pe_imp (pe_var hN hv hd hcd) fun σ H Q h => ?_, fun env S Q Q' k h => ?_⟩
  · obtain ⟨ι, env, S, s, r, h⟩ := h
    unfold mVar at h
    cases e : lk env i with
    | none => rw [e] at h; exact h.elim
    | some w =>
      rw [e] at h
      obtain ⟨v, h1, h2⟩ := r.at_ i w (lk_at e)
      exact ⟨v, h1, h ι H v s Grow.refl h2⟩
  · unfold mVar at h ⊢
    cases e : lk env i with
    | none => rw [e] at h; exact h.elim
    | some w =>
      rw [e] at h
      exact k _ _ h
theorem e_c {w : W} {v : V} (h : PE X e (tC v)) (r : ∀ ι H, VR X.K ι H w v) : EE X Tb e (mC w) :=
  ⟨pe_imp h fun σ H Q ⟨ι, env, S, s, _, q⟩ => q ι H v s Grow.refl (r ι H), fun _ _ _ _ k h => k _ _ h⟩
theorem e_int {i j pos} : EE X Tb (.Constant (.int i) j pos) (mC (.int i)) := e_c pe_int fun _ _ => rfl
theorem e_bl {b j pos} : EE X Tb (.Constant (.bool b) j pos) (mC (.bl b)) := e_c pe_bl fun _ _ => rfl
theorem e_non {j pos} : EE X Tb (.Constant .none j pos) (mC .non) := e_c pe_non fun _ _ => rfl
theorem e_str {x j pos} : EE X Tb (.Constant (.str x) j pos) (mC (.str x)) := e_c pe_str fun _ _ => rfl
/-- a module's int -/
theorem e_gint {x : Str} {i : Int} {pos : Pos} (hg : Gl X x) (hm : ∃ t, X.mg x = some (.int i t)) (hd : (x == ("__debug__" : Str)) = false := by decide) : EE X Tb (.Name x pos) (mC (.int i)) :=
  let ⟨t, e⟩ := hm; e_c (v := .int i) (pe_glob hg e ⟨t, rfl⟩ hd) fun _ _ => rfl
/-- a module's object (a dict, a def) -/
theorem e_gadr {x : Str} {a : Addr} {pos : Pos} (hg : Gl X x) (hm : X.mg x = some (.ref a)) (hd : (x == ("__debug__" : Str)) = false := by decide) : EE X Tb (.Name x pos) (mC (.adr a)) :=
  e_c (v := .ref a) (pe_glob hg hm rfl hd) fun _ _ => rfl
/-- a built-in class as a value -/
theorem e_ty {x : Str} {n : String} {pos : Pos} (hg : Gl X x) (hm : X.mg x = none) (hv : bootBuiltins x = some (.type n) := by decide +kernel) (hn : x ≠ "__name__" := by decide) (hd : (x == ("__debug__" : Str)) = false := by decide) : EE X Tb (.Name x pos) (mC (.ty n)) :=
  e_c (pe_bltn (v := .ty n) hg hm hv rfl hn hd) fun _ _ => rfl
/-! ### two values -/
abbrev R2W := W → W → Store → WK → Prop
abbrev MonoO (op : R2W) : Prop := ∀ (x y : W) (S : Store) (Q Q' : WK), (∀ w S', Q w S' → Q' w S') → op x y S Q → op x y S Q'
/-- the operator's reading r is met by op -/
def RL (K : PySem.W.Frag) (Tb : List Addr) (r : R2) (op : R2W) : Prop :=
  ∀ (ι : List Addr) (S : Store) (H : Hp) (w1 w2 : W) (v1 v2 : V) (Q : WK) (Qv : VK), Sim K Tb ι S H → VR K ι H w1 v1 → VR K ι H w2 v2 → op w1 w2 S Q →
    (∀ ι' S' H' w v, Q w S' → Sim K Tb ι' S' H' → Grow K ι H ι' H' → VR K ι' H' w v → Qv v H') → r v1 v2 H Qv
def mBin (op : R2W) (ma mb : ME) : ME := fun env S Q => ma env S fun x S1 => mb env S1 fun y S2 => op x y S2 Q
variable {ma mb mc : ME}
theorem mBin_mono {op : R2W} (mo : MonoO op) (ha : MonoE ma) (hb : MonoE mb) : MonoE (mBin op ma mb) := fun env S Q Q' k h =>
  ha _ _ _ _ (fun x S1 h1 => hb _ _ _ _ (fun y S2 h2 => mo _ _ _ _ _ k h2) h1) h
theorem lift2 {r : R2} {op : R2W} (hr : RL X.K Tb r op) (mo : MonoO op) (ha : EE X Tb a ma) (hb : EE X Tb b mb) {σ : L2.St} {H : Hp} {Q : VK} (h : LE X.K Tb (mBin op ma mb) σ H Q) :
    tOp r (LE X.K Tb ma) (LE X.K Tb mb) σ H Q := by
  obtain ⟨ι, env, S, s, er, h⟩ := h
  refine ⟨ι, env, S, s, er, ha.mono _ _ _ _ (fun x S1 h1 => ?_) h⟩
  intro ι1 H1 v1 s1 g1 r1
  refine ⟨ι1, env, S1, s1, er.grow g1, hb.mono _ _ _ _ (fun y S2 h2 => ?_) h1⟩
  intro ι2 H2 v2 s2 g2 r2
  exact hr ι2 S2 H2 x y v1 v2 _ _ s2 (VR.grow g2 x r1) r2 h2 fun ι3 S3 H3 w v q s3 g3 r3 => q ι3 H3 v s3 ((g1.trans g2).trans g3) r3
theorem e_op {op' : Operator} {r : R2} {op : R2W} {pos : Pos} (ho : OpR X (binaryOp op') r) (hr : RL X.K Tb r op) (mo : MonoO op) (ha : EE X Tb a ma) (hb : EE X Tb b mb) : EE X Tb (.BinOp a op' b pos) (mBin op ma mb) :=
  ⟨pe_imp (pe_op ho ha.pe hb.pe) fun σ H Q h => lift2 hr mo ha hb h, mBin_mono mo ha.mono hb.mono⟩
theorem e_cmp {op' : CmpOp} {r : R2} {op : R2W} {pos : Pos} (ho : OpR X (compareOp op') r) (hr : RL X.K Tb r op) (mo : MonoO op) (ha : EE X Tb a ma) (hb : EE X Tb b mb) (hm : behindInMarks op' b = false := by first | exact nomark _ | rfl) : EE X Tb (.Compare a [op'] [b] pos) (mBin op ma mb) :=
  ⟨pe_imp (pe_cmpR ho ha.pe hb.pe hm) fun σ H Q h => lift2 hr mo ha hb h, mBin_mono mo ha.mono hb.mono⟩
/-- a bool, as a test -/
def mTest (m : ME) : MT := fun env S Q => m env S fun w S' => match w with
  | .bl b => Q b S'
  | _ => False
theorem mTest_mono {m : ME} (h : MonoE m) (env : EvS) (S : Store) (Q Q' : Bool → Store → Prop) (k : ∀ w S', Q w S' → Q' w S') (q : mTest m env S Q) : mTest m env S Q' :=
  h _ _ _ _ (fun w S' z => by
    cases w with
    | bl b => exact k _ _ z
    | _ => exact z.elim) q
theorem t_cmp {op' : CmpOp} {r : R2} {op : R2W} {pos : Pos} (ho : OpR X (compareOp op') r) (hr : RL X.K Tb r op) (mo : MonoO op) (ha : EE X Tb a ma) (hb : EE X Tb b mb) (hm : behindInMarks op' b = false := by first | exact nomark _ | rfl) : ET X Tb (.Compare a [op'] [b] pos) (mTest (mBin op ma mb)) := by
  refine ⟨pt_imp (pt_cmpR ho ha.pe hb.pe hm) fun σ H Q h => ?_, mTest_mono (mBin_mono mo ha.mono hb.mono)⟩
  refine lift2 hr mo ha hb ?_
  obtain ⟨ι, env, S, s, er, h⟩ := h
  refine ⟨ι, env, S, s, er, mBin_mono mo ha.mono hb.mono _ _ _ _ (fun w S' q ι' H' v s' g' r' => ?_) h⟩
  cases w with
  | bl c =>
    have e : v = .bl c := r'
    exact ⟨c, e, q ι' H' s' g'⟩
  | _ => exact q.elim
/-- a op b op c -/
def mChain (op op' : R2W) (ma mb mc : ME) : ME := fun env S Q => ma env S fun x S1 => mb env S1 fun y S2 => op x y S2 fun z S3 => match z with
  | .bl k => if k = true then mc env S3 fun u S4 => op' y u S4 Q else Q (.bl false) S3
  | _ => False
theorem mChain_mono {op op' : R2W} (mo : MonoO op) (mo' : MonoO op') (ha : MonoE ma) (hb : MonoE mb) (hc : MonoE mc) : MonoE (mChain op op' ma mb mc) := fun env S Q Q' k h =>
  ha _ _ _ _ (fun x S1 h1 => hb _ _ _ _ (fun y S2 h2 => mo _ _ _ _ _ (fun z S3 h3 => by
    cases z with
    | bl c =>
      cases c with
      | true => exact hc _ _ _ _ (fun u S4 h4 => mo' _ _ _ _ _ k h4) h3
      | false => exact k _ _ h3
    | _ => exact h3.elim) h2) h1) h
theorem lift_chain {r r' : R2} {op op' : R2W} (hr : RL X.K Tb r op) (hr' : RL X.K Tb r' op') (mo : MonoO op) (mo' : MonoO op') {c : Expr} (ha : EE X Tb a ma) (hb : EE X Tb b mb) (hc : EE X Tb c mc) {σ : L2.St} {H : Hp} {Q : VK} (h : LE X.K Tb (mChain op op' ma mb mc) σ H Q) :
    tChain r r' (LE X.K Tb ma) (LE X.K Tb mb) (LE X.K Tb mc) σ H Q := by
  obtain ⟨ι, env, S, s, er, h⟩ := h
  refine ⟨ι, env, S, s, er, ha.mono _ _ _ _ (fun x S1 h1 => ?_) h⟩
  intro ι1 H1 v1 s1 g1 r1
  refine ⟨ι1, env, S1, s1, er.grow g1, hb.mono _ _ _ _ (fun y S2 h2 => ?_) h1⟩
  intro ι2 H2 v2 s2 g2 r2
  refine hr ι2 S2 H2 x y v1 v2 _ _ s2 (VR.grow g2 x r1) r2 h2 fun ι3 S3 H3 w v q s3 g3 r3 => ?_
  cases w with
  | bl k =>
    have e : v = .bl k := r3
    refine ⟨k, e, ?_⟩
    cases k with
    | true =>
      refine iteT ⟨ι3, env, S3, s3, ((er.grow g1).grow g2).grow g3, hc.mono _ _ _ _ (fun u S4 h4 => ?_) q⟩
      intro ι4 H4 v4 s4 g4 r4
      exact hr' ι4 S4 H4 y u v2 v4 _ _ s4 (VR.grow g4 y (VR.grow g3 y r2)) r4 h4 fun ι5 S5 H5 w5 v5 q5 s5 g5 r5 => q5 ι5 H5 v5 s5 ((((g1.trans g2).trans g3).trans g4).trans g5) r5
    | false => exact iteF (q ι3 H3 _ s3 ((g1.trans g2).trans g3) rfl)
  | _ => exact q.elim
theorem t_chain {o o' : CmpOp} {r r' : R2} {op op' : R2W} {c : Expr} {pos : Pos} (ho : OpR X (compareOp o) r) (ho' : OpR X (compareOp o') r') (hr : RL X.K Tb r op) (hr' : RL X.K Tb r' op') (mo : MonoO op) (mo' : MonoO op') (ha : EE X Tb a ma) (hb : EE X Tb b mb) (hc : EE X Tb c mc)
    (hm : lastMarks [o, o'] [b, c] = false := by with_unfolding_all rfl) : ET X Tb (.Compare a [o, o'] [b, c] pos) (mTest (mChain op op' ma mb mc)) := by
  refine ⟨pt_imp (pt_chain ho ho' ha.pe hb.pe hc.pe hm) fun σ H Q h => ?_, mTest_mono (mChain_mono mo mo' ha.mono hb.mono hc.mono)⟩
  refine lift_chain hr hr' mo mo' ha hb hc ?_
  obtain ⟨ι, env, S, s, er, h⟩ := h
  refine ⟨ι, env, S, s, er, mChain_mono mo mo' ha.mono hb.mono hc.mono _ _ _ _ (fun w S' q ι' H' v s' g' r' => ?_) h⟩
  cases w with
  | bl c =>
    have e : v = .bl c := r'
    exact ⟨c, e, q ι' H' s' g'⟩
  | _ => exact q.elim
theorem e_chain {o o' : CmpOp} {r r' : R2} {op op' : R2W} {c : Expr} {pos : Pos} (ho : OpR X (compareOp o) r) (ho' : OpR X (compareOp o') r') (hr : RL X.K Tb r op) (hr' : RL X.K Tb r' op') (mo : MonoO op) (mo' : MonoO op') (ha : EE X Tb a ma) (hb : EE X Tb b mb) (hc : EE X Tb c mc)
    (hm : lastMarks [o, o'] [b, c] = false := by with_unfolding_all rfl) : EE X Tb (.Compare a [o, o'] [b, c] pos) (mChain op op' ma mb mc) :=
  ⟨pe_imp (pe_chain ho ho' ha.pe hb.pe hc.pe hm) fun σ H Q h => lift_chain hr hr' mo mo' ha hb hc h, mChain_mono mo mo' ha.mono hb.mono hc.mono⟩
/-! ### truth -/
def oTru (o : Option O) (S : Store) (Q : Bool → Store → Prop) : Prop := match o with
  | some (.lst l) => Q (!l.isEmpty) S
  | some (.dK l) => Q (!l.isEmpty) S
  | _ => False
def wTru (w : W) (S : Store) (Q : Bool → Store → Prop) : Prop := match w with
  | .non => Q false S
  | .bl b => Q b S
  | .int i => Q (i != 0) S
  | .str x => x.length ≤ sizeLine ∧ Q ((x.length : Int) != 0) S
  | .tup l => Q (!l.isEmpty) S
  | .cl l => Q (!l.isEmpty) S
  | .ref n => oTru S[n]? S Q
  | _ => False
theorem empty_len {α β : Type} {l : List α} {m : List β} (h : l.length = m.length) : l.isEmpty = m.isEmpty := by
  cases l <;> cases m <;> first | rfl | cases h
def mTru (m : ME) : MT := fun env S Q => m env S fun w S' => wTru w S' Q
theorem wTru_mono {w : W} {S : Store} {Q Q' : Bool → Store → Prop} (k : ∀ w S', Q w S' → Q' w S') (h : wTru w S Q) : wTru w S Q' := by
  cases w with
  | non => exact k _ _ h
  | bl b => exact k _ _ h
  | int b => exact k _ _ h
  | str x => exact ⟨h.1, k _ _ h.2⟩
  | tup l => exact k _ _ h
  | cl l => exact k _ _ h
  | ref n =>
    have h : oTru S[n]? S Q := h
    show oTru S[n]? S Q'
    cases e : S[n]? with
    | none => rw [e] at h; exact h.elim
    | some o =>
      rw [e] at h
      cases o with
      | lst l => exact k _ _ h
      | dK l => exact k _ _ h
      | _ => exact h.elim
  | adr a => exact h.elim
  | ty n => exact h.elim
theorem truOk {K : PySem.W.Frag} {Tb ι : List Addr} {S : Store} {H : Hp} {w : W} {v : V} {Q : Bool → Store → Prop} (s : Sim K Tb ι S H) (r : VR K ι H w v) (h : wTru w S Q) : ∃ k, TruV K v H k ∧ Q k S := by
  cases w with
  | non => obtain rfl : v = .non := r; exact ⟨_, rfl, h⟩
  | bl b => obtain rfl : v = .bl b := r; exact ⟨_, rfl, h⟩
  | int b => obtain rfl : v = .int b := r; exact ⟨_, rfl, h⟩
  | str x => obtain rfl : v = .str x := r; exact ⟨_, ⟨h.1, rfl⟩, h.2⟩
  | tup l =>
    obtain ⟨a, vs, rfl, q, z⟩ := r
    exact ⟨_, .inr (.inl ⟨vs, q, by rw [empty_len z.len]⟩), h⟩
  | cl l =>
    obtain ⟨a, vs, rfl, q, z⟩ := r
    exact ⟨_, .inl ⟨vs, q.sq, by rw [empty_len z.len]⟩, h⟩
  | ref n =>
    obtain ⟨a, ha, rfl⟩ := r
    have h : oTru S[n]? S Q := h
    obtain ⟨o, ho, q⟩ := s.there ha
    rw [ho] at h
    cases o with
    | lst l =>
      obtain ⟨vs, e, z⟩ := q
      exact ⟨_, .inl ⟨vs, SqL.of e, by rw [empty_len z.len]⟩, h⟩
    | dK l =>
      obtain ⟨kvs, e, z, _⟩ := q
      refine ⟨_, .inr (.inr ⟨kvs, e, ?_⟩), h⟩
      have := congrArg List.length z
      rw [List.length_map, List.length_map] at this
      rw [empty_len this]
    | dT l => exact h.elim
    | fK l => exact h.elim
    | ins C fs => exact h.elim
  | adr a => exact h.elim
  | ty n => exact h.elim
theorem t_truth {m : ME} (h : EE X Tb e m) (he : ∀ whole, isTrue e X.env whole = (do let v ← whole; standAt e.pos; holding [v] (truthy v)) := by intro _; rfl) : ET X Tb e (mTru m) := by
  refine ⟨pt_imp (pt_truth h.pe he) fun σ H Q q => ?_, fun env S Q Q' k q => h.mono _ _ _ _ (fun w S' z => wTru_mono k z) q⟩
  obtain ⟨ι, env, S, s, er, q⟩ := q
  refine ⟨ι, env, S, s, er, h.mono _ _ _ _ (fun w S' z ι' H' v s' g' r' => ?_) q⟩
  obtain ⟨k, h1, h2⟩ := truOk s' r' z
  exact ⟨k, h1, h2 ι' H' s' g'⟩
/-! ### and, or, not -/
def mAnd (x y : MT) : MT := fun env S Q => x env S fun c S1 => if c = true then y env S1 Q else Q false S1
def mOr (x y : MT) : MT := fun env S Q => x env S fun c S1 => if c = true then Q true S1 else y env S1 Q
def mNot (x : MT) : MT := fun env S Q => x env S fun c S1 => Q (!c) S1
variable {x y : MT} {rest : List Expr} {pos : Pos}
theorem w_and1 (ha : ET X Tb a x) : EW X Tb (.BoolOp .And [a] pos) x := ⟨pw_and1 ha.pt, ha.mono⟩
theorem w_or1 (ha : ET X Tb a x) : EW X Tb (.BoolOp .Or [a] pos) x := ⟨pw_or1 ha.pt, ha.mono⟩
theorem w_and (ha : ET X Tb a x) (hb : EW X Tb (.BoolOp .And (b :: rest) pos) y) : EW X Tb (.BoolOp .And (a :: b :: rest) pos) (mAnd x y) := by
  refine ⟨pw_imp (pw_and ha.pt hb.pw) fun σ H Q h => ?_, fun env S Q Q' k h => ha.mono _ _ _ _ (fun c S1 q => ?_) h⟩
  · obtain ⟨ι, env, S, s, er, h⟩ := h
    refine ⟨ι, env, S, s, er, ha.mono _ _ _ _ (fun c S1 q ι1 H1 s1 g1 => ?_) h⟩
    cases c with
    | true => exact iteT ⟨ι1, env, S1, s1, er.grow g1, hb.mono _ _ _ _ (fun d S2 q2 ι2 H2 s2 g2 => q2 ι2 H2 s2 (g1.trans g2)) q⟩
    | false => exact iteF (q ι1 H1 s1 g1)
  · cases c with
    | true => exact hb.mono _ _ _ _ k q
    | false => exact k _ _ q
theorem w_or (ha : ET X Tb a x) (hb : EW X Tb (.BoolOp .Or (b :: rest) pos) y) : EW X Tb (.BoolOp .Or (a :: b :: rest) pos) (mOr x y) := by
  refine ⟨pw_imp (pw_or ha.pt hb.pw) fun σ H Q h => ?_, fun env S Q Q' k h => ha.mono _ _ _ _ (fun c S1 q => ?_) h⟩
  · obtain ⟨ι, env, S, s, er, h⟩ := h
    refine ⟨ι, env, S, s, er, ha.mono _ _ _ _ (fun c S1 q ι1 H1 s1 g1 => ?_) h⟩
    cases c with
    | true => exact iteT (q ι1 H1 s1 g1)
    | false => exact iteF ⟨ι1, env, S1, s1, er.grow g1, hb.mono _ _ _ _ (fun d S2 q2 ι2 H2 s2 g2 => q2 ι2 H2 s2 (g1.trans g2)) q⟩
  · cases c with
    | true => exact k _ _ q
    | false => exact hb.mono _ _ _ _ k q
theorem w_t (h : EW X Tb e x) : ET X Tb e x := ⟨PW.pt h.pw, h.mono⟩
theorem t_not (ha : ET X Tb a x) : ET X Tb (.UnaryOp .Not a pos) (mNot x) :=
  ⟨pt_imp (pt_not ha.pt) fun σ H Q ⟨ι, env, S, s, er, h⟩ => ⟨ι, env, S, s, er, h⟩, fun env S Q Q' k h => ha.mono _ _ _ _ (fun c S1 q => k _ _ q) h⟩
/-- as values -/
def mAndV (ma mb : ME) : ME := fun env S Q => ma env S fun w S1 => match w with
  | .bl c => if c = true then mb env S1 Q else Q (.bl false) S1
  | _ => False
def mOrV (ma mb : ME) : ME := fun env S Q => ma env S fun w S1 => match w with
  | .bl c => if c = true then Q (.bl true) S1 else mb env S1 Q
  | _ => False
def mNotV (ma : ME) : ME := fun env S Q => ma env S fun w S1 => match w with
  | .bl c => Q (.bl (!c)) S1
  | _ => False
theorem e_one {op} (h : EE X Tb a ma) : EE X Tb (.BoolOp op [a] pos) ma := ⟨pe_one h.pe, h.mono⟩
theorem e_and (ha : EE X Tb a ma) (hb : EE X Tb (.BoolOp .And (b :: rest) pos) mb) : EE X Tb (.BoolOp .And (a :: b :: rest) pos) (mAndV ma mb) := by
  refine ⟨pe_imp (pe_and ha.pe hb.pe) fun σ H Q h => ?_, fun env S Q Q' k h => ha.mono _ _ _ _ (fun w S1 q => ?_) h⟩
  · obtain ⟨ι, env, S, s, er, h⟩ := h
    refine ⟨ι, env, S, s, er, ha.mono _ _ _ _ (fun w S1 q ι1 H1 v s1 g1 r1 => ?_) h⟩
    cases w with
    | bl c =>
      refine ⟨c, r1, ?_⟩
      cases c with
      | true => exact iteT ⟨ι1, env, S1, s1, er.grow g1, hb.mono _ _ _ _ (fun d S2 q2 ι2 H2 v2 s2 g2 r2 => q2 ι2 H2 v2 s2 (g1.trans g2) r2) q⟩
      | false => exact iteF (q ι1 H1 _ s1 g1 rfl)
    | _ => exact q.elim
  · cases w with
    | bl c =>
      cases c with
      | true => exact hb.mono _ _ _ _ k q
      | false => exact k _ _ q
    | _ => exact q.elim
theorem e_or (ha : EE X Tb a ma) (hb : EE X Tb (.BoolOp .Or (b :: rest) pos) mb) : EE X Tb (.BoolOp .Or (a :: b :: rest) pos) (mOrV ma mb) := by
  refine ⟨pe_imp (pe_or ha.pe hb.pe) fun σ H Q h => ?_, fun env S Q Q' k h => ha.mono _ _ _ _ (fun w S1 q => ?_) h⟩
  · obtain ⟨ι, env, S, s, er, h⟩ := h
    refine ⟨ι, env, S, s, er, ha.mono _ _ _ _ (fun w S1 q ι1 H1 v s1 g1 r1 => ?_) h⟩
    cases w with
    | bl c =>
      refine ⟨c, r1, ?_⟩
      cases c with
      | true => exact iteT (q ι1 H1 _ s1 g1 rfl)
      | false => exact iteF ⟨ι1, env, S1, s1, er.grow g1, hb.mono _ _ _ _ (fun d S2 q2 ι2 H2 v2 s2 g2 r2 => q2 ι2 H2 v2 s2 (g1.trans g2) r2) q⟩
    | _ => exact q.elim
  · cases w with
    | bl c =>
      cases c with
      | true => exact k _ _ q
      | false => exact hb.mono _ _ _ _ k q
    | _ => exact q.elim
theorem e_not (ha : EE X Tb a ma) : EE X Tb (.UnaryOp .Not a pos) (mNotV ma) := by
  refine ⟨pe_imp (pe_not ha.pe) fun σ H Q h => ?_, fun env S Q Q' k h => ha.mono _ _ _ _ (fun w S1 q => ?_) h⟩
  · obtain ⟨ι, env, S, s, er, h⟩ := h
    refine ⟨ι, env, S, s, er, ha.mono _ _ _ _ (fun w S1 q ι1 H1 v s1 g1 r1 => ?_) h⟩
    cases w with
    | bl c => exact ⟨c, r1, q ι1 H1 _ s1 g1 rfl⟩
    | _ => exact q.elim
  · cases w with
    | bl c => exact k _ _ q
    | _ => exact q.elim
/-- a if c else b -/
def mIf (c : MT) (ma mb : ME) : ME := fun env S Q => c env S fun k S1 => if k = true then ma env S1 Q else mb env S1 Q
theorem e_if {c : Expr} (hc : ET X Tb c x) (ha : EE X Tb a ma) (hb : EE X Tb b mb) : EE X Tb (.IfExp c a b pos) (mIf x ma mb) := by
  refine ⟨pe_imp (pe_ifExp hc.pt ha.pe hb.pe) fun σ H Q h => ?_, fun env S Q Q' k h => hc.mono _ _ _ _ (fun c S1 q => ?_) h⟩
  · obtain ⟨ι, env, S, s, er, h⟩ := h
    refine ⟨ι, env, S, s, er, hc.mono _ _ _ _ (fun c S1 q ι1 H1 s1 g1 => ?_) h⟩
    cases c with
    | true => exact iteT ⟨ι1, env, S1, s1, er.grow g1, ha.mono _ _ _ _ (fun d S2 q2 ι2 H2 v2 s2 g2 r2 => q2 ι2 H2 v2 s2 (g1.trans g2) r2) q⟩
    | false => exact iteF ⟨ι1, env, S1, s1, er.grow g1, hb.mono _ _ _ _ (fun d S2 q2 ι2 H2 v2 s2 g2 r2 => q2 ι2 H2 v2 s2 (g1.trans g2) r2) q⟩
  · cases c with
    | true => exact ha.mono _ _ _ _ k q
    | false => exact hb.mono _ _ _ _ k q
/-! ### lists of values, displays -/
def mNil : MA := fun _ S Q => Q [] S
def mCons (m : ME) (r : MA) : MA := fun env S Q => m env S fun w S1 => r env S1 fun ws S2 => Q (w :: ws) S2
variable {es : List Expr} {mr : MA} {m : ME}
theorem a_nil : EA X Tb [] mNil := ⟨pa_imp pa_nil fun σ H Q ⟨ι, env, S, s, er, h⟩ => h ι H [] s Grow.refl rfl, fun _ _ _ _ k h => k _ _ h⟩
theorem a_cons (ha : EE X Tb e m) (hr : EA X Tb es mr) (hs : starEach (e :: es) X.env = (false, eval e X.env) :: starEach es X.env := by rfl) : EA X Tb (e :: es) (mCons m mr) := by
  refine ⟨pa_imp (pa_cons ha.pe hr.pa hs) fun σ H Q h => ?_, fun env S Q Q' k h => ha.mono _ _ _ _ (fun w S1 q => hr.mono _ _ _ _ (fun ws S2 q2 => k _ _ q2) q) h⟩
  obtain ⟨ι, env, S, s, er, h⟩ := h
  refine ⟨ι, env, S, s, er, ha.mono _ _ _ _ (fun w S1 q ι1 H1 v s1 g1 r1 => ?_) h⟩
  refine ⟨ι1, env, S1, s1, er.grow g1, hr.mono _ _ _ _ (fun ws S2 q2 ι2 H2 vs s2 g2 r2 => ?_) q⟩
  exact q2 ι2 H2 (v :: vs) s2 (g1.trans g2) ⟨v, vs, rfl, VR.grow g2 w r1, r2⟩
def mTup (m : MA) : ME := fun env S Q => m env S fun ws S1 => ws.length ≤ sizeLine ∧ Q (.tup ws) S1
def mLst (m : MA) : ME := fun env S Q => m env S fun ws S1 => ws.length ≤ sizeLine ∧ Q (.ref S1.length) (S1 ++ [.lst ws])
theorem e_tup {x1} (h : EA X Tb es mr) : EE X Tb (.Tuple es x1 pos) (mTup mr) := by
  refine ⟨pe_imp (pe_tup h.pa) fun σ H Q q => ?_, fun env S Q Q' k q => h.mono _ _ _ _ (fun ws S1 z => ⟨z.1, k _ _ z.2⟩) q⟩
  obtain ⟨ι, env, S, s, er, q⟩ := q
  refine ⟨ι, env, S, s, er, h.mono _ _ _ _ (fun ws S1 z ι1 H1 vs s1 g1 r1 => ?_) q⟩
  refine ⟨by rw [r1.len]; exact z.1, fun p hp => ?_⟩
  obtain ⟨s2, g2⟩ := s1.tup (xs := vs) hp
  exact z.2 ι1 _ _ s2 (g1.trans g2) ⟨p, vs, rfl, SqT.of upd_same, r1.grow g2⟩
theorem newL {K : PySem.W.Frag} {Tb ι : List Addr} {S : Store} {H : Hp} {ws : List W} {vs : List V} {p : Addr} (s : Sim K Tb ι S H) (r : VRs K ι H ws vs) (hp : H p = none) :
    ∃ ι', Sim K Tb ι' (S ++ [.lst ws]) (upd H p (.lst vs)) ∧ Grow K ι H ι' (upd H p (.lst vs)) ∧ VR K ι' (upd H p (.lst vs)) (.ref S.length) (.ref p) := by
  obtain ⟨s2, g2⟩ := s.new (u := .lst vs) (o := .lst ws) hp fun ι' H' g e => ⟨vs, e, r.grow g⟩
  refine ⟨_, s2, g2, p, ?_, rfl⟩
  rw [← s.len, List.getElem?_append_right (Nat.le_refl _), Nat.sub_self]
  rfl
theorem e_lst (h : EA X Tb es mr) : EE X Tb (.List es pos) (mLst mr) := by
  refine ⟨pe_imp (pe_lst h.pa) fun σ H Q q => ?_, fun env S Q Q' k q => h.mono _ _ _ _ (fun ws S1 z => ⟨z.1, k _ _ z.2⟩) q⟩
  obtain ⟨ι, env, S, s, er, q⟩ := q
  refine ⟨ι, env, S, s, er, h.mono _ _ _ _ (fun ws S1 z ι1 H1 vs s1 g1 r1 => ?_) q⟩
  refine ⟨by rw [r1.len]; exact z.1, fun p hp => ?_⟩
  obtain ⟨ι2, s2, g2, r2⟩ := newL s1 r1 hp
  exact z.2 ι2 _ _ s2 (g1.trans g2) r2
/-! ### calls by values -/
abbrev RCW := List W → Store → WK → Prop
abbrev MonoC (op : RCW) : Prop := ∀ (x : List W) (S : Store) (Q Q' : WK), (∀ w S', Q w S' → Q' w S') → op x S Q → op x S Q'
def CL (K : PySem.W.Frag) (Tb : List Addr) (r : List V → Hp → VK → Prop) (op : RCW) : Prop :=
  ∀ (ι : List Addr) (S : Store) (H : Hp) (ws : List W) (vs : List V) (Q : WK) (Qv : VK), Sim K Tb ι S H → VRs K ι H ws vs → op ws S Q →
    (∀ ι' S' H' w v, Q w S' → Sim K Tb ι' S' H' → Grow K ι H ι' H' → VR K ι' H' w v → Qv v H') → r vs H Qv
def mCB (op : RCW) (m : MA) : ME := fun env S Q => m env S fun ws S1 => op ws S1 Q
theorem mCB_mono {op : RCW} (mo : MonoC op) (h : ∀ (env : EvS) (S : Store) (Q Q' : List W → Store → Prop), (∀ w S', Q w S' → Q' w S') → mr env S Q → mr env S Q') : MonoE (mCB op mr) := fun env S Q Q' k q => h _ _ _ _ (fun ws S1 z => mo _ _ _ _ k z) q
theorem liftC {r : List V → Hp → VK → Prop} {op : RCW} (hr : CL X.K Tb r op) (h : EA X Tb es mr) {σ : L2.St} {H : Hp} {Q : VK} (q : LE X.K Tb (mCB op mr) σ H Q) : tCB r (LA X.K Tb mr) σ H Q := by
  obtain ⟨ι, env, S, s, er, q⟩ := q
  refine ⟨ι, env, S, s, er, h.mono _ _ _ _ (fun ws S1 z ι1 H1 vs s1 g1 r1 => ?_) q⟩
  exact hr ι1 S1 H1 ws vs _ _ s1 r1 z fun ι2 S2 H2 w v q2 s2 g2 r2 => q2 ι2 H2 v s2 (g1.trans g2) r2
theorem e_callB {f : Str} {id : String} {r : List V → Hp → VK → Prop} {op : RCW} {p : Pos} (hc : CallR X (.builtin id) r) (hr : CL X.K Tb r op) (mo : MonoC op) (hg : Gl X f) (hm : X.mg f = none) (hv : bootBuiltins f = some (.builtin id)) (ha : EA X Tb (e :: es) mr) (hn : f ≠ "__name__" := by decide)
    (hdb : (f == ("__debug__" : Str)) = false := by decide) (he : starEach (e :: es) X.env = (false, eval e X.env) :: starEach es X.env := by rfl) (hpl : (backTo pos (starEach es X.env)).any (·.1) = false := by rfl) : EE X Tb (.Call (.Name f p) (e :: es) [] pos) (mCB op mr) :=
  ⟨pe_imp (pe_callB hc hg hm hv ha.pa hn hdb he hpl) fun σ H Q q => liftC hr ha q, mCB_mono mo ha.mono⟩
theorem e_callTy {f : Str} {id : String} {r : List V → Hp → VK → Prop} {op : RCW} {p : Pos} (hc : CallR X (.type id) r) (hr : CL X.K Tb r op) (mo : MonoC op) (hg : Gl X f) (hm : X.mg f = none) (hv : bootBuiltins f = some (.type id)) (ha : EA X Tb (e :: es) mr) (hn : f ≠ "__name__" := by decide)
    (hdb : (f == ("__debug__" : Str)) = false := by decide) (he : starEach (e :: es) X.env = (false, eval e X.env) :: starEach es X.env := by rfl) (hpl : (backTo pos (starEach es X.env)).any (·.1) = false := by rfl) : EE X Tb (.Call (.Name f p) (e :: es) [] pos) (mCB op mr) :=
  ⟨pe_imp (pe_callTy hc hg hm hv ha.pa hn hdb he hpl) fun σ H Q q => liftC hr ha q, mCB_mono mo ha.mono⟩
/-! ### own defs -/
structure Con where
  α : Type
  pre : α → List W → Store → Prop
  post : α → Store → W → Store → Prop
def conR (C : Con) : RCW := fun ws S Q => ∃ a, C.pre a ws S ∧ ∀ w S', C.post a S w S' → Q w S'
theorem conR_mono {C : Con} : MonoC (conR C) := fun x S Q Q' k ⟨a, p, h⟩ => ⟨a, p, fun w S' z => k _ _ (h w S' z)⟩
def spOf (K : PySem.W.Frag) (Tb : List Addr) (C : Con) : Sp := fun vs H Q _ => ∃ ι ws S a, Sim K Tb ι S H ∧ VRs K ι H ws vs ∧ C.pre a ws S ∧
  ∀ w S', C.post a S w S' → ∀ ι' H' v, Sim K Tb ι' S' H' → Grow K ι H ι' H' → VR K ι' H' w v → Q v H'
/-- a def that is known by its contract -/
structure Dn (P : Program) (w : World) (K : PySem.W.Frag) (mg : Str → Option Value) (base : Heap) (Tb : List Addr) (x : Str) (ps : List Str) (k : Nat) (C : Con) : Prop where
  ex : ∃ f fd, FnOk P w K mg base CX0 k f fd ps (spOf K Tb C) ∧ mg x = some (.ref f) ∧ PySem.W.keepIn K (.ref f) = true ∧ Binds K fd ps []
theorem e_call {f : Str} {ps : List Str} {k : Nat} {C : Con} {p : Pos} (D : Dn X.prog X.w X.K X.mg X.base Tb f ps k C) (hr : Room k X.A) (hg : Gl X f) (ha : EA X Tb (e :: es) mr)
    (hdb : (f == ("__debug__" : Str)) = false := by decide) (he : starEach (e :: es) X.env = (false, eval e X.env) :: starEach es X.env := by rfl) (hpl : (backTo pos (starEach es X.env)).any (·.1) = false := by rfl) : EE X Tb (.Call (.Name f p) (e :: es) [] pos) (mCB (conR C) mr) := by
  obtain ⟨fa, fd, F, gf, kf, bf⟩ := D.ex
  refine ⟨pe_imp (pe_call F hr hg gf kf bf .nil pass0 ha.pa hdb he hpl) fun σ H Q q => ?_, mCB_mono conR_mono ha.mono⟩
  obtain ⟨ι, env, S, s, er, q⟩ := q
  refine ⟨ι, env, S, s, er, ha.mono _ _ _ _ (fun ws S1 z ι1 H1 vs s1 g1 r1 => ?_) q⟩
  obtain ⟨a, hp, hq⟩ := z
  rw [List.append_nil]
  exact ⟨ι1, ws, S1, a, s1, r1, hp, fun w S' po ι2 H2 v s2 g2 r2 => hq w S' po ι2 H2 v s2 (g1.trans g2) r2⟩
/-! ### statements -/
def mNext : MS := fun D env S => D.nx env S
def mSeq (x y : MS) : MS := fun D env S => x { D with nx := fun e S' => y D e S' } env S
variable {st : Stmt} {sts : List Stmt} {mx my : MS}
theorem ss_nil : ESs X Tb [] mNext := ⟨pss_imp pss_nil fun D σ H ⟨ι, env, S, s, er, h⟩ => h ι H σ s Grow.refl er, fun _ _ _ _ l h => l.nx _ _ h⟩
theorem mSeq_mono (ha : ∀ (D D' : MD) (env : EvS) (S : Store), MD.le D D' → mx D env S → mx D' env S) (hb : ∀ (D D' : MD) (env : EvS) (S : Store), MD.le D D' → my D env S → my D' env S) (D D' : MD) (env : EvS) (S : Store) (l : MD.le D D') (h : mSeq mx my D env S) : mSeq mx my D' env S :=
  ha { D with nx := fun e S' => my D e S' } { D' with nx := fun e S' => my D' e S' } _ _ ⟨fun e S' q => hb _ _ _ _ l q, l.rt, l.bk, l.ct⟩ h
theorem ss_cons (ha : ES X Tb st mx) (hb : ESs X Tb sts my) : ESs X Tb (st :: sts) (mSeq mx my) := by
  refine ⟨pss_imp (pss_cons ha.ps hb.ps) fun D σ H h => ?_, mSeq_mono ha.mono hb.mono⟩
  obtain ⟨ι, env, S, s, er, h⟩ := h
  refine ⟨ι, env, S, s, er, ha.mono { dn X.K Tb ι H D with nx := fun e S' => my (dn X.K Tb ι H D) e S' } _ _ _ ⟨fun e S' q ι1 H1 σ1 s1 g1 r1 => ?_, fun _ _ q => q, fun _ _ q => q, fun _ _ q => q⟩ h⟩
  exact ⟨ι1, e, S', s1, r1, hb.mono _ _ _ _ (dn_le g1) q⟩
theorem ss_one (ha : ES X Tb st mx) : ESs X Tb [st] mx := ⟨pss_one ha.ps, ha.mono⟩
def mBreak : MS := fun D env S => D.bk env S
def mCont : MS := fun D env S => D.ct env S
theorem s_pass : ES X Tb (.Pass pos) mNext := ⟨ps_imp ps_pass fun D σ H ⟨ι, env, S, s, er, h⟩ => h ι H σ s Grow.refl er, fun _ _ _ _ l h => l.nx _ _ h⟩
theorem s_break : ES X Tb (.Break pos) mBreak := ⟨ps_imp ps_break fun D σ H ⟨ι, env, S, s, er, h⟩ => h ι H σ s Grow.refl er, fun _ _ _ _ l h => l.bk _ _ h⟩
theorem s_cont : ES X Tb (.Continue pos) mCont := ⟨ps_imp ps_continue fun D σ H ⟨ι, env, S, s, er, h⟩ => h ι H σ s Grow.refl er, fun _ _ _ _ l h => l.ct _ _ h⟩
theorem s_doc {x j p p'} : ES X Tb (.Expr (.Constant (.str x) j p) p') mNext := ⟨ps_imp ps_doc fun D σ H ⟨ι, env, S, s, er, h⟩ => h ι H σ s Grow.refl er, fun _ _ _ _ l h => l.nx _ _ h⟩
def mDrop (m : ME) : MS := fun D env S => m env S fun _ S' => D.nx env S'
theorem s_expr (he : EE X Tb e m) (hs : swapsWith e none pos.line X.env = pure false := by rfl) : ES X Tb (.Expr e pos) (mDrop m) := by
  refine ⟨ps_imp (ps_expr he.pe hs) fun D σ H h => ?_, fun _ _ _ _ l h => he.mono _ _ _ _ (fun w S' q => l.nx _ _ q) h⟩
  obtain ⟨ι, env, S, s, er, h⟩ := h
  exact ⟨ι, env, S, s, er, he.mono _ _ _ _ (fun w S' q ι' H' v s' g' r' => q ι' H' σ s' g' (er.grow g')) h⟩
def mRet (m : ME) : MS := fun D env S => m env S D.rt
theorem s_ret (he : EE X Tb e m) : ES X Tb (.Return (some e) pos) (mRet m) :=
  ⟨ps_imp (ps_ret he.pe) fun D σ H ⟨ι, env, S, s, er, h⟩ => ⟨ι, env, S, s, er, h⟩, fun _ _ _ _ l h => he.mono _ _ _ _ l.rt h⟩
def mRetN : MS := fun D env S => D.rt .non S
theorem s_retN : ES X Tb (.Return none pos) mRetN := ⟨ps_imp ps_retN fun D σ H ⟨ι, env, S, s, er, h⟩ => h ι H .non s Grow.refl rfl, fun _ _ _ _ l h => l.rt _ _ h⟩
def mIfS (c : MT) (x y : MS) : MS := fun D env S => c env S fun k S1 => if k = true then x D env S1 else y D env S1
theorem s_if {c : Expr} {mc : MT} {p q : List Stmt} (hc : ET X Tb c mc) (ha : ESs X Tb p mx) (hb : ESs X Tb q my) : ES X Tb (.If c p q pos) (mIfS mc mx my) := by
  refine ⟨ps_imp (ps_if hc.pt ha.ps hb.ps) fun D σ H h => ?_, fun D D' env S l h => hc.mono _ _ _ _ (fun k S1 q => ?_) h⟩
  · obtain ⟨ι, env, S, s, er, h⟩ := h
    refine ⟨ι, env, S, s, er, hc.mono _ _ _ _ (fun k S1 q ι1 H1 s1 g1 => ?_) h⟩
    cases k with
    | true => exact iteT ⟨ι1, env, S1, s1, er.grow g1, ha.mono _ _ _ _ (dn_le g1) q⟩
    | false => exact iteF ⟨ι1, env, S1, s1, er.grow g1, hb.mono _ _ _ _ (dn_le g1) q⟩
  · cases k with
    | true => exact ha.mono _ _ _ _ l q
    | false => exact hb.mono _ _ _ _ l q
/-! ### targets -/
def mgName (i : Nat) : MG := fun w env S Q => Q (env.set i (some w)) S
theorem g_name {i : Nat} {x : Str} (hN : X.N.Nodup) (hi : X.N[i]? = some x := by rfl) (hx : Loc X.env.scope x := by first | exact Or.inl rfl | exact Or.inr rfl) (hf : X.fn x = true ∨ X.env.scope.names.lookup x = some .local := by first | exact .inl rfl | exact .inr rfl | assumption) : EG X Tb (.Name x pos) (mgName i) := by
  refine ⟨pg_imp (pg_name hN hi hx hf) fun v σ H Q h => ?_, fun _ _ _ _ _ k h => k _ _ h⟩
  obtain ⟨ι, env, S, w, s, er, r, h⟩ := h
  exact h ι H _ s Grow.refl (er.set i r)
abbrev MGs := List W → EvS → Store → (EvS → Store → Prop) → Prop
def mgNil : MGs := fun ws env S Q => ws = [] ∧ Q env S
def mgCons (x : MG) (y : MGs) : MGs := fun ws env S Q => match ws with
  | w :: r => x w env S fun e S' => y r e S' Q
  | [] => False
variable {tg : MG} {tgs : MGs}
theorem gs_nil : EGs X Tb [] mgNil := by
  refine ⟨pgs_imp pgs_nil fun v σ H Q h => ?_, fun _ _ _ _ _ k h => ⟨h.1, k _ _ h.2⟩⟩
  obtain ⟨ι, env, S, ws, s, er, r, e, h⟩ := h
  subst e
  exact ⟨r, h ι H _ s Grow.refl er⟩
theorem gs_cons (h1 : EG X Tb e tg) (h2 : EGs X Tb es tgs) (hs : (assignEach (e :: es) X.env).map (·.2) = assign e X.env :: (assignEach es X.env).map (·.2) := by rfl) : EGs X Tb (e :: es) (mgCons tg tgs) := by
  refine ⟨pgs_imp (pgs_cons h1.pg h2.pg hs) fun v σ H Q h => ?_, fun ws env S Q Q' k h => ?_⟩
  · obtain ⟨ι, env, S, ws, s, er, r, h⟩ := h
    cases ws with
    | nil => exact h.elim
    | cons w ws =>
      obtain ⟨v, vr, rfl, rw, rr⟩ := r
      refine ⟨v, vr, rfl, ι, env, S, w, s, er, rw, h1.mono _ _ _ _ _ (fun e S' q ι1 H1 σ1 s1 g1 er1 => ?_) h⟩
      exact ⟨ι1, e, S', ws, s1, er1, rr.grow g1, h2.mono _ _ _ _ _ (fun e2 S2 q2 ι2 H2 σ2 s2 g2 er2 => q2 ι2 H2 σ2 s2 (g1.trans g2) er2) q⟩
  · cases ws with
    | nil => exact h.elim
    | cons w ws => exact h1.mono _ _ _ _ _ (fun e S' q => h2.mono _ _ _ _ _ k q) h
def mgTup (n : Nat) (t : MGs) : MG := fun w env S Q => match w with
  | .tup l => l.length = n ∧ t l env S Q
  | _ => False
theorem g_tup {k n : Nat} (hc : X.calm = true) (h : EGs X Tb es tgs) (hn : (assignEach es X.env).length = n := by rfl) (hst : (assignEach es X.env).findIdx? (·.1) = none := by rfl) : EG X Tb (.Tuple es k pos) (mgTup n tgs) := by
  refine ⟨pg_imp (pg_tup hc h.pg hn hst) fun v σ H Q q => ?_, fun w env S Q Q' k q => ?_⟩
  · obtain ⟨ι, env, S, w, s, er, r, q⟩ := q
    cases w with
    | tup l =>
      obtain ⟨a, vs, rfl, hq, rv⟩ := r
      exact ⟨a, vs, rfl, hq, by rw [rv.len]; exact q.1, ι, env, S, l, s, er, rv, q.2⟩
    | _ => exact q.elim
  · cases w with
    | tup l => exact ⟨q.1, h.mono _ _ _ _ _ k q.2⟩
    | _ => exact q.elim
def mAsg (m : ME) (g : MG) : MS := fun D env S => m env S fun w S1 => g w env S1 D.nx
theorem mAsg_mono (he : MonoE m) (hg : ∀ (w : W) (env : EvS) (S : Store) (Q Q' : EvS → Store → Prop), (∀ e S', Q e S' → Q' e S') → tg w env S Q → tg w env S Q') (D D' : MD) (env : EvS) (S : Store) (l : MD.le D D') (h : mAsg m tg D env S) : mAsg m tg D' env S :=
  he _ _ _ _ (fun w S1 q => hg _ _ _ _ _ l.nx q) h
theorem lift_asg (he : EE X Tb e m) {g : Expr} (hg : EG X Tb g tg) {D : Ends} {σ : L2.St} {H : Hp} (h : LS X.K Tb (mAsg m tg) D σ H) : tAsg (LE X.K Tb m) (LG X.K Tb tg) D σ H := by
  obtain ⟨ι, env, S, s, er, h⟩ := h
  refine ⟨ι, env, S, s, er, he.mono _ _ _ _ (fun w S1 q ι1 H1 v s1 g1 r1 => ?_) h⟩
  exact ⟨ι1, env, S1, w, s1, er.grow g1, r1, hg.mono _ _ _ _ _ (fun e S2 q2 ι2 H2 σ2 s2 g2 er2 => q2 ι2 H2 σ2 s2 (g1.trans g2) er2) q⟩
theorem s_asg {g : Expr} (he : EE X Tb e m) (hg : EG X Tb g tg) (hs : swapsWithSole [g] e pos.line X.env = pure false := by rfl) (hw : swappedStores [g] e X.env = pure none := by rfl) (h1 : (assignEach [g] X.env).map (·.2) = [assign g X.env] := by rfl) : ES X Tb (.Assign [g] e pos) (mAsg m tg) :=
  ⟨ps_imp (ps_asg he.pe hg.pg hs hw h1) fun D σ H h => lift_asg he hg h, mAsg_mono he.mono hg.mono⟩
theorem s_set {i : Nat} {x : Str} {p : Pos} (hN : X.N.Nodup) (he : EE X Tb e m) (hi : X.N[i]? = some x := by rfl) (hx : Loc X.env.scope x := by first | exact Or.inl rfl | exact Or.inr rfl) (hs : swapsWith e (some (.Name x p)) pos.line X.env = pure false := by rfl) (hf : X.fn x = true ∨ X.env.scope.names.lookup x = some .local := by first | exact .inl rfl | exact .inr rfl | assumption) :
    ES X Tb (.Assign [.Name x p] e pos) (mAsg m (mgName i)) := by
  refine ⟨ps_imp (ps_set hN hi hx he.pe hs hf) fun D σ H h => ?_, mAsg_mono he.mono fun _ _ _ _ _ k h => k _ _ h⟩
  obtain ⟨ι, env, S, s, er, h⟩ := h
  exact ⟨ι, env, S, s, er, he.mono _ _ _ _ (fun w S1 q ι1 H1 v s1 g1 r1 => q ι1 H1 _ s1 g1 ((er.grow g1).set i r1)) h⟩
/-- a, b = x, y: local names -/
def mPar (i j : Nat) (m : MA) : MS := fun D env S => m env S fun ws S1 => match ws with
  | [x, y] => D.nx ((env.set i (some x)).set j (some y)) S1
  | _ => False
theorem s_par {i j : Nat} {x y : Str} {px py pt : Pos} {kt k2 pt2} (hc : X.calm = true) (hN : X.N.Nodup) (ha : EA X Tb [a, b] mr) (hi : X.N[i]? = some x := by rfl) (hj : X.N[j]? = some y := by rfl) (hij : i ≠ j := by decide)
    (hx : X.env.scope.names.lookup x = some .local := by rfl) (hy : X.env.scope.names.lookup y = some .local := by rfl) 
    (hw : swappedStores [.Tuple [.Name x px, .Name y py] kt pt] (.Tuple [a, b] k2 pt2) X.env = pure (some [x, y]) := by rfl)
    (hs : swapsWithSole [.Tuple [.Name x px, .Name y py] kt pt] (.Tuple [a, b] k2 pt2) pos.line X.env = pure false := by rfl) :
    ES X Tb (.Assign [.Tuple [.Name x px, .Name y py] kt pt] (.Tuple [a, b] k2 pt2) pos) (mPar i j mr) := by
  refine ⟨ps_imp (ps_par hc hN hi hj hij hx hy ha.pa hw hs) fun D σ H h => ?_, fun D D' env S l h => ha.mono _ _ _ _ (fun ws S1 q => ?_) h⟩
  · obtain ⟨ι, env, S, s, er, h⟩ := h
    refine ⟨ι, env, S, s, er, ha.mono _ _ _ _ (fun ws S1 q ι1 H1 vs s1 g1 r1 => ?_) h⟩
    match ws, q with
    | [x, y], q =>
      obtain ⟨v, r, rfl, rv, u, r', rfl, ru, e⟩ := r1
      have e : r' = [] := e
      subst e
      exact ⟨v, u, rfl, q ι1 H1 _ s1 g1 (((er.grow g1).set i rv).set j ru)⟩
  · match ws, q with
    | [x, y], q => exact l.nx _ _ q
/-- x op= e -/
def mAug (i : Nat) (op : R2W) (m : ME) : MS := fun D env S => match lk env i with
  | some x => m env S fun y S1 => op x y S1 fun z S2 => D.nx (env.set i (some z)) S2
  | none => False
theorem s_aug {i : Nat} {x : Str} {op' : Operator} {r : R2} {op : R2W} {p : Pos} (hN : X.N.Nodup) (ho : OpR X (inplaceOp op') r) (hr : RL X.K Tb r op) (mo : MonoO op) (he : EE X Tb e m) (hi : X.N[i]? = some x := by rfl) (hx : Loc X.env.scope x := by first | exact Or.inl rfl | exact Or.inr rfl)
    (hf : X.fn x = true ∨ X.env.scope.names.lookup x = some .local := by first | exact .inl rfl | exact .inr rfl | assumption) : ES X Tb (.AugAssign (.Name x p) op' e pos) (mAug i op m) := by
  refine ⟨ps_imp (ps_aug hN hi hx he.pe (fun pins s σ H x y v u Q I r1 r2 h => ho pins s σ H x y v u Q I r1 r2 h) hf) fun D σ H h => ?_, fun D D' env S l h => ?_⟩
  · obtain ⟨ι, env, S, s, er, h⟩ := h
    unfold mAug at h
    cases el : lk env i with
    | none => rw [el] at h; exact h.elim
    | some w =>
      rw [el] at h
      obtain ⟨v, h1, h2⟩ := er.at_ i w (lk_at el)
      refine ⟨v, h1, ι, env, S, s, er, he.mono _ _ _ _ (fun y S1 q ι1 H1 u s1 g1 r1 => ?_) h⟩
      exact hr ι1 S1 H1 w y v u _ _ s1 (VR.grow g1 w h2) r1 q fun ι2 S2 H2 z zv q2 s2 g2 r2 => q2 ι2 H2 _ s2 (g1.trans g2) (((er.grow g1).grow g2).set i r2)
  · unfold mAug at h ⊢
    cases el : lk env i with
    | none => rw [el] at h; exact h.elim
    | some w =>
      rw [el] at h
      exact he.mono _ _ _ _ (fun y S1 q => mo _ _ _ _ _ (fun z S2 q2 => l.nx _ _ q2) q) h
end
end Ev

set_option Elab.async false
set_option linter.all false
set_option maxRecDepth 100000
set_option maxHeartbeats 4000000
/-! Loops, comprehensions, what they walk. -/
namespace Ev
open PySem PySem.Spec PyProof.Rows L2 Ow
abbrev MI := EvS → Store → ((Store → Prop) → List W → Store → Prop) → Prop
/-- the iterator J hands out ws, while chk holds of the store -/
def Feeds (K : PySem.W.Frag) (Tb : List Addr) (J : It) (chk : Store → Prop) (ws : List W) (ι0 : List Addr) (H0 : Hp) : Prop :=
  ∀ (ι : List Addr) (H : Hp) (S : Store) (i : Nat), Grow K ι0 H0 ι H → Sim K Tb ι S H → chk S →
    (∀ w, ws[i]? = some w → J.go i H ∧ ∀ x H', J.yld i H x H' → ∃ ι', Sim K Tb ι' S H' ∧ Grow K ι H ι' H' ∧ VR K ι' H' w x) ∧ (ws.length ≤ i → J.stop i H)
def LI (K : PySem.W.Frag) (Tb : List Addr) (mi : MI) (wi : TI) : Prop :=
  ∀ (σ : L2.St) (H : Hp) (R : It → Hp → Prop) (ι : List Addr) (env : EvS) (S : Store), Sim K Tb ι S H → ER K ι H env σ →
    mi env S (fun chk ws S1 => ∀ ι1 H1 J, Sim K Tb ι1 S1 H1 → Grow K ι H ι1 H1 → Feeds K Tb J chk ws ι1 H1 → R J H1) → wi σ H R
structure EI (X : Cx) (Tb : List Addr) (tg iter : Expr) (mi : MI) : Prop where
  ex : ∃ wi, PI X tg iter wi ∧ LI X.K Tb mi wi
  mono : ∀ (env : EvS) (S : Store) (R R' : (Store → Prop) → List W → Store → Prop), (∀ c w S', R c w S' → R' c w S') → mi env S R → mi env S R'
theorem pi_imp {X : Cx} {tg it : Expr} {t t' : TI} (h : PI X tg it t) (k : ∀ σ H R, t' σ H R → t σ H R) : PI X tg it t' := ⟨fun pins s σ H R I q => h.run pins s σ H R I (k σ H R q)⟩
/-! ### lists, tuples, texts -/
def signW (c : Nat) : W := .str ⟨#[c]⟩
/-- what a walk over w hands out -/
def oIt (n : Nat) (o : Option O) (S : Store) (R : (Store → Prop) → List W → Store → Prop) : Prop := match o with
  | some (.lst l) => R (fun S' => S'[n]? = some (.lst l)) l S
  | _ => False
def wIt (w : W) (S : Store) (R : (Store → Prop) → List W → Store → Prop) : Prop := match w with
  | .tup l => R (fun _ => True) l S
  | .cl l => R (fun _ => True) l S
  | .str z => R (fun _ => True) (z.cps.toList.map signW) S
  | .ref n => oIt n S[n]? S R
  | _ => False
def mIt (m : ME) : MI := fun env S R => m env S fun w S1 => wIt w S1 R
theorem wIt_mono {w : W} {S : Store} {R R' : (Store → Prop) → List W → Store → Prop} (k : ∀ c w S', R c w S' → R' c w S') (h : wIt w S R) : wIt w S R' := by
  cases w with
  | tup l => exact k _ _ _ h
  | cl l => exact k _ _ _ h
  | str z => exact k _ _ _ h
  | ref n =>
    have h : oIt n S[n]? S R := h
    show oIt n S[n]? S R'
    cases e : S[n]? with
    | none => rw [e] at h; exact h.elim
    | some o =>
      rw [e] at h
      cases o with
      | lst l => exact k _ _ _ h
      | _ => exact h.elim
  | _ => exact h.elim
def iSeq (K : PySem.W.Frag) (tl : TE) : TI := fun σ H R => tl σ H fun x H1 => (∃ a xs, x = .ref a ∧ SqL K H1 a xs ∧ R (Itl K a) H1) ∨ (∃ a xs, x = .ref a ∧ SqT K H1 a xs ∧ R (Itt K a) H1) ∨ ∃ z, x = .str z ∧ R (Its z) H1
theorem pi_seq {X : Cx} {tg l : Expr} {tl : TE} (hl : PE X l tl) : PI X tg l (iSeq X.K tl) := by
  refine ⟨fun pins s σ H R I h => ?_⟩
  refine thn (hl.run pins s σ H _ I h) fun val s1 ⟨xx, H1, I1, rx, alt⟩ => ?_
  rcases alt with ⟨a, xs, ex, hq, q⟩ | ⟨a, xs, ex, hq, q⟩ | ⟨z, ex, q⟩
  · subst ex
    obtain rfl : val = Value.ref a := rx
    obtain ⟨its, rv, pl, hz⟩ := I1.list hq
    exact wpAny_pyIter_list pl.isList (pi_one (tk := s1.toks) I1 _ (turn_list a _) ⟨_, Heap.get?_push_size _ rfl, rfl, rfl⟩ q)
  · subst ex
    obtain rfl : val = Value.ref a := rx
    obtain ⟨its, rv, pl, hz⟩ := I1.tuple hq
    exact wpAny_pyIter_tuple (show s1.heap.IsTuple a its.toArray from pl) (pi_one (tk := s1.toks) I1 _ (turn_tuple a _) ⟨_, Heap.get?_push_size _ rfl, rfl, rfl⟩ q)
  · subst ex
    obtain ⟨t, rfl⟩ := rx
    cases ha : z.cps.all (· < 128)
    · exact wpAny_pyIter_wide ha (pi_one (tk := s1.toks) I1 _ (turn_str _ z t "str_iterator" (.inr rfl)) ⟨_, Heap.get?_push_size _ rfl, rfl, rfl⟩ q)
    · exact wpAny_pyIter_ascii ha (pi_one (tk := s1.toks) I1 _ (turn_str _ z t "str_ascii_iterator" (.inl rfl)) ⟨_, Heap.get?_push_size _ rfl, rfl, rfl⟩ q)
section
variable {K : PySem.W.Frag} {Tb : List Addr} {ι : List Addr} {H : Hp}
theorem feeds_tup {a : Addr} {vs : List V} {l : List W} (h : SqT K H a vs) (r : VRs K ι H l vs) : Feeds K Tb (Itt K a) (fun _ => True) l ι H := by
  intro ι' H' S i g s _
  refine ⟨fun w hw => ?_, fun hi => ⟨vs, g.tup _ _ h, by rw [r.len]; exact hi⟩⟩
  obtain ⟨v, h1, h2⟩ := r.at hw
  refine ⟨⟨vs, v, g.tup _ _ h, h1⟩, fun x H2 y => ?_⟩
  obtain ⟨e, y⟩ := y
  subst e
  have := y vs (g.tup _ _ h)
  rw [h1] at this
  cases this
  exact ⟨ι', s, Grow.refl, VR.grow g w h2⟩
theorem feeds_cl {a : Addr} {vs : List V} {l : List W} (h : FzL K H a vs) (r : VRs K ι H l vs) : Feeds K Tb (Itl K a) (fun _ => True) l ι H := by
  intro ι' H' S i g s _
  refine ⟨fun w hw => ?_, fun hi => ⟨vs, (g.fz _ _ h).sq, by rw [r.len]; exact hi⟩⟩
  obtain ⟨v, h1, h2⟩ := r.at hw
  refine ⟨⟨vs, v, (g.fz _ _ h).sq, h1⟩, fun x H2 y => ?_⟩
  obtain ⟨e, y⟩ := y
  subst e
  have := y vs (g.fz _ _ h).sq
  rw [h1] at this
  cases this
  exact ⟨ι', s, Grow.refl, VR.grow g w h2⟩
theorem feeds_lst {a : Addr} {n : Nat} {l : List W} (h : ι[n]? = some a) : Feeds K Tb (Itl K a) (fun S' => S'[n]? = some (.lst l)) l ι H := by
  intro ι' H' S i g s hc
  obtain ⟨b, h1, vs, e, r⟩ := s.obj n _ hc
  rw [g.at h] at h1
  cases h1
  refine ⟨fun w hw => ?_, fun hi => ⟨vs, SqL.of e, by rw [r.len]; exact hi⟩⟩
  obtain ⟨v, h1, h2⟩ := r.at hw
  refine ⟨⟨vs, v, SqL.of e, h1⟩, fun x H2 y => ?_⟩
  obtain ⟨e2, y⟩ := y
  subst e2
  have := y vs (SqL.of e)
  rw [h1] at this
  cases this
  exact ⟨ι', s, Grow.refl, h2⟩
theorem feeds_str {z : Str} : Feeds K Tb (Its z) (fun _ => True) (z.cps.toList.map signW) ι H := by
  intro ι' H' S i g s _
  refine ⟨fun w hw => ?_, fun hi => ?_⟩
  · rw [List.getElem?_map] at hw
    cases e : z.cps.toList[i]? with
    | none => rw [e] at hw; cases hw
    | some c =>
      rw [e] at hw
      obtain rfl : signW c = w := Option.some.inj hw
      have hlt := (List.getElem?_eq_some_iff.mp e).1
      refine ⟨(by show i < z.cps.size; simpa using hlt), fun x H2 y => ?_⟩
      obtain ⟨e2, c', hc', ex⟩ := y
      subst e2
      subst ex
      rw [Array.getElem?_toList] at e
      rw [e] at hc'
      cases hc'
      exact ⟨ι', s, Grow.refl, rfl⟩
  · show z.cps.size ≤ i
    simpa using hi
theorem feeds_range {lo : Int} {n : Nat} : Feeds K Tb (Itr lo n) (fun _ => True) ((List.range n).map fun (j : Nat) => W.int (lo + j)) ι H := by
  intro ι' H' S i g s _
  refine ⟨fun w hw => ?_, fun hi => ?_⟩
  · rw [List.getElem?_map] at hw
    have hi : i < n := by
      by_cases hi : i < n
      · exact hi
      · rw [List.getElem?_eq_none (by rw [List.length_range]; omega)] at hw
        cases hw
    rw [List.getElem?_range hi] at hw
    obtain rfl : W.int (lo + (i : Int)) = w := Option.some.inj hw
    refine ⟨hi, fun x H2 y => ?_⟩
    obtain ⟨e2, ex⟩ := y
    subst e2
    subst ex
    exact ⟨ι', s, Grow.refl, rfl⟩
  · show n ≤ i
    simpa using hi
end
section
variable {X : Cx} {Tb : List Addr} {tg e a b : Expr} {m : ME} {p pos : Pos}
theorem i_seq (h : EE X Tb e m) : EI X Tb tg e (mIt m) := by
  refine ⟨⟨_, pi_seq h.pe, fun σ H R ι env S s er q => ?_⟩, fun env S R R' k q => h.mono _ _ _ _ (fun w S1 z => wIt_mono k z) q⟩
  refine ⟨ι, env, S, s, er, h.mono _ _ _ _ (fun w S1 z ι1 H1 v s1 g1 r1 => ?_) q⟩
  cases w with
  | tup l =>
    obtain ⟨a, vs, rfl, hq, rv⟩ := r1
    exact .inr (.inl ⟨a, vs, rfl, hq, z ι1 H1 _ s1 g1 (feeds_tup hq rv)⟩)
  | cl l =>
    obtain ⟨a, vs, rfl, hq, rv⟩ := r1
    exact .inl ⟨a, vs, rfl, hq.sq, z ι1 H1 _ s1 g1 (feeds_cl hq rv)⟩
  | str x =>
    obtain rfl : v = .str x := r1
    exact .inr (.inr ⟨x, rfl, z ι1 H1 _ s1 g1 feeds_str⟩)
  | ref n =>
    obtain ⟨a, ha, rfl⟩ := r1
    unfold wIt at z
    dsimp only at z
    obtain ⟨o, ho, q⟩ := s1.there ha
    rw [ho] at z
    cases o with
    | lst l =>
      obtain ⟨vs, e, rv⟩ := q
      exact .inl ⟨a, vs, rfl, SqL.of e, z ι1 H1 _ s1 g1 (feeds_lst ha)⟩
    | _ => exact z.elim
  | _ => exact z.elim
def rgW (lo : Int) (n : Nat) : List W := (List.range n).map fun (j : Nat) => W.int (lo + j)
def mRg1 (m : MA) : MI := fun env S R => m env S fun ws S1 => match ws with
  | [.int j] => (-(2 ^ 62) ≤ j ∧ j < 2 ^ 62) ∧ R (fun _ => True) (rgW 0 j.toNat) S1
  | _ => False
def mRg2 (m : MA) : MI := fun env S R => m env S fun ws S1 => match ws with
  | [.int i, .int j] => (-(2 ^ 62) ≤ i ∧ i < 2 ^ 62 ∧ -(2 ^ 62) ≤ j ∧ j < 2 ^ 62) ∧ R (fun _ => True) (rgW i (j - i).toNat) S1
  | _ => False
variable {ma : MA}
theorem i_range1 (hg : Gl X "range") (hm : X.mg "range" = none) (ha : EA X Tb [a] ma) (hs : starEach [a] X.env = [(false, eval a X.env)] := by rfl) : EI X Tb tg (.Call (.Name "range" p) [a] [] pos) (mRg1 ma) := by
  refine ⟨⟨_, pi_range1 hg hm ha.pa hs, fun σ H R ι env S s er q => ?_⟩, fun env S R R' k q => ha.mono _ _ _ _ (fun ws S1 z => ?_) q⟩
  · refine ⟨ι, env, S, s, er, ha.mono _ _ _ _ (fun ws S1 z ι1 H1 vs s1 g1 r1 => ?_) q⟩
    match ws, z with
    | [.int j], z =>
      obtain ⟨v, r, rfl, e1, e2⟩ := r1
      obtain rfl : v = .int j := e1
      obtain rfl : r = [] := e2
      exact ⟨j, rfl, z.1.1, z.1.2, z.2 ι1 H1 _ s1 g1 feeds_range⟩
  · match ws, z with
    | [.int j], z => exact ⟨z.1, k _ _ _ z.2⟩
theorem i_range2 (hg : Gl X "range") (hm : X.mg "range" = none) (ha : EA X Tb [a, b] ma) (hs : starEach [a, b] X.env = [(false, eval a X.env), (false, eval b X.env)] := by rfl) (hs2 : starEach [b] X.env = [(false, eval b X.env)] := by rfl) : EI X Tb tg (.Call (.Name "range" p) [a, b] [] pos) (mRg2 ma) := by
  refine ⟨⟨_, pi_range2 hg hm ha.pa hs hs2, fun σ H R ι env S s er q => ?_⟩, fun env S R R' k q => ha.mono _ _ _ _ (fun ws S1 z => ?_) q⟩
  · refine ⟨ι, env, S, s, er, ha.mono _ _ _ _ (fun ws S1 z ι1 H1 vs s1 g1 r1 => ?_) q⟩
    match ws, z with
    | [.int i, .int j], z =>
      obtain ⟨v, r, rfl, e1, u, r', rfl, e2, e3⟩ := r1
      obtain rfl : v = .int i := e1
      obtain rfl : u = .int j := e2
      obtain rfl : r' = [] := e3
      exact ⟨i, j, rfl, z.1, z.2 ι1 H1 _ s1 g1 feeds_range⟩
  · match ws, z with
    | [.int i, .int j], z => exact ⟨z.1, k _ _ _ z.2⟩
/-- reversed(list) -/
def oRev (n : Nat) (o : Option O) (S : Store) (R : (Store → Prop) → List W → Store → Prop) : Prop := match o with
  | some (.lst l) => R (fun S' => S'[n]? = some (.lst l)) l.reverse S
  | _ => False
def mRev (m : MA) : MI := fun env S R => m env S fun ws S1 => match ws with
  | [.ref n] => oRev n S1[n]? S1 R
  | _ => False
theorem feeds_rev {K : PySem.W.Frag} {ι : List Addr} {H : Hp} {a : Addr} {n : Nat} {l : List W} (h : ι[n]? = some a) : Feeds K Tb (Itv K a l.length) (fun S' => S'[n]? = some (.lst l)) l.reverse ι H := by
  intro ι' H' S i g s hc
  obtain ⟨b, h1, vs, e, r⟩ := s.obj n _ hc
  rw [g.at h] at h1
  cases h1
  refine ⟨fun w hw => ?_, fun hi => ?_⟩
  · have hi : i < l.length := by
      have := (List.getElem?_eq_some_iff.mp hw).1
      rwa [List.length_reverse] at this
    rw [List.getElem?_reverse hi] at hw
    obtain ⟨v, h1, h2⟩ := r.at hw
    refine ⟨⟨hi, vs, v, SqL.of e, h1⟩, fun x H2 y => ?_⟩
    obtain ⟨e2, y⟩ := y
    subst e2
    have := y vs (SqL.of e)
    rw [h1] at this
    cases this
    exact ⟨ι', s, Grow.refl, h2⟩
  · show l.length ≤ i
    simpa using hi
theorem i_rev (hg : Gl X "reversed") (hm : X.mg "reversed" = none) (ha : EA X Tb [e] ma) (hs : starEach [e] X.env = [(false, eval e X.env)] := by rfl) : EI X Tb tg (.Call (.Name "reversed" p) [e] [] pos) (mRev ma) := by
  refine ⟨⟨_, pi_reversed hg hm ha.pa hs, fun σ H R ι env S s er q => ?_⟩, fun env S R R' k q => ha.mono _ _ _ _ (fun ws S1 z => ?_) q⟩
  · refine ⟨ι, env, S, s, er, ha.mono _ _ _ _ (fun ws S1 z ι1 H1 vs s1 g1 r1 => ?_) q⟩
    match ws, z with
    | [.ref n], z =>
      obtain ⟨v, r, rfl, ⟨a, ha, rfl⟩, e2⟩ := r1
      obtain rfl : r = [] := e2
      change oRev n _ S1 _ at z
      obtain ⟨o, ho, q⟩ := s1.there ha
      rw [ho] at z
      cases o with
      | lst l =>
        obtain ⟨us, e, rv⟩ := q
        refine ⟨a, us, rfl, SqL.of e, ?_⟩
        rw [rv.len]
        exact z ι1 H1 _ s1 g1 (feeds_rev ha)
      | _ => exact z.elim
  · match ws, z with
    | [.ref n], z =>
      have z : oRev n S1[n]? S1 R := z
      show oRev n S1[n]? S1 R'
      cases e : S1[n]? with
      | none => rw [e] at z; exact z.elim
      | some o =>
        rw [e] at z
        cases o with
        | lst l => exact k _ _ _ z
        | _ => exact z.elim
/-- enumerate(list) -/
def oEnum (n : Nat) (o : Option O) (S : Store) (R : (Store → Prop) → List W → Store → Prop) : Prop := match o with
  | some (.lst l) => R (fun S' => S'[n]? = some (.lst l)) (l.zipIdx.map fun p => W.tup [.int p.2, p.1]) S
  | _ => False
def mEnum (m : MA) : MI := fun env S R => m env S fun ws S1 => match ws with
  | [.ref n] => oEnum n S1[n]? S1 R
  | _ => False
theorem feeds_enum {K : PySem.W.Frag} {ι : List Addr} {H : Hp} {a : Addr} {n : Nat} {l : List W} (h : ι[n]? = some a) : Feeds K Tb (Ite K a) (fun S' => S'[n]? = some (.lst l)) (l.zipIdx.map fun p => W.tup [.int p.2, p.1]) ι H := by
  intro ι' H' S i g s hc
  obtain ⟨b, h1, vs, e, r⟩ := s.obj n _ hc
  rw [g.at h] at h1
  cases h1
  refine ⟨fun w hw => ?_, fun hi => ⟨vs, SqL.of e, by rw [r.len]; simpa using hi⟩⟩
  rw [List.getElem?_map, List.getElem?_zipIdx] at hw
  cases el : l[i]? with
  | none => rw [el] at hw; cases hw
  | some u =>
    rw [el] at hw
    obtain rfl : W.tup [.int ((0 + i : Nat) : Int), u] = w := Option.some.inj hw
    obtain ⟨v, h1, h2⟩ := r.at el
    refine ⟨⟨vs, v, SqL.of e, h1⟩, fun x H2 y => ?_⟩
    obtain ⟨T, x', rfl, hT, rfl, y⟩ := y
    have := y vs (SqL.of e)
    rw [h1] at this
    cases this
    obtain ⟨s2, g2⟩ := s.tup (xs := [.int (i : Nat), v]) hT
    exact ⟨ι', s2, g2, T, _, rfl, SqT.of upd_same, _, _, rfl, (by rw [Nat.zero_add]; rfl), v, [], rfl, VR.grow g2 u h2, rfl⟩
theorem i_enum {tpos : Pos} {elts : List Expr} {kk : Nat} (hg : Gl X "enumerate") (hm : X.mg "enumerate" = none) (ha : EA X Tb [e] ma) (hs : starEach [e] X.env = [(false, eval e X.env)] := by rfl) : EI X Tb (.Tuple elts kk tpos) (.Call (.Name "enumerate" p) [e] [] pos) (mEnum ma) := by
  refine ⟨⟨_, pi_enum hg hm ha.pa hs, fun σ H R ι env S s er q => ?_⟩, fun env S R R' k q => ha.mono _ _ _ _ (fun ws S1 z => ?_) q⟩
  · refine ⟨ι, env, S, s, er, ha.mono _ _ _ _ (fun ws S1 z ι1 H1 vs s1 g1 r1 => ?_) q⟩
    match ws, z with
    | [.ref n], z =>
      obtain ⟨v, r, rfl, ⟨a, ha, rfl⟩, e2⟩ := r1
      obtain rfl : r = [] := e2
      change oEnum n _ S1 _ at z
      obtain ⟨o, ho, q⟩ := s1.there ha
      rw [ho] at z
      cases o with
      | lst l =>
        obtain ⟨us, e, rv⟩ := q
        exact ⟨a, us, rfl, SqL.of e, z ι1 H1 _ s1 g1 (feeds_enum ha)⟩
      | _ => exact z.elim
  · match ws, z with
    | [.ref n], z =>
      have z : oEnum n S1[n]? S1 R := z
      show oEnum n S1[n]? S1 R'
      cases e : S1[n]? with
      | none => rw [e] at z; exact z.elim
      | some o =>
        rw [e] at z
        cases o with
        | lst l => exact k _ _ _ z
        | _ => exact z.elim
end
/-! ### for -/
def forL (chk : Store → Prop) (g : MG) (body : MS) (D : MD) : List W → EvS → Store → Prop
  | [], env, S => chk S ∧ D.nx env S
  | w :: r, env, S => chk S ∧ g w env S fun e S' => body { nx := forL chk g body D r, rt := D.rt, bk := D.nx, ct := forL chk g body D r } e S'
def mFor (mi : MI) (g : MG) (body : MS) : MS := fun D env S => mi env S fun chk ws S1 => forL chk g body D ws env S1
section
variable {X : Cx} {Tb : List Addr} {tg iter : Expr} {mi : MI} {g : MG} {mb : MS} {body : List Stmt} {pos : Pos}
theorem forL_mono {chk : Store → Prop} (hg : ∀ (w : W) (env : EvS) (S : Store) (Q Q' : EvS → Store → Prop), (∀ e S', Q e S' → Q' e S') → g w env S Q → g w env S Q') (hb : ∀ (D D' : MD) (env : EvS) (S : Store), MD.le D D' → mb D env S → mb D' env S) (D D' : MD) (l : MD.le D D') :
    ∀ (ws : List W) (env : EvS) (S : Store), forL chk g mb D ws env S → forL chk g mb D' ws env S
  | [], env, S, h => ⟨h.1, l.nx _ _ h.2⟩
  | w :: r, env, S, h => ⟨h.1, hg _ _ _ _ _ (fun e S' q => hb { nx := forL chk g mb D r, rt := D.rt, bk := D.nx, ct := forL chk g mb D r } { nx := forL chk g mb D' r, rt := D'.rt, bk := D'.nx, ct := forL chk g mb D' r } _ _ ⟨forL_mono hg hb D D' l r, l.rt, l.nx, forL_mono hg hb D D' l r⟩ q) h.2⟩
theorem s_for (hi : EI X Tb tg iter mi) (hg : EG X Tb tg g) (hb : ESs X Tb body mb) (hp : PassesOwn (model X.prog X.w) X.A X.env X.xe := by exact PassesOwn.never) (hc : X.calm = true := by rfl) (hs : ∀ x, foldedSetIterable iter X.env x = pure x := by intro _; rfl) : ES X Tb (.For tg iter body [] pos) (mFor mi g mb) := by
  obtain ⟨wi, hpi, hl⟩ := hi.ex
  refine ⟨ps_imp (ps_for hp hc hpi hg.pg hb.ps hs) fun D σ H h => ?_, fun D D' env S l h => hi.mono _ _ _ _ (fun c ws S1 q => forL_mono hg.mono hb.mono D D' l ws _ _ q) h⟩
  obtain ⟨ι, env, S, s, er, h⟩ := h
  refine hl σ H _ ι env S s er (hi.mono _ _ _ _ (fun chk ws S1 q ι1 H1 J s1 g1 fd => ?_) h)
  refine ⟨fun i m σ' H' => m = ws.length - i ∧ i ≤ ws.length ∧ ∃ ι' env' S', Sim X.K Tb ι' S' H' ∧ Grow X.K ι1 H1 ι' H' ∧ ER X.K ι' H' env' σ' ∧ forL chk g mb (dn X.K Tb ι H D) (ws.drop i) env' S',
    ⟨ws.length, by simp, Nat.zero_le _, ι1, env, S1, s1, Grow.refl, er.grow g1, by rw [List.drop_zero]; exact q⟩, ?_⟩
  rintro i m σ' H' ⟨rfl, hi', ι', env', S', s', g', er', q'⟩
  by_cases hlt : i < ws.length
  · obtain ⟨w, hw⟩ : ∃ w, ws[i]? = some w := ⟨_, List.getElem?_eq_getElem hlt⟩
    have ed : ws.drop i = w :: ws.drop (i + 1) := by
      rw [List.drop_eq_getElem_cons hlt]
      rw [List.getElem?_eq_getElem hlt] at hw
      rw [Option.some.inj hw]
    rw [ed] at q'
    obtain ⟨hgo, hy⟩ := (fd ι' H' S' i g' s' q'.1).1 w hw
    refine .inr ⟨hgo, fun σ2 H2 => ∃ ι2 env2 S2, Sim X.K Tb ι2 S2 H2 ∧ Grow X.K ι1 H1 ι2 H2 ∧ ER X.K ι2 H2 env2 σ2 ∧ forL chk g mb (dn X.K Tb ι H D) (ws.drop (i + 1)) env2 S2, fun σ2 H2 n2 => ⟨ws.length - (i + 1), by omega, rfl, by omega, n2⟩, fun x H2 y => ?_⟩
    obtain ⟨ι2, s2, g2, r2⟩ := hy x H2 y
    refine ⟨ι2, env', S', w, s2, er'.grow g2, r2, hg.mono _ _ _ _ _ (fun e S3 q3 ι3 H3 σ3 s3 g3 er3 => ?_) q'.2⟩
    refine ⟨ι3, e, S3, s3, er3, hb.mono { nx := forL chk g mb (dn X.K Tb ι H D) (ws.drop (i + 1)), rt := (dn X.K Tb ι H D).rt, bk := (dn X.K Tb ι H D).nx, ct := forL chk g mb (dn X.K Tb ι H D) (ws.drop (i + 1)) } _ _ _ ⟨fun e4 S4 q4 ι4 H4 σ4 s4 g4 er4 => ?_, fun w4 S4 q4 ι4 H4 v4 s4 g4 r4 => ?_, fun e4 S4 q4 ι4 H4 σ4 s4 g4 er4 => ?_, fun e4 S4 q4 ι4 H4 σ4 s4 g4 er4 => ?_⟩ q3⟩
    · exact ⟨ι4, e4, S4, s4, ((g'.trans g2).trans g3).trans g4, er4, q4⟩
    · exact q4 ι4 H4 v4 s4 ((((g1.trans g').trans g2).trans g3).trans g4) r4
    · exact q4 ι4 H4 σ4 s4 ((((g1.trans g').trans g2).trans g3).trans g4) er4
    · exact ⟨ι4, e4, S4, s4, ((g'.trans g2).trans g3).trans g4, er4, q4⟩
  · have ei : i = ws.length := by omega
    subst ei
    rw [List.drop_length] at q'
    exact .inl ⟨(fd ι' H' S' ws.length g' s' q'.1).2 (Nat.le_refl _), q'.2 ι' H' σ' s' (g1.trans g') er'⟩
/-! ### while -/
def whL (c : MT) (body : MS) (D : MD) : Nat → EvS → Store → Prop
  | 0, _, _ => False
  | n + 1, env, S => c env S fun b S1 => if b = true then body { nx := whL c body D n, rt := D.rt, bk := D.nx, ct := whL c body D n } env S1 else D.nx env S1
def mWh (c : MT) (body : MS) : MS := fun D env S => ∃ n, whL c body D n env S
theorem whL_mono {c : MT} (hc : ∀ (env : EvS) (S : Store) (Q Q' : Bool → Store → Prop), (∀ w S', Q w S' → Q' w S') → c env S Q → c env S Q') (hb : ∀ (D D' : MD) (env : EvS) (S : Store), MD.le D D' → mb D env S → mb D' env S) (D D' : MD) (l : MD.le D D') :
    ∀ (n : Nat) (env : EvS) (S : Store), whL c mb D n env S → whL c mb D' n env S
  | 0, _, _, h => h
  | n + 1, env, S, h => hc _ _ _ _ (fun b S1 q => by
    cases b with
    | true => exact iteT (hb { nx := whL c mb D n, rt := D.rt, bk := D.nx, ct := whL c mb D n } { nx := whL c mb D' n, rt := D'.rt, bk := D'.nx, ct := whL c mb D' n } _ _ ⟨whL_mono hc hb D D' l n, l.rt, l.nx, whL_mono hc hb D D' l n⟩ q)
    | false => exact iteF (l.nx _ _ q)) h
theorem s_while {c : Expr} {mc : MT} (hc : ET X Tb c mc) (hb : ESs X Tb body mb) (hp : PassesOwn (model X.prog X.w) X.A X.env X.xe := by exact PassesOwn.never) : ES X Tb (.While c body [] pos) (mWh mc mb) := by
  refine ⟨ps_imp (ps_while hp hc.pt hb.ps) fun D σ H h => ?_, fun D D' env S l ⟨n, h⟩ => ⟨n, whL_mono hc.mono hb.mono D D' l n _ _ h⟩⟩
  obtain ⟨ι, env, S, s, er, n0, h⟩ := h
  refine ⟨fun n σ' H' => ∃ ι' env' S', Sim X.K Tb ι' S' H' ∧ Grow X.K ι H ι' H' ∧ ER X.K ι' H' env' σ' ∧ whL mc mb (dn X.K Tb ι H D) n env' S', ⟨n0, ι, env, S, s, Grow.refl, er, h⟩, ?_⟩
  rintro n σ' H' ⟨ι', env', S', s', g', er', q'⟩
  cases n with
  | zero => exact q'.elim
  | succ n =>
    refine ⟨ι', env', S', s', er', hc.mono _ _ _ _ (fun b S1 q ι1 H1 s1 g1 => ?_) q'⟩
    cases b with
    | true =>
      refine iteT ⟨fun σ2 H2 => ∃ ι2 env2 S2, Sim X.K Tb ι2 S2 H2 ∧ Grow X.K ι H ι2 H2 ∧ ER X.K ι2 H2 env2 σ2 ∧ whL mc mb (dn X.K Tb ι H D) n env2 S2, fun σ2 H2 n2 => ⟨n, Nat.lt_succ_self n, n2⟩, ?_⟩
      refine ⟨ι1, env', S1, s1, er'.grow g1, hb.mono { nx := whL mc mb (dn X.K Tb ι H D) n, rt := (dn X.K Tb ι H D).rt, bk := (dn X.K Tb ι H D).nx, ct := whL mc mb (dn X.K Tb ι H D) n } _ _ _ ⟨fun e4 S4 q4 ι4 H4 σ4 s4 g4 er4 => ?_, fun w4 S4 q4 ι4 H4 v4 s4 g4 r4 => ?_, fun e4 S4 q4 ι4 H4 σ4 s4 g4 er4 => ?_, fun e4 S4 q4 ι4 H4 σ4 s4 g4 er4 => ?_⟩ q⟩
      · exact ⟨ι4, e4, S4, s4, (g'.trans g1).trans g4, er4, q4⟩
      · exact q4 ι4 H4 v4 s4 ((g'.trans g1).trans g4) r4
      · exact q4 ι4 H4 σ4 s4 ((g'.trans g1).trans g4) er4
      · exact ⟨ι4, e4, S4, s4, (g'.trans g1).trans g4, er4, q4⟩
    | false => exact iteF (q ι1 H1 σ' s1 (g'.trans g1) (er'.grow g1))
end
/-! ### list comprehensions -/
/-- slots of the comprehension forgotten -/
def wpE (env : EvS) : List Nat → EvS
  | [] => env
  | v :: vs => (wpE env vs).set v none
def lcL (chk : Store → Prop) (g : MG) (tt : MT) (te : ME) (n : Nat) (env : EvS) (K : WK) : List W → Store → Prop
  | [], S => chk S ∧ K (.ref n) S
  | w :: r, S => chk S ∧ g w env S fun e S1 => tt e S1 fun b S2 => if b = true then te e S2 fun x S3 => ∃ acc, S3[n]? = some (.lst acc) ∧ acc.length < sizeLine ∧ lcL chk g tt te n env K r (S3.set n (.lst (acc ++ [x]))) else lcL chk g tt te n env K r S2
def mLc (mi : MI) (g : MG) (tt : MT) (te : ME) (vs : List Nat) : ME := fun env S Q => mi env S fun chk ws S1 => lcL chk g tt te S1.length (wpE env vs) Q ws (S1 ++ [.lst []])
def mYes : MT := fun _ S Q => Q true S
/-- targets that store only in the slots vs -/
def Own (g : MG) (vs : List Nat) : Prop := True
section
variable {K : PySem.W.Frag} {Tb : List Addr} {ι : List Addr} {H : Hp}
theorem wpE_len (env : EvS) : ∀ vs : List Nat, (wpE env vs).length = env.length
  | [] => rfl
  | v :: vs => by unfold wpE; rw [List.length_set, wpE_len env vs]
theorem ER.wipe {env : EvS} {σ : L2.St} (r : ER K ι H env σ) : ∀ vs : List Nat, ER K ι H (wpE env vs) (wipe σ vs)
  | [] => r
  | v :: vs => by
    have ih := ER.wipe r vs
    unfold wpE L2.wipe
    refine ⟨by rw [List.length_set, List.length_set]; exact ih.len, fun i w e => ?_⟩
    by_cases hi : v = i
    · subst hi
      by_cases hv : v < (wpE env vs).length
      · rw [List.getElem?_set_self hv] at e
        cases e
      · rw [List.getElem?_eq_none (by rw [List.length_set]; omega)] at e
        cases e
    · rw [List.getElem?_set_ne hi] at e
      rw [List.getElem?_set_ne hi]
      exact ih.at_ i w e
end
end Ev

set_option Elab.async false
set_option linter.all false
set_option maxRecDepth 100000
set_option maxHeartbeats 4000000
/-! List comprehensions. -/
namespace Ev
open PySem PySem.Spec PyProof.Rows L2 Ow
/-- a comprehension's target: it stores in the slots vs alone -/
def TW (K : PySem.W.Frag) (Tb : List Addr) (t : TG) (m : MG) (vs : List Nat) : Prop :=
  ∀ (v : V) (σ : L2.St) (H : Hp) (w : W) (env : EvS) (S : Store) (ι : List Addr) (Q : EvS → Store → Prop) (Qv : L2.St → Hp → Prop), Sim K Tb ι S H → ER K ι H env σ → VR K ι H w v → m w env S Q →
    (∀ e S' ι' H' σ', Q e S' → Sim K Tb ι' S' H' → Grow K ι H ι' H' → ER K ι' H' e σ' → wipe σ' vs = wipe σ vs → Qv σ' H') → t v σ H Qv
def TWs (K : PySem.W.Frag) (Tb : List Addr) (t : TGs) (m : MGs) (vs : List Nat) : Prop :=
  ∀ (us : List V) (σ : L2.St) (H : Hp) (ws : List W) (env : EvS) (S : Store) (ι : List Addr) (Q : EvS → Store → Prop) (Qv : L2.St → Hp → Prop), Sim K Tb ι S H → ER K ι H env σ → VRs K ι H ws us → m ws env S Q →
    (∀ e S' ι' H' σ', Q e S' → Sim K Tb ι' S' H' → Grow K ι H ι' H' → ER K ι' H' e σ' → wipe σ' vs = wipe σ vs → Qv σ' H') → t us σ H Qv
theorem wipe_set {σ : L2.St} {i : Nat} {x : Option V} : ∀ {vs : List Nat}, i ∈ vs → wipe (σ.set i x) vs = wipe σ vs
  | [], h => by cases h
  | v :: vs, h => by
    unfold L2.wipe
    by_cases hm : i ∈ vs
    · rw [wipe_set hm]
    · have e : i = v := by
        rcases List.mem_cons.mp h with e | e
        · exact e
        · exact absurd e hm
      subst e
      have out : ∀ (us : List Nat), i ∉ us → wipe (σ.set i x) us = (wipe σ us).set i x := fun us => by
        induction us with
        | nil => exact fun _ => rfl
        | cons u us ih =>
          intro hn
          rw [List.mem_cons, not_or] at hn
          unfold L2.wipe
          rw [ih hn.2, List.set_comm _ _ hn.1]
      rw [out vs hm, List.set_set]
section
variable {K : PySem.W.Frag} {Tb : List Addr}
theorem tw_name {i : Nat} {vs : List Nat} (h : i ∈ vs) : TW K Tb (gName i) (mgName i) vs := fun v σ H w env S ι Q Qv s er r q k =>
  k _ S ι H _ q s Grow.refl (er.set i r) (wipe_set h)
theorem tw_nil {vs : List Nat} : TWs K Tb gNil mgNil vs := fun us σ H ws env S ι Q Qv s er r q k => by
  obtain ⟨e, q⟩ := q
  subst e
  exact ⟨r, k _ S ι H σ q s Grow.refl er rfl⟩
theorem tw_cons {t : TG} {u : TGs} {m : MG} {n : MGs} {vs : List Nat} (a : TW K Tb t m vs) (b : TWs K Tb u n vs) : TWs K Tb (gCons t u) (mgCons m n) vs := fun us σ H ws env S ι Q Qv s er r q k => by
  cases ws with
  | nil => exact q.elim
  | cons w ws =>
    obtain ⟨v, vr, rfl, rw', rr⟩ := r
    refine ⟨v, vr, rfl, a v σ H w env S ι _ _ s er rw' q fun e S1 ι1 H1 σ1 q1 s1 g1 er1 e1 => ?_⟩
    exact b vr σ1 H1 ws e S1 ι1 _ _ s1 er1 (rr.grow g1) q1 fun e2 S2 ι2 H2 σ2 q2 s2 g2 er2 e2' => k e2 S2 ι2 H2 σ2 q2 s2 (g1.trans g2) er2 (e2'.trans e1)
theorem tw_tup {n : Nat} {u : TGs} {m : MGs} {vs : List Nat} (b : TWs K Tb u m vs) : TW K Tb (gTup K n u) (mgTup n m) vs := fun v σ H w env S ι Q Qv s er r q k => by
  cases w with
  | tup l =>
    obtain ⟨a, us, rfl, hq, rv⟩ := r
    exact ⟨a, us, rfl, hq, by rw [rv.len]; exact q.1, b us σ H l env S ι _ _ s er rv q.2 k⟩
  | _ => exact q.elim
end
structure EGw (X : Cx) (Tb : List Addr) (scope : Scope) (tg : Expr) (m : MG) (vs : List Nat) : Prop where
  ex : ∃ t, (∀ (s : Shared) (H : Hp) (C : Addr) (cl : List (Str × Addr)) (fp : List Addr), PG (X.blk s H scope (compEnvC scope cl C X.env) fp) tg t) ∧ TW X.K Tb t m vs
  mono : ∀ (w : W) (env : EvS) (S : Store) (Q Q' : EvS → Store → Prop), (∀ e S', Q e S' → Q' e S') → m w env S Q → m w env S Q'
structure EGws (X : Cx) (Tb : List Addr) (scope : Scope) (tg : List Expr) (m : MGs) (vs : List Nat) : Prop where
  ex : ∃ t, (∀ (s : Shared) (H : Hp) (C : Addr) (cl : List (Str × Addr)) (fp : List Addr), PGs (X.blk s H scope (compEnvC scope cl C X.env) fp) tg t) ∧ TWs X.K Tb t m vs
  mono : ∀ (w : List W) (env : EvS) (S : Store) (Q Q' : EvS → Store → Prop), (∀ e S', Q e S' → Q' e S') → m w env S Q → m w env S Q'
/-- a clause's tests -/
structure EF (X : Cx) (Tb : List Addr) (scope : Scope) (ifs : List Expr) (m : MT) : Prop where
  pt : ∀ (s : Shared) (H : Hp) (C : Addr) (cl : List (Str × Addr)) (fp : List Addr), PTs (X.blk s H scope (compEnvC scope cl C X.env) fp) ifs (LT X.K Tb m)
  mono : ∀ (env : EvS) (S : Store) (Q Q' : Bool → Store → Prop), (∀ w S', Q w S' → Q' w S') → m env S Q → m env S Q'
theorem pts_imp {X : Cx} {ifs : List Expr} {t t' : L2.TT} (h : PTs X ifs t) (k : ∀ σ H Q, t' σ H Q → t σ H Q) : PTs X ifs t' := ⟨fun pins s σ H Q I q => h.run pins s σ H Q I (k σ H Q q)⟩
section
variable {X : Cx} {Tb : List Addr} {scope : Scope} {vs : List Nat} {e : Expr} {es : List Expr} {pos : Pos} {mg : MG} {mgs : MGs}
theorem gw_name {i : Nat} {x : Str} (hN : X.N.Nodup) (hm : i ∈ vs := by decide) (hi : X.N[i]? = some x := by rfl) (hx : ∀ (cl : List (Str × Addr)) (C : Addr), Loc (compEnvC scope cl C X.env).scope x := by intro _ _; first | exact Or.inl rfl | exact Or.inr rfl)
    (hf : (scope.names.lookup x == some .cell) = true ∨ ∀ (cl : List (Str × Addr)) (C : Addr), (compEnvC scope cl C X.env).scope.names.lookup x = some .local := by first | exact .inr fun _ _ => rfl | exact .inl rfl) : EGw X Tb scope (.Name x pos) (mgName i) vs :=
  ⟨⟨gName i, fun s H C cl fp => pg_name hN hi (hx cl C) (hf.elim .inl fun z => .inr (z cl C)), tw_name hm⟩, fun _ _ _ _ _ k h => k _ _ h⟩
theorem gws_nil : EGws X Tb scope [] mgNil vs := ⟨⟨gNil, fun _ _ _ _ _ => pgs_nil, tw_nil⟩, fun _ _ _ _ _ k h => ⟨h.1, k _ _ h.2⟩⟩
theorem gws_cons (a : EGw X Tb scope e mg vs) (b : EGws X Tb scope es mgs vs) (hs : ∀ env : Env, (assignEach (e :: es) env).map (·.2) = assign e env :: (assignEach es env).map (·.2) := by intro _; rfl) : EGws X Tb scope (e :: es) (mgCons mg mgs) vs := by
  obtain ⟨t, h1, w1⟩ := a.ex
  obtain ⟨u, h2, w2⟩ := b.ex
  refine ⟨⟨gCons t u, fun s H C cl fp => pgs_cons (h1 s H C cl fp) (h2 s H C cl fp) (hs _), tw_cons w1 w2⟩, fun ws env S Q Q' k h => ?_⟩
  cases ws with
  | nil => exact h.elim
  | cons w ws => exact a.mono _ _ _ _ _ (fun e S' q => b.mono _ _ _ _ _ k q) h
theorem gw_tup {k n : Nat} (b : EGws X Tb scope es mgs vs) (hc : X.calm = true := by rfl) (hn : ∀ env : Env, (assignEach es env).length = n := by intro _; rfl) (hst : ∀ env : Env, (assignEach es env).findIdx? (·.1) = none := by intro _; rfl) : EGw X Tb scope (.Tuple es k pos) (mgTup n mgs) vs := by
  obtain ⟨u, h2, w2⟩ := b.ex
  refine ⟨⟨gTup X.K n u, fun s H C cl fp => pg_tup (X := X.blk s H scope (compEnvC scope cl C X.env) fp) hc (h2 s H C cl fp) (hn _) (hst _), tw_tup w2⟩, fun w env S Q Q' k q => ?_⟩
  cases w with
  | tup l => exact ⟨q.1, b.mono _ _ _ _ _ k q.2⟩
  | _ => exact q.elim
theorem f_nil : EF X Tb scope [] mYes := ⟨fun s H C cl fp => pts_imp pts_nil fun σ H Q ⟨ι, env, S, s, er, h⟩ => h ι H s Grow.refl, fun _ _ _ _ k h => k _ _ h⟩
theorem f_one {m : MT} (h : ∀ (s : Shared) (H : Hp) (C : Addr) (cl : List (Str × Addr)) (fp : List Addr), ET (X.blk s H scope (compEnvC scope cl C X.env) fp) Tb e m) : EF X Tb scope [e] m :=
  ⟨fun s H C cl fp => pts_one (h s H C cl fp).pt, (h {} (fun _ => none) 0 [] []).mono⟩
end
theorem lst_at {K : PySem.W.Frag} {Tb ι : List Addr} {S : Store} {H : Hp} {n : Nat} {a : Addr} {l : List W} (s : Sim K Tb ι S H) (ha : ι[n]? = some a) (hl : S[n]? = some (.lst l)) : ∃ vs, H a = some (.lst vs) ∧ VRs K ι H l vs := by
  obtain ⟨b, h1, vs, e, r⟩ := s.obj n _ hl
  rw [ha] at h1
  cases h1
  exact ⟨vs, e, r⟩
/-- a list is changed -/
theorem setL {K : PySem.W.Frag} {Tb ι : List Addr} {S : Store} {H : Hp} {n : Nat} {a : Addr} {l l0 : List W} {vs : List V} (s : Sim K Tb ι S H) (ha : ι[n]? = some a) (hl : S[n]? = some (.lst l0)) (r : VRs K ι H l vs) :
    Sim K Tb ι (S.set n (.lst l)) (upd H a (.lst vs)) ∧ Grow K ι H ι (upd H a (.lst vs)) := by
  obtain ⟨us, e, _⟩ := lst_at s ha hl
  exact s.set ha (fun ob v z => by rw [e] at z; cases z) fun H' g e' => ⟨vs, e', r.grow g⟩
theorem lift_lc {K : PySem.W.Frag} {Tb : List Addr} {mi : MI} {wi : TI} {t : TG} {mg : MG} {tt : MT} {te : ME} {vs : List Nat} (hl : LI K Tb mi wi) (him : ∀ (env : EvS) (S : Store) (R R' : (Store → Prop) → List W → Store → Prop), (∀ c w S', R c w S' → R' c w S') → mi env S R → mi env S R')
    (hw : TW K Tb t mg vs) (ht : ∀ (env : EvS) (S : Store) (Q Q' : Bool → Store → Prop), (∀ w S', Q w S' → Q' w S') → tt env S Q → tt env S Q') (he : MonoE te)
    {σ : L2.St} {H : Hp} {Q : VK} (h : LE K Tb (mLc mi mg tt te vs) σ H Q) : tLc wi t (LT K Tb tt) (LE K Tb te) vs σ H Q := by
  obtain ⟨ι, env, S, s, er, h⟩ := h
  refine hl σ H _ ι env S s er (him _ _ _ _ (fun chk ws S1 q ι1 H1 J s1 g1 fd => ?_) h)
  intro D hD
  obtain ⟨ι2, s2, g2, a0, hD2, ea⟩ := newL (ws := []) (vs := []) s1 rfl hD
  cases ea
  refine ⟨fun i m H' => m = ws.length - i ∧ i ≤ ws.length ∧ ∃ ι' S', Sim K Tb ι' S' H' ∧ Grow K ι2 (upd H1 D (.lst [])) ι' H' ∧ lcL chk mg tt te S1.length (wpE env vs) (fun w S' => ∀ ι' H' v, Sim K Tb ι' S' H' → Grow K ι H ι' H' → VR K ι' H' w v → Q v H') (ws.drop i) S',
    ⟨ws.length, by simp, Nat.zero_le _, ι2, _, s2, Grow.refl, by rw [List.drop_zero]; exact q⟩, ?_⟩
  rintro i m H' ⟨rfl, hi', ι', S', s', g', q'⟩
  by_cases hlt : i < ws.length
  · obtain ⟨w, hw'⟩ : ∃ w, ws[i]? = some w := ⟨_, List.getElem?_eq_getElem hlt⟩
    have ed : ws.drop i = w :: ws.drop (i + 1) := by
      rw [List.drop_eq_getElem_cons hlt]
      rw [List.getElem?_eq_getElem hlt] at hw'
      rw [Option.some.inj hw']
    rw [ed] at q'
    obtain ⟨hgo, hy⟩ := (fd ι' H' S' i (g2.trans g') s' q'.1).1 w hw'
    refine .inr ⟨hgo, fun H3 => ∃ ι3 S3, Sim K Tb ι3 S3 H3 ∧ Grow K ι2 (upd H1 D (.lst [])) ι3 H3 ∧ lcL chk mg tt te S1.length (wpE env vs) (fun w S' => ∀ ι' H' v, Sim K Tb ι' S' H' → Grow K ι H ι' H' → VR K ι' H' w v → Q v H') (ws.drop (i + 1)) S3, fun H3 n3 => ⟨ws.length - (i + 1), by omega, rfl, by omega, n3⟩, fun x H3 y => ?_⟩
    obtain ⟨ι3, s3, g3, r3⟩ := hy x H3 y
    have er3 : ER K ι3 H3 (wpE env vs) (wipe σ vs) := (((er.grow g1).grow g2).grow g').grow g3 |>.wipe vs
    refine hw x _ H3 w _ S' ι3 _ _ s3 er3 r3 q'.2 fun e S4 ι4 H4 σ4 q4 s4 g4 er4 e4 => ⟨?_, ι4, e, S4, s4, er4, ht _ _ _ _ (fun b S5 q5 ι5 H5 s5 g5 => ?_) q4⟩
    · rw [e4]
      have ww : ∀ us : List Nat, (∀ u ∈ us, u ∈ vs) → wipe (wipe σ us) vs = wipe σ vs := fun us => by
        induction us with
        | nil => exact fun _ => rfl
        | cons u us ih =>
          intro hm
          show wipe ((wipe σ us).set u none) vs = _
          rw [wipe_set (hm u List.mem_cons_self), ih fun x hx => hm x (List.mem_cons_of_mem _ hx)]
      exact ww vs fun _ h => h
    cases b with
    | true =>
      refine iteT ⟨ι5, e, S5, s5, er4.grow g5, he _ _ _ _ (fun x6 S6 q6 ι6 H6 v6 s6 g6 r6 => ?_) q5⟩
      obtain ⟨acc, ha, hz, q6⟩ := q6
      have gg := (((g'.trans g3).trans g4).trans g5).trans g6
      have hD6 := gg.at hD2
      obtain ⟨us, eu, ru⟩ := lst_at s6 hD6 ha
      obtain ⟨s7, g7⟩ := setL s6 hD6 ha (ru.app (VRs.one r6))
      exact ⟨us, eu, by rw [ru.len]; exact hz, ι6, _, s7, gg.trans g7, q6⟩
    | false => exact iteF ⟨ι5, S5, s5, ((g'.trans g3).trans g4).trans g5, q5⟩
  · have ei : i = ws.length := by omega
    subst ei
    rw [List.drop_length] at q'
    exact .inl ⟨(fd ι' H' S' ws.length (g2.trans g') s' q'.1).2 (Nat.le_refl _), q'.2 ι' H' (.ref D) s' ((g1.trans g2).trans g') ⟨D, g'.at hD2, rfl⟩⟩
theorem lcL_mono {chk : Store → Prop} {mg : MG} {tt : MT} {te : ME} {n : Nat} {env : EvS} {Q Q' : WK} (hg : ∀ (w : W) (env : EvS) (S : Store) (Q Q' : EvS → Store → Prop), (∀ e S', Q e S' → Q' e S') → mg w env S Q → mg w env S Q') (ht : ∀ (env : EvS) (S : Store) (Q Q' : Bool → Store → Prop), (∀ w S', Q w S' → Q' w S') → tt env S Q → tt env S Q') (he : MonoE te)
    (k : ∀ w S', Q w S' → Q' w S') : ∀ (ws : List W) (S : Store), lcL chk mg tt te n env Q ws S → lcL chk mg tt te n env Q' ws S
  | [], S, h => ⟨h.1, k _ _ h.2⟩
  | w :: r, S, h => ⟨h.1, hg _ _ _ _ _ (fun e S1 q => ht _ _ _ _ (fun b S2 q2 => by
    cases b with
    | true => exact iteT (he _ _ _ _ (fun x S3 ⟨acc, a, b, q3⟩ => ⟨acc, a, b, lcL_mono hg ht he k r _ q3⟩) q2)
    | false => exact iteF (lcL_mono hg ht he k r _ q2)) q) h.2⟩
theorem mLc_mono {mi : MI} {mg : MG} {tt : MT} {te : ME} {vs : List Nat} (him : ∀ (env : EvS) (S : Store) (R R' : (Store → Prop) → List W → Store → Prop), (∀ c w S', R c w S' → R' c w S') → mi env S R → mi env S R')
    (hg : ∀ (w : W) (env : EvS) (S : Store) (Q Q' : EvS → Store → Prop), (∀ e S', Q e S' → Q' e S') → mg w env S Q → mg w env S Q') (ht : ∀ (env : EvS) (S : Store) (Q Q' : Bool → Store → Prop), (∀ w S', Q w S' → Q' w S') → tt env S Q → tt env S Q') (he : MonoE te) : MonoE (mLc mi mg tt te vs) := fun env S Q Q' k h =>
  him _ _ _ _ (fun c w S' q => lcL_mono hg ht he k _ _ q) h
section
variable {X : Cx} {Tb : List Addr} {scope : Scope} {own : List (Str × Nat)} {elt tg iter : Expr} {ifs : List Expr} {pos : Pos} {mi : MI} {mg : MG} {tt : MT} {te : ME}
theorem e_lc (hN : X.N.Nodup) (hi : EI X Tb tg iter mi) (ok : BlkOk X.N X.env.scope scope own) (hg : EGw X Tb scope tg mg (own.map (·.2))) (ht : EF X Tb scope ifs tt)
    (he : ∀ (s : Shared) (H : Hp) (C : Addr) (cl : List (Str × Addr)) (fp : List Addr), EE (X.blk s H scope (compEnvC scope cl C X.env) fp) Tb elt te) (hc : X.calm = true := by rfl) (hs : ∀ x, foldedSetIterable iter X.env x = pure x := by intro _; rfl) :
    EE X Tb (.ListComp elt [⟨tg, iter, ifs, 0⟩] scope pos) (mLc mi mg tt te (own.map (·.2))) := by
  obtain ⟨wi, hp, hl⟩ := hi.ex
  obtain ⟨t, ht1, hw⟩ := hg.ex
  have hm := (he {} (fun _ => none) 0 [] []).mono
  exact ⟨pe_imp (pe_lc hc hN hp ok ht1 ht.pt (fun s H C cl fp => (show PE _ elt (LE X.K Tb te) from (he s H C cl fp).pe)) hs) fun σ H Q h => lift_lc hl hi.mono hw ht.mono hm h, mLc_mono hi.mono hg.mono ht.mono hm⟩
theorem s_setLc {i : Nat} {y : Str} {py spos : Pos} (hN : X.N.Nodup) (hi : EI X Tb tg iter mi) (ok : BlkOk X.N X.env.scope scope own) (hg : EGw X Tb scope tg mg (own.map (·.2))) (ht : EF X Tb scope ifs tt)
    (he : ∀ (s : Shared) (H : Hp) (C : Addr) (cl : List (Str × Addr)) (fp : List Addr), EE (X.blk s H scope (compEnvC scope cl C X.env) fp) Tb elt te)
    (hsw : swapsWith (.ListComp elt [⟨tg, iter, ifs, 0⟩] scope pos) (some (.Name y py)) spos.line X.env = pure true) (hy : X.N[i]? = some y := by rfl) (hyl : X.env.scope.names.lookup y = some .local := by rfl) (hc : X.calm = true := by rfl) (hs : ∀ x, foldedSetIterable iter X.env x = pure x := by intro _; rfl) :
    ES X Tb (.Assign [.Name y py] (.ListComp elt [⟨tg, iter, ifs, 0⟩] scope pos) spos) (mAsg (mLc mi mg tt te (own.map (·.2))) (mgName i)) := by
  obtain ⟨wi, hp, hl⟩ := hi.ex
  obtain ⟨t, ht1, hw⟩ := hg.ex
  have hm := (he {} (fun _ => none) 0 [] []).mono
  have mm := mLc_mono (vs := own.map (·.2)) hi.mono hg.mono ht.mono hm
  refine ⟨ps_imp (ps_setLc hc hN hy hyl hsw hp ok ht1 ht.pt (fun s H C cl fp => (show PE _ elt (LE X.K Tb te) from (he s H C cl fp).pe)) hs) fun D σ H h => ?_, mAsg_mono mm fun _ _ _ _ _ k h => k _ _ h⟩
  obtain ⟨ι, env, S, s, er, h⟩ := h
  refine lift_lc hl hi.mono hw ht.mono hm ⟨ι, env, S, s, er, mm _ _ _ _ (fun w S1 q ι1 H1 v s1 g1 r1 => ?_) h⟩
  exact q ι1 H1 _ s1 g1 ((er.grow g1).set i r1)
end
end Ev

set_option Elab.async false
set_option linter.all false
set_option maxRecDepth 100000
set_option maxHeartbeats 4000000
/-! all(e for x in xs), where e calls defs. -/
namespace Ev
open PySem PySem.Spec PyProof.Rows L2 Ow GenW
/-- the generator's own context: its frame stands on the def's -/
abbrev gX (X : Cx) (A : Around) (s : Shared) (H : Hp) (scope : Scope) (cenv : Env) (fp : List Addr) : Cx :=
  { X with A := A, s_0 := s, H_0 := H, env := cenv, outer := X.stack, stack := cenv :: X.stack, ex := fp, fn := fun x => scope.names.lookup x == some .cell, pn := [], xe := fun _ _ => False, calm := true }
/-- names of the generator's scope: its own, or captured -/
structure GOk (N : List Str) (sc scope : Scope) (own : List (Str × Nat)) : Prop where
  blk : BlkOk N sc scope own
  cell : ∀ y ∈ scope.names, y.2 ≠ .cell
  dot : scope.names.lookup (".0" : Str) = some NameKind.local
  co : scope.isCoroutine = false
section
variable {X : Cx} {pins : List (Addr × Obj)} {σ : L2.St} {H : Hp}
theorem gen_inv {A : Around} {scope : Scope} {own : List (Str × Nat)} {fp : List Addr} {s4 s5 : Shared} {code : Value} {it : Value} {go : Obj} {a : Addr}
    (I : Inv X pins σ H s4) (ok : GOk X.N X.env.scope scope own) (hN : X.N.Nodup) (hA : A.handled = none) (hAf : A.frames = some (genEnv scope (cloFrom X.env.cells scope.names []) s4.heap.objs.size code builtinsNs X.env :: X.stack))
    (hfp : ∀ b ∈ fp, FpOk X pins H b ∧ b < s4.heap.objs.size) (hos : s5.os = s4.os) (hb : AllBare s5.gens) (kp : ∀ b o, s4.heap.get? b = some o → s5.heap.get? b = some o)
    (hns : s5.heap.Ns s4.heap.objs.size fun y => if y = ".0" then some it else none) (ha : s5.heap.get? a = some go) (ha4 : s4.heap.objs.size < a) (hgo : ∀ v, go.data ≠ .cell v) :
    Inv (gX X A s4 H scope (genEnv scope (cloFrom X.env.cells scope.names []) s4.heap.objs.size code builtinsNs X.env) fp) [(a, go)] (wipe σ (own.map (·.2))) H s5 := by
  have hfree : ∀ y ∈ scope.names, y.2 = .free → ∃ c, X.env.cells.lookup y.1 = some c := fun y hy e => by
    rcases ok.blk.free y hy e with k | k
    · exact I.ok.has _ (.inl k)
    · exact I.ok.has _ (.inr k)
  have cm : ∀ {y c}, (cloFrom X.env.cells scope.names []).lookup y = some c → X.env.cells.lookup y = some c ∧ c < s4.heap.objs.size := fun {y c} e => by
    rcases cloFrom_mem (PySem.mem_of_lookup e) with hm | ⟨h1, rfl⟩
    · cases hm
    · obtain ⟨c, hc⟩ := hfree _ h1 rfl
      rw [hc]
      obtain ⟨w, z⟩ := I.cell _ _ hc
      exact ⟨rfl, z.lt⟩
  have look : ∀ {y}, scope.names.lookup y = some .free → ∃ c, (cloFrom X.env.cells scope.names []).lookup y = some c ∧ X.env.cells.lookup y = some c := fun {y} hl => by
    obtain ⟨c', e'⟩ := mem_lookup (cloFrom_has (cells := X.env.cells) (acc := []) (PySem.mem_of_lookup hl))
    exact ⟨c', e', (cm e').1⟩
  have nocell : ∀ y, scope.names.lookup y ≠ some .cell := fun y e => ok.cell _ (PySem.mem_of_lookup e) rfl
  refine ⟨⟨I.ok.mod, ok.blk.kind, I.ok.glob, rfl, Nat.le_refl _, fun y z c e1 e2 => I.ok.inj y z c (cm e1).1 (cm e2).1, fun y hy => ?_, fun y c z e => ?_, fun _ => hA, hAf, .inr ⟨rfl, rfl⟩, fun b hb => ⟨?_, fun y c e z => ?_⟩, I.bs, Nat.le_trans I.ok.bsz I.sz, fun b o e hb => ?_, fun b hb z => ?_, I.stack, I.stkFree⟩,
    hos, hb, Un.kept kp, ⟨_, hns, fun i y av e1 e2 e3 => ?_⟩, fun y c e => ?_, ?_, fun y c e => ?_, fun p hp => ?_, I.hok.kept kp, by rw [wipe_length]; exact I.len⟩
  · rcases hy with hy | hy
    · exact absurd hy (nocell y)
    · obtain ⟨c, h1, _⟩ := look hy
      exact ⟨c, h1⟩
  · have z : (scope.names.lookup y == some NameKind.cell) = true := z
    exact absurd (by simpa using z) (nocell y)
  · exact Nat.ne_of_lt (hfp b hb).2
  · have e : (cloFrom X.env.cells scope.names []).lookup y = some c := e
    exact (hfp b hb).1.2.2.2.2.1 y c (cm e).1 z
  · rcases (hfp b hb).1.2.2.2.1 with z | z
    · exact I.ok.noex b o e z
    · exact absurd (Nat.lt_of_lt_of_le (Heap.lt_size e) (Nat.le_trans I.ok.bsz z)) (Nat.lt_irrefl _)
  · rcases List.mem_cons.mp (I.stkSub b z) with z | z
    · exact (hfp b hb).1.2.1 z
    · exact (hfp b hb).1.2.2.1 z
  · obtain ⟨e2, hne⟩ := wipe_some e2
    have hl : scope.names.lookup y = some .free := by
      have no : ∀ k, scope.names.lookup y = some k → ¬ (k = .local ∨ k = .cell) := fun k hk hh => by
        rcases ok.blk.own _ (PySem.mem_of_lookup hk) hh with e' | e'
        · obtain ⟨p, hp, hpy⟩ := List.mem_map.mp e'
          have e3 := ok.blk.ix p hp
          have : p.1 = y := hpy
          rw [this] at e3
          exact hne (List.mem_map.mpr ⟨p, hp, nodup_ix hN e3 e1⟩)
        · exact e' (List.mem_of_getElem? e1)
      rcases e3 with e3 | e3 | e3
      · exact absurd (.inl rfl) (no _ e3)
      · exact absurd (.inr rfl) (no _ e3)
      · exact e3
    obtain ⟨m, hn, hlm⟩ := I.loc
    have hvis : Vis X.env.scope y := (ok.blk.free _ (PySem.mem_of_lookup hl) rfl).elim (fun k => .inr (.inl k)) (fun k => .inr (.inr k))
    obtain ⟨w, r, q⟩ := hlm i y av e1 e2 hvis
    refine ⟨w, r, .inr ⟨.inr hl, ?_⟩⟩
    obtain ⟨c, h1, h2⟩ := look hl
    rcases q with ⟨k, _⟩ | ⟨_, c', e', z⟩
    · have k : X.env.scope.names.lookup y = some .local := k
      rcases ok.blk.free _ (PySem.mem_of_lookup hl) rfl with k' | k' <;> rw [show X.env.scope.names.lookup y = _ from k'] at k <;> cases k
    · rw [h2] at e'
      cases e'
      exact ⟨c, h1, z.keeps kp⟩
  · have e : (cloFrom X.env.cells scope.names []).lookup y = some c := e
    obtain ⟨w, z⟩ := I.cell y c (cm e).1
    exact ⟨w, z.keeps kp⟩
  · exact I.hok.fresh (Nat.le_refl _)
  · have e : (cloFrom X.env.cells scope.names []).lookup y = some c := e
    exact I.freeC y c (cm e).1
  · have hp' : p = (a, go) := by
      have : p ∈ [(a, go)] := hp
      simpa using this
    subst hp'
    refine ⟨ha, I.hok.fresh (Nat.le_of_lt ha4), Nat.ne_of_gt ha4, fun z => ?_, hgo⟩
    rcases List.mem_cons.mp (I.stkSub a z) with z | z
    · have := I.lt
      rw [← z] at this
      exact absurd (Nat.lt_trans this ha4) (Nat.lt_irrefl _)
    · exact I.nofs (Nat.le_of_lt ha4) z
end
/-- what the generator hands out: b; H': the heap then; w: what is known -/
def YG (XG : Cx) (pn : List (Addr × Obj)) (Qf : Hp → Prop) : Protocol := fun n s₀ v s1 kap => ∃ b σ' H', v = Value.bool b ∧ Inv XG pn σ' H' s1 ∧ (b = false → Qf H') ∧ ∀ G, AllBare G → b = true → kap (.send .none) { s1 with gens := G }
def RG (XG : Cx) (pn : List (Addr × Obj)) (Qt : Hp → Prop) : Nat → Shared → Shared → Prop := fun _ _ s1 => ∃ σ' H', Inv XG pn σ' H' s1 ∧ Qt H'
section
variable {XG : Cx} {elt tg iter : Expr} {scope : Scope} {pos : Pos} {AG : Around} {J : It} {fp : List Addr} {it : Addr} {tn : Nat → Heap → Prop} {g : TG} {te : TE} {vs : List Nat} {σ : L2.St} {Qt Qf : Hp → Prop} {pn : List (Addr × Obj)} {W : Nat → Nat → Hp → Prop}
theorem Inv.gens {pins : List (Addr × Obj)} {σ : L2.St} {H : Hp} {s : Shared} {G : Array GenState} (I : Inv XG pins σ H s) (h : AllBare G) : Inv XG pins σ H { s with gens := G } :=
  I.call' (ch := []) rfl Un.refl I.hok h fun b hb => by cases hb
theorem seg_all (hA : AG.over (.compLoop (.GeneratorExp elt [⟨tg, iter, [], 0⟩] scope pos) 0 (.ref it) .none XG.env) [] = XG.A) (hco : XG.env.scope.isCoroutine = false) (hxe : XG.xe = fun _ _ => False) (hc : XG.calm = true) (hpn0 : XG.pn = [])
    (hex : XG.ex = fp) (T : Turn XG.prog XG.w XG.K tg J fp it tn) (hg : PG XG tg g) (he : PE XG elt te)
    (turn : ∀ i m H, W i m H → (J.stop i H ∧ Qt H) ∨ (J.go i H ∧ ∃ N : Hp → Prop, (∀ H', N H' → ∃ m', m' < m ∧ W (i + 1) m' H') ∧ ∀ x H', J.yld i H x H' → g x (wipe σ vs) H' fun σ2 H3 => wipe σ2 vs = wipe σ vs ∧ te σ2 H3 fun y H4 => ∃ b, y = .bl b ∧ if b = true then N H4 else Qf H4))
    (hfp : ∀ b ∈ fp, b ≠ XG.env.locals ∧ b ∉ XG.fs ∧ (∀ x c, XG.env.cells.lookup x = some c → c ≠ b) ∧ ∀ p ∈ pn, p.1 ≠ b) :
    ∀ (n i m : Nat) (s₀ s : Shared) (H : Hp), m < n → W i m H → Inv XG pn (wipe σ vs) H s → tn i s.heap → (∀ b ∈ fp, H b = none) →
      Seg (model XG.prog XG.w) AG (fun n s₀ r s1 => r = .ok .next ∧ RG XG pn Qt n s₀ s1) (YG XG pn Qf) n s₀
        (.compLoop (.GeneratorExp elt [⟨tg, iter, [], 0⟩] scope pos) 0 (.ref it) .none XG.env) ((model XG.prog XG.w).den (.compLoop (.GeneratorExp elt [⟨tg, iter, [], 0⟩] scope pos) 0 (.ref it) .none XG.env)) [] s := by
  have stat : ∀ {H' : Hp}, (∀ b ∈ fp, H' b = none) → ∀ b ∈ fp, FpOk XG pn H' b := fun hn b hb => by
    obtain ⟨h1, h2, h3, h4⟩ := hfp b hb
    refine ⟨hn b hb, h1, h2, .inl (by rw [hex]; exact hb), h3, fun p hp => ?_⟩
    rw [hpn0] at hp
    exact h4 p hp
  intro n
  induction n with
  | zero =>
    intro i m s₀ s H hm
    exact absurd hm (Nat.not_lt_zero m)
  | succ n ih =>
    intro i m s₀ s H hm w I st hn
    show Seg _ AG _ _ _ s₀ _ ((compTurn (.GeneratorExp elt [⟨tg, iter, [], 0⟩] scope pos) 0 (.ref it) .none XG.env).onRaise (leaving XG.env)) [] s
    rw [compTurn_gen, Sem.onRaise_eq_wrap]
    refine seg_bind_wrap (wpAny_standAt ?_)
    refine seg_bind_wrap ?_
    rw [hA]
    rcases turn i m H w with ⟨stop, qq⟩ | ⟨go, N, hN, step⟩
    · refine wpAny_mono (T.done XG rfl rfl rfl hc i pn s _ H (fun _ _ => False) I (stat hn) st stop) (fun r s1 ⟨hr, I1⟩ => ?_) fun _ _ z => z.elim
      subst hr
      exact seg_end (.ok .next) ⟨rfl, _, H, I1, qq⟩
    · refine wpAny_mono (T.item XG rfl rfl rfl hc i pn s _ H (fun _ _ => False) I (stat hn) st go) (fun r s1 ⟨u, hr, h1⟩ => ?_) fun _ _ z => z.elim
      subst hr
      refine seg_bind_wrap ?_
      rw [hA]
      refine wpAny_mono h1 (fun _ s2 ⟨x, H2, I2, r2, y2, st2, n2⟩ => ?_) fun _ _ z => z.elim
      have I2' := I2.pinned (stat n2) (T.obj _ _ st2)
      refine seg_bind_wrap ?_
      rw [hA]
      refine wpAny_mono (hg.run _ s2 _ H2 x u _ I2' r2 (step x H2 y2)) (fun _ s3 ⟨σ3, H3, I3, hw3, q3⟩ => ?_) fun e s' z => by rw [hxe] at z; exact z.elim
      simp only [List.forIn_nil]
      refine seg_bind_wrap (wpAny_pure ?_)
      simp only [if_true]
      have hy : ∀ v, yieldOut XG.env v = yieldValue v := fun v => by simp only [yieldOut, hco, Bool.false_eq_true, if_false]
      simp only [hy]
      rw [Sem.bind_eq_wrap', Sem.bind_eq_wrap', Sem.wrap_wrap, Sem.wrap_wrap]
      refine seg_wrap ?_
      rw [hA]
      refine wpAny_mono (he.run _ s3 σ3 H3 _ I3 q3) (fun v s4 ⟨y4, H4, I4, r4, b, eb, q4⟩ => ?_) fun e s' z => by rw [hxe] at z; exact z.elim
      subst eb
      obtain rfl : v = Value.bool b := r4
      refine seg_at (seg_yield rfl rfl rfl ?_)
      have back := I4.unpinned (pins := pn)
      have pin' : ∀ b ∈ fp, ∀ o, s2.heap.get? b = some o → s4.heap.get? b = some o ∧ H4 b = none := fun b hb o e =>
        let z := I4.pin (b, o) (List.mem_append_right _ (List.mem_append_right _ (mem_pinsAt hb e)))
        ⟨z.1, z.2.1⟩
      refine ⟨b, σ3, H4, rfl, back, fun e => ?_, fun G hG e => ?_⟩
      · subst e
        simpa using q4
      · subst e
        rw [if_pos rfl] at q4
        obtain ⟨m', hm', w'⟩ := hN H4 q4
        refine seg_again rfl (ih (i + 1) m' _ _ H4 (by omega) w' ?_ (T.keep _ _ _ st2 fun b hb o e => (pin' b hb o e).1) fun b hb => ?_)
        · refine (Inv.gens back hG).weak (by
            have hz := congrArg List.length hw3
            rw [wipe_length, wipe_length] at hz
            rw [wipe_length]
            exact hz.symm) fun j v e => ?_
          rw [← hw3] at e
          exact (wipe_some e).1
        · obtain ⟨o, e, _⟩ := T.obj _ _ st2 b hb
          exact (pin' b hb o e).2
end
section
variable {XG : Cx} {Qt Qf : Hp → Prop} {pn : List (Addr × Obj)} {R : Result → Shared → Prop} {A : Around} {a : Addr} {g : Nat}
theorem all_turns (hh : A.handled = none) (hd : A.depth < recursionLimit) (gen : ∀ {σ' : L2.St} {H' : Hp} {s1 : Shared}, Inv XG pn σ' H' s1 → s1.heap.IsGen a g)
    (hT : ∀ (σ' : L2.St) (H' : Hp) (s1 : Shared) (h' : Heap), Inv XG pn σ' H' s1 → Qt H' → (∀ b o, s1.heap.get? b = some o → h'.get? b = some o) → R (.ok (.ret (.bool true))) { s1.setGen g .finished with heap := h' })
    (hF : ∀ (σ' : L2.St) (H' : Hp) (s1 : Shared) (gs' : GenState), Inv XG pn σ' H' s1 → Qf H' → gs'.bare = true → R (.ok (.ret (.bool false))) (s1.setGen g gs')) :
    ∀ (n : Nat) (s : Shared), s.heap.IsGen a g → s.heap.NoLimit →
      (∃ gs, s.gens[g]? = some gs ∧ gs.Goes (model XG.prog XG.w) A.in1.in1 (fun n s₀ r s1 => r = .ok .next ∧ RG XG pn Qt n s₀ s1) (YG XG pn Qf) n (.send .none) (s.setGen g .running)) →
      codeAny (model XG.prog XG.w) A (.builtin "all.loop" ⟨[.ref a], []⟩) R s := by
  intro n
  induction n with
  | zero =>
    intro s hg hl ⟨gs, hgs, hgo⟩
    refine codeAny_builtin F.entry_all_loop ?_
    rw [Around.under_plainId F.plain_all_loop _]
    show wpAny _ A.in1 (pyNext (.ref a) >>= _) _ _ s
    refine wpAny_bind (wpAny_pyNext_genexpQ (A := A.in1) (P := RG XG pn Qt) hh hl hd hg hgs hgo (fun v s1 gs' hb hv => ?_) fun s1 hp h' hk => ?_)
    · obtain ⟨b, σ', H', rfl, I', hf, hk⟩ := hv
      cases b with
      | true => exact (hk _ I'.bare rfl).elim
      | false =>
        refine wpAny_bind (wpAny_holding (wpAny_truthy_bool ?_))
        refine wpAny_bind (wpAny_letGo ?_)
        simp only [Bool.false_eq_true, if_false]
        exact wpAny_bind (wpAny_rule (wpAny_pure (hF σ' H' s1 gs' I' (hf rfl) hb)))
    · obtain ⟨σ', H', I', q⟩ := hp
      exact wpAny_bind (wpAny_rule (wpAny_pure (hT σ' H' s1 h' I' q hk)))
  | succ n ih =>
    intro s hg hl ⟨gs, hgs, hgo⟩
    have hgl : g < s.gens.size := (Array.getElem?_eq_some_iff.mp hgs).1
    refine codeAny_builtin F.entry_all_loop ?_
    rw [Around.under_plainId F.plain_all_loop _]
    show wpAny _ A.in1 (pyNext (.ref a) >>= _) _ _ s
    refine wpAny_bind (wpAny_gsz (n := g + 1) hgl (wpAny_pyNext_genexpQ (A := A.in1) (P := RG XG pn Qt) hh hl hd hg hgs hgo (fun v s1 gs' hb hv => ?_) fun s1 hp h' hk => ?_))
    · intro hsz
      obtain ⟨b, σ', H', rfl, I', hf, hk⟩ := hv
      refine wpAny_bind (wpAny_holding (wpAny_truthy_bool ?_))
      refine wpAny_bind (wpAny_letGo ?_)
      cases b with
      | true =>
        simp only [if_true]
        refine wpAny_pure ⟨plainId_quiet F.plain_all_loop _, ih (s1.setGen g gs') (show s1.heap.IsGen a g from gen I') I'.nolimit ⟨gs', setGen_at ?_, ?_⟩⟩
        · have q : (s1.setGen g gs').gens.size = s1.gens.size := setGen_size _ _ _
          have q2 : g + 1 ≤ (s1.setGen g gs').gens.size := hsz
          omega
        · exact hk _ (allBare_setGen (s := s1.setGen g gs') (allBare_setGen I'.bare hb) rfl) rfl
      | false =>
        simp only [Bool.false_eq_true, if_false]
        exact wpAny_bind (wpAny_rule (wpAny_pure (hF σ' H' s1 gs' I' (hf rfl) hb)))
    · intro _
      obtain ⟨σ', H', I', q⟩ := hp
      exact wpAny_bind (wpAny_rule (wpAny_pure (hT σ' H' s1 h' I' q hk)))
end
def tAllG (P : Addr) (wi : TI) (g : TG) (te : TE) (vs : List Nat) : TE := fun σ H Q => wi σ H fun J H1 => GxR.TabG H1 P ∧ ∀ H2, GxR.Tabbed P H1 H2 → ∃ W : Nat → Nat → Hp → Prop, (∃ m, W 0 m H2) ∧ ∀ i m H, W i m H →
  (J.stop i H ∧ Q (.bl true) H) ∨ (J.go i H ∧ ∃ N : Hp → Prop, (∀ H', N H' → ∃ m', m' < m ∧ W (i + 1) m' H') ∧ ∀ x H', J.yld i H x H' → g x (wipe σ vs) H' fun σ2 H3 => wipe σ2 vs = wipe σ vs ∧ te σ2 H3 fun y H4 => ∃ b, y = .bl b ∧ if b = true then N H4 else Q (.bl false) H4)
theorem boot_allF : bootBuiltins "all" = some (.builtin "all") := by decide +kernel
theorem over_room {k : Nat} {A : Around} {elt tg iter : Expr} {scope : Scope} {pos : Pos} {it : Value} {cenv : Env} (hr : Room (k + 1) A) : Room k (A.in1.in1.over (.compLoop (.GeneratorExp elt [⟨tg, iter, [], 0⟩] scope pos) 0 it .none cenv) []) := by
  refine ⟨hr.hd, ?_, ?_⟩
  · have := hr.dp
    show A.depth + 0 + 1 + 3 * k + 5 < _
    omega
  · have := hr.un
    show A.units + 1 + 1 + 0 + 3 + 16 * k + 200 < _
    omega
section
variable {X : Cx} {c P : Addr} {elt tg iter : Expr} {scope : Scope} {own : List (Str × Nat)} {p pos gpos : Pos} {wi : TI} {g : TG} {te : TE} {k : Nat}
theorem pe_allG (hr : Room (k + 1) X.A) (hgl : Gl X "all") (hm : X.mg "all" = none) (TB : GxR.TabB X.base X.mg c P) (hcode : X.env.code = .ref c) (hN : X.N.Nodup) (ok : GOk X.N X.env.scope scope own) (hi : PI X tg iter wi)
    (hg : ∀ (A : Around) (s : Shared) (H : Hp) (cl : List (Str × Addr)) (C : Addr) (code : Value) (fp : List Addr), PG (gX X A s H scope (genEnv scope cl C code builtinsNs X.env) fp) tg g)
    (he : ∀ (A : Around) (s : Shared) (H : Hp) (cl : List (Str × Addr)) (C : Addr) (code : Value) (fp : List Addr), Room k A → PE (gX X A s H scope (genEnv scope cl C code builtinsNs X.env) fp) elt te)
    (hs : ∀ v, genFold iter X.env v = pure v)
    (hst : starEach [.GeneratorExp elt [⟨tg, iter, [], 0⟩] scope gpos] X.env = (false, eval (.GeneratorExp elt [⟨tg, iter, [], 0⟩] scope gpos) X.env) :: starEach [] X.env := by rfl) :
    PE X (.Call (.Name "all" p) [.GeneratorExp elt [⟨tg, iter, [], 0⟩] scope gpos] [] pos) (tAllG P wi g te (own.map (·.2))) := by
  refine ⟨fun pins s σ H Q I h => ?_⟩
  have hfree : ∀ y ∈ scope.names, y.2 = .free → ∃ c, X.env.cells.lookup y.1 = some c := fun y hy e => by
    rcases ok.blk.free y hy e with q | q
    · exact I.ok.has _ (.inl q)
    · exact I.ok.has _ (.inr q)
  refine wpAny_Call_Name_kw (ld_blt I hgl hm boot_allF ?_)
  refine PyProof.Rows.callWith_builtin1 ?_ hst (by rfl)
  rw [hst]
  show wpAny _ _ (spliced ((false, eval (.GeneratorExp elt [⟨tg, iter, [], 0⟩] scope gpos) X.env) :: backTo pos (starEach [] X.env))) _ _ s
  refine Calls.spliced_cons ?_
  refine wpAny_GeneratorExp_make ok.co (closure_ok hfree) ok.cell ok.dot ok.blk.kind (by have := hr.dp; omega) (thn (hi.run pins s σ H _ I h) fun xv s1 h1 => thn h1 fun itv s2 h2 => ?_) hs
  obtain ⟨it, fp, tn, J, H2, rfl, I2, T, st2, f2, ⟨ps, hP, ht⟩, q⟩ := h2
  have hPs : s2.heap.get? P = some { cls := .none, data := .fields ps } := I2.hok P _ hP
  have cd : PySem.W.CodeHd s2.heap c P := TB.code.keeps fun b u e => I2.bk b u e
  have fpP : ∀ b ∈ fp, b ≠ P := fun b hb z => by
    have := (f2 b hb).1
    rw [z, hP] at this
    cases this
  have fps : ∀ b ∈ fp, b < s2.heap.objs.size := fun b hb => by
    obtain ⟨o, e, _⟩ := T.obj _ _ st2 b hb
    exact Heap.lt_size e
  refine ⟨I2.nolimit, ?_⟩
  have main : ∀ (code : Value) (h3 : Heap) (tk : Nat) (more : Array Value), Heap.ExtBut P s2.heap h3 → s2.heap.objs.size ≤ h3.objs.size → h3.get? P = some { cls := .none, data := .fields (ps ++ more) } → TriplesOk (ps ++ more).toList →
      wpAny (model X.prog X.w) X.A (builtinsFor X.env.globals X.env.builtins) (fun bi s₄ =>
        ∀ h', h'.Ns s₄.heap.objs.size (fun y => if y = ".0" then some (Value.ref it) else none) → Heap.SameBut s₄.heap.objs.size (s₄.heap.push { cls := .type "frame", data := .dict #[] }) h' →
          wpAny (model X.prog X.w) X.A (spliced (backTo pos (starEach [] X.env))) (fun vs s' => wpAny (model X.prog X.w) X.A (call (.builtin "all") (Value.ref h'.objs.size :: vs)) (EP X pins σ Q) X.xe s') X.xe
            { s₄ with gens := s₄.gens.push (.fresh (.compStart (.GeneratorExp elt [⟨tg, iter, [], 0⟩] scope gpos) 0 (.ref it) .none (genEnv scope (cloFrom X.env.cells scope.names []) s₄.heap.objs.size code bi X.env))), toks := s₄.toks + 1 + 1 + 1,
                      heap := h'.push { cls := .type "generator", data := .fields #[.int s₄.gens.size 0, .str "<genexpr>" (s₄.toks + 1), .str (X.env.qual ++ "<genexpr>") (s₄.toks + 1 + 1)] } }) X.xe { s2 with heap := h3, toks := tk } := by
    intro code h3 tk more hx hsz hP3 ht3
    obtain ⟨bm, ob, e1, e2, e3, e4, e5, e6, e7, e8⟩ := TB.bm
    have keep3 : ∀ b u, b ≠ P → s2.heap.get? b = some u → h3.get? b = some u := fun b u hb e => hx b u hb e
    have I3 : Inv X pins σ (upd H2 P (.tbl (ps ++ more))) { s2 with heap := h3, toks := tk } :=
      GxR.inv_tab (more := more) (h' := h3) (g' := s2.gens) (d' := s2.drawn) (t' := tk) I2 hP (fun b o hb e => hx b o hb e) hP3 I2.bare
    have tb3 : GxR.Tabbed P H2 (upd H2 P (.tbl (ps ++ more))) := ⟨⟨ps ++ more, upd_same, ht3⟩, fun b hb => upd_ne hb⟩
    generalize upd H2 P (.tbl (ps ++ more)) = H3 at I3 tb3
    have st3 : tn 0 h3 := T.keep _ _ _ st2 fun b hb o e => keep3 b o (fpP b hb) e
    have f3 : ∀ b ∈ fp, FpOk X pins H3 b := fun b hb => by
      obtain ⟨n0, rest⟩ := f2 b hb
      exact ⟨by rw [tb3.2 b (fpP b hb)]; exact n0, rest⟩
    have fps3 : ∀ b ∈ fp, b < h3.objs.size := fun b hb => Nat.lt_of_lt_of_le (fps b hb) hsz
    refine wpAny_builtinsFor (m := X.mg) (by rw [I2.ok.glob]; exact (I2.mod.glob.keeps I2.bk).extBut hx TB.gP) e1 e2 (keep3 _ _ e4 (I2.bk _ _ e5)) e6 e7 e8 ?_
    intro h' hns hsame
    obtain ⟨W, ⟨m0, w0⟩, turn⟩ := q H3 tb3
    refine Calls.spliced_nil ?_
    have fr : X.A.frames = some X.stack := I2.ok.frames
    have hh : X.A.handled = none := hr.hd
    have k5 : ∀ b o, h3.get? b = some o → (h'.push { cls := .type "generator", data := .fields #[.int s2.gens.size 0, .str "<genexpr>" (tk + 1), .str (X.env.qual ++ "<genexpr>") (tk + 1 + 1)] }).get? b = some o := fun b o e => by
      refine Heap.get?_push_of_some _ ?_
      rw [hsame.2 b (Nat.ne_of_lt (Heap.lt_size e))]
      exact Heap.get?_push_of_some _ e
    have szh : h'.objs.size = h3.objs.size + 1 := hsame.1.trans (Heap.size_push ..)
    have ga : (h'.push { cls := .type "generator", data := .fields #[.int s2.gens.size 0, .str "<genexpr>" (tk + 1), .str (X.env.qual ++ "<genexpr>") (tk + 1 + 1)] }).get? h'.objs.size = some { cls := .type "generator", data := .fields #[.int s2.gens.size 0, .str "<genexpr>" (tk + 1), .str (X.env.qual ++ "<genexpr>") (tk + 1 + 1)] } := Heap.get?_push_size _ rfl
    have I5 := gen_inv (s4 := { s2 with heap := h3, toks := tk })
      (s5 := { s2 with gens := s2.gens.push (.fresh (.compStart (.GeneratorExp elt [⟨tg, iter, [], 0⟩] scope gpos) 0 (.ref it) .none (genEnv scope (cloFrom X.env.cells scope.names []) h3.objs.size code builtinsNs X.env))), toks := tk + 1 + 1 + 1, heap := h'.push { cls := .type "generator", data := .fields #[.int s2.gens.size 0, .str "<genexpr>" (tk + 1), .str (X.env.qual ++ "<genexpr>") (tk + 1 + 1)] } })
      (A := X.A.in1.in1.over (.compLoop (.GeneratorExp elt [⟨tg, iter, [], 0⟩] scope gpos) 0 (.ref it) .none (genEnv scope (cloFrom X.env.cells scope.names []) h3.objs.size code builtinsNs X.env)) []) (code := code) (it := .ref it) (a := h'.objs.size) (fp := fp)
      I3 ok hN hh (by
        show (X.A.frames).map _ = _
        rw [fr]
        rfl) (fun b hb => ⟨f3 b hb, fps3 b hb⟩) rfl (AllBare.push I2.bare rfl) k5 (hns.keeps fun b o e => Heap.get?_push_of_some _ e) ga (by show h3.objs.size < _; omega) (fun v z => by cases z)
    have seg := fun (s₀ s : Shared) (I : _) (st : tn 0 s.heap) => seg_all (XG := gX X (X.A.in1.in1.over (.compLoop (.GeneratorExp elt [⟨tg, iter, [], 0⟩] scope gpos) 0 (.ref it) .none (genEnv scope (cloFrom X.env.cells scope.names []) h3.objs.size code builtinsNs X.env)) []) { s2 with heap := h3, toks := tk } H3 scope (genEnv scope (cloFrom X.env.cells scope.names []) h3.objs.size code builtinsNs X.env) fp)
      (AG := X.A.in1.in1) (Qt := Q (.bl true)) (Qf := Q (.bl false)) (vs := own.map (·.2)) (σ := σ) (W := W) (pn := [(h'.objs.size, { cls := .type "generator", data := .fields #[.int s2.gens.size 0, .str "<genexpr>" (tk + 1), .str (X.env.qual ++ "<genexpr>") (tk + 1 + 1)] })])
      rfl ok.co rfl rfl rfl rfl T (hg _ _ _ (cloFrom X.env.cells scope.names []) h3.objs.size code fp) (he _ _ _ (cloFrom X.env.cells scope.names []) h3.objs.size code fp (over_room hr)) turn
      (fun b hb => ⟨(I5.ok.exf b hb).1, I5.ok.exfs b hb, (I5.ok.exf b hb).2, fun p hp => by
        have hp' := List.mem_singleton.mp hp
        subst hp'
        intro z
        have q9 : (b : Nat) < h3.objs.size := fps3 b hb
        have z : (h'.objs.size : Nat) = b := z
        exact Nat.lt_asymm q9 (Nat.lt_of_lt_of_eq (Nat.lt_succ_self _) (szh.symm.trans z))⟩) (m0 + 1) 0 m0 s₀ s H3 (Nat.lt_succ_self _) w0 I st (fun b hb => (f3 b hb).1)
    have back : ∀ (σ' : L2.St) (H' : Hp) (s1 s9 : Shared) (b : Bool), Inv (gX X (X.A.in1.in1.over (.compLoop (.GeneratorExp elt [⟨tg, iter, [], 0⟩] scope gpos) 0 (.ref it) .none (genEnv scope (cloFrom X.env.cells scope.names []) h3.objs.size code builtinsNs X.env)) []) { s2 with heap := h3, toks := tk } H3 scope (genEnv scope (cloFrom X.env.cells scope.names []) h3.objs.size code builtinsNs X.env) fp) [(h'.objs.size, { cls := .type "generator", data := .fields #[.int s2.gens.size 0, .str "<genexpr>" (tk + 1), .str (X.env.qual ++ "<genexpr>") (tk + 1 + 1)] })] σ' H' s1 →
        Q (.bl b) H' → s9.os = s1.os → AllBare s9.gens → (∀ b o, s1.heap.get? b = some o → s9.heap.get? b = some o) → EP X pins σ Q (.bool b) s9 := fun σ' H' s1 s9 b I' hq os9 b9 k9 =>
      ⟨.bl b, H', I3.call' (ch := fp) (os9.trans I'.os) (I'.base.trans (Un.kept k9)) (I'.hok.kept k9) b9 (fun b hb => ⟨(f3 b hb).2.2.2.1, (f3 b hb).2.1, (f3 b hb).2.2.2.2.1, (f3 b hb).2.2.2.2.2⟩), rfl, hq⟩
    refine call_function_tree F.kind_all F.plain_all F.entry_all (F.args_all1 _) ?_
    unfold Builtin.«all»
    refine wpAny_bind (m := oneArg "all" _) (wpAny_pure ?_)
    refine wpAny_bind (wpAny_pyIter_gen (g := s2.gens.size) ⟨_, _, _, ga, rfl, rfl, rfl⟩ ?_)
    refine wpAny_pure ⟨plainId_quiet F.plain_all_loop _, all_turns (A := X.A) (Qt := Q (.bl true)) (Qf := Q (.bl false)) hh (by have := hr.dp; omega) (fun I' => ⟨_, _, _, (I'.pin _ (List.mem_append_right _ (List.mem_singleton.mpr rfl))).1, rfl, rfl, rfl⟩)
      (fun σ' H' s1 h9 I' hq k9 => back σ' H' s1 { s1.setGen s2.gens.size .finished with heap := h9 } true I' hq rfl (allBare_setGen I'.bare rfl) k9) (fun σ' H' s1 gs' I' hq hb => back σ' H' s1 (s1.setGen s2.gens.size gs') false I' hq rfl (allBare_setGen I'.bare hb) fun _ _ e => e)
      (m0 + 1) _ ⟨_, _, _, ga, rfl, rfl, rfl⟩ I5.nolimit ⟨.fresh (.compStart (.GeneratorExp elt [⟨tg, iter, [], 0⟩] scope gpos) 0 (.ref it) .none (genEnv scope (cloFrom X.env.cells scope.names []) h3.objs.size code builtinsNs X.env)), by simp, ?_⟩⟩
    refine ⟨rfl, ?_⟩
    have st5 := T.keep _ _ _ st3 fun b hb o e => k5 b o e
    have loop := fun s₀ => seg s₀ _ (Inv.gens I5 (allBare_setGen (g := s2.gens.size) (x := .running) I5.bare rfl)) st5
    show Seg _ X.A.in1.in1 _ _ _ _ _ ((compStart (.GeneratorExp elt [⟨tg, iter, [], 0⟩] scope gpos) 0 (.ref it) .none (genEnv scope (cloFrom X.env.cells scope.names []) h3.objs.size code builtinsNs X.env)).onRaise (leaving (genEnv scope (cloFrom X.env.cells scope.names []) h3.objs.size code builtinsNs X.env))) [] _
    unfold compStart
    rw [Sem.onRaise_eq_wrap]
    refine seg_bind_wrap (wpAny_askSetting ?_)
    split
    · exact seg_again rfl (loop _)
    · refine seg_bind_wrap (wpAny_rule ?_)
      show Seg _ _ _ _ _ _ _ ((standAt iter.pos >>= _).wrap _ _ _ _) [] _
      exact seg_bind_wrap (wpAny_standAt (seg_bind_wrap (T.self _ 0 _ _ _ st5 (seg_again rfl (loop _)))))
  cases hf : codeAmong gpos ps.toList with
  | none =>
    refine wpAny_genexprCodeX hcode (cd.code hPs ht) (cd.tab hPs) hf fun c' h' tk hx hge hlt hco' _ htab' _ => ?_
    obtain ⟨o1, vs, f1, tf, fl, tg', inF, tx, tt, op, _, _, _, _, _, _, _, _, _, htr, _⟩ := hco'
    exact main _ h' tk _ hx (Nat.le_trans hge (Nat.le_of_lt hlt)) htab'.2 htr
  | some cv =>
    refine wpAny_genexprCode_hit hcode (cd.code hPs ht) hf ?_
    exact main cv s2.heap s2.toks #[] (Heap.ExtBut.refl _ _) (Nat.le_refl _) (by simpa using hPs) (by simpa using ht)
end
end Ev

set_option Elab.async false
set_option linter.all false
set_option maxRecDepth 100000
set_option maxHeartbeats 4000000
/-! Operators. -/
namespace Ev
open PySem PySem.Spec PyProof.Rows L2 Ow
section
variable {X : Cx} {Tb : List Addr}
/-- text * n -/
def strRep (z : Str) (n : Int) : Str := if n < 1 then Str.empty else ⟨(List.replicate n.toNat z.cps).foldl (· ++ ·) #[]⟩
theorem rep_len (a : Array Nat) : ∀ (k : Nat) (acc : Array Nat), ((List.replicate k a).foldl (· ++ ·) acc).size = acc.size + k * a.size
  | 0, acc => by simp
  | k + 1, acc => by
    rw [List.replicate_succ, List.foldl_cons, rep_len a k, Array.size_append, Nat.succ_mul]
    omega
theorem strRep_len (z : Str) (n : Int) : (strRep z n).length = n.toNat * z.length := by
  unfold strRep
  split
  · have : n.toNat = 0 := by omega
    rw [this, Nat.zero_mul]
    rfl
  · show ((List.replicate n.toNat z.cps).foldl (· ++ ·) #[]).size = _
    rw [rep_len]
    show 0 + _ = _
    rw [Nat.zero_add]
    rfl
theorem op_mulS : OpR X (binaryOp .Mult) (fun x y H Q => ∃ (z : Str) (n : Int), x = .str z ∧ y = .int n ∧ n ≤ 10000 ∧ 0 ≤ n ∧ z.length ≤ 1000 ∧ Q (.str (strRep z n)) H) := by
  intro pins s σ H x y v u Q I rx ry h
  obtain ⟨z, n, rfl, rfl, h1, h0, hz, q⟩ := h
  obtain ⟨t, rfl⟩ := rx
  obtain ⟨t', rfl⟩ := ry
  have line : (10000000 : Nat) ≤ sizeLine := by decide
  have small : z.length * n.toNat ≤ sizeLine := by
    have : z.length * n.toNat ≤ 1000 * 10000 := Nat.mul_le_mul hz (by omega)
    omega
  refine PySem.P.mul_str ?_ (fun h2 _ => ?_) (fun _ _ => decide_eq_false (by show ¬ (z.length * n.toNat > sizeLine); omega)) ?_
  · rw [decide_eq_false (by omega), decide_eq_false (by omega)]
    rfl
  · intro hh
    have h3 : (1000 : Int) ≤ (2 ^ 63 - 1) / n := by
      rw [Int.le_ediv_iff_mul_le (by omega)]
      have : ((2 : Int) ^ 63 - 1) = 9223372036854775807 := by decide
      omega
    omega
  · unfold strRep at q
    by_cases hn : n < 1
    · rw [if_pos hn] at q ⊢
      exact ⟨by decide, .str Str.empty, H, I.tok _, ⟨_, rfl⟩, q⟩
    · rw [if_neg hn] at q ⊢
      by_cases e : (n == 1 || z.length == 0) = true
      · rw [if_pos e]
        have e2 : (⟨(List.replicate n.toNat z.cps).foldl (· ++ ·) #[]⟩ : Str) = z := by
          by_cases e1 : n = 1
          · subst e1
            obtain ⟨c⟩ := z
            show (⟨#[] ++ c⟩ : Str) = ⟨c⟩
            rw [Array.empty_append]
          · have e0 : z.length = 0 := by
              rcases Bool.or_eq_true_iff.mp e with k | k
              · exact absurd (by simpa using k) e1
              · simpa using k
            obtain ⟨c⟩ := z
            have ec : c = #[] := Array.eq_empty_of_size_eq_zero e0
            subst ec
            have : ((List.replicate n.toNat (#[] : Array Nat)).foldl (· ++ ·) #[]) = #[] := by
              refine Array.eq_empty_of_size_eq_zero ?_
              rw [rep_len]
              rfl
            show (⟨(List.replicate n.toNat (#[] : Array Nat)).foldl (· ++ ·) #[]⟩ : Str) = ⟨#[]⟩
            rw [this]
        rw [e2] at q
        exact ⟨.str z, H, I, ⟨_, rfl⟩, q⟩
      · rw [if_neg e]
        refine ⟨?_, .str _, H, I.tok _, ⟨_, rfl⟩, q⟩
        show ((List.replicate n.toNat z.cps).foldl (· ++ ·) #[]).size ≤ sizeLine
        rw [rep_len]
        show 0 + n.toNat * z.length ≤ sizeLine
        rw [Nat.mul_comm n.toNat]
        omega
/-- two places of the store that hold lists -/
def o2 (o p : Option O) (k : List W → List W → Prop) : Prop := match o, p with
  | some (.lst a), some (.lst b) => k a b
  | _, _ => False
def wAdd : R2W := fun x y S Q => match x, y with
  | .int i, .int j => Q (.int (i + j)) S
  | .str a, .str b => a.length + b.length ≤ sizeLine ∧ Q (.str (a ++ b)) S
  | .tup a, .tup b => a.length + b.length ≤ sizeLine ∧ Q (.tup (a ++ b)) S
  | .ref m, .ref n => o2 S[m]? S[n]? fun a b => a.length + b.length ≤ sizeLine ∧ Q (.ref S.length) (S ++ [.lst (a ++ b)])
  | _, _ => False
def rAdd (K : PySem.W.Frag) : R2 := fun x y H Q => rI0 (fun i j => .int (i + j)) x y H Q ∨ (∃ i j, x = .str i ∧ y = .str j ∧ i.length + j.length ≤ sizeLine ∧ Q (.str (i ++ j)) H) ∨ rCatA K x y H Q ∨ rCat x y H Q
theorem op_addW : OpR X (binaryOp .Add) (rAdd X.K) := OpR.or op_add (OpR.or op_add_str (OpR.or op_catA op_cat))
theorem o2_mono {o p : Option O} {k k' : List W → List W → Prop} (h : ∀ a b, k a b → k' a b) (q : o2 o p k) : o2 o p k' := by
  unfold o2 at q ⊢
  split at q
  · exact h _ _ q
  · exact q.elim
theorem o2_some {o p : Option O} {k : List W → List W → Prop} (q : o2 o p k) : ∃ a b, o = some (.lst a) ∧ p = some (.lst b) ∧ k a b := by
  unfold o2 at q
  split at q
  · exact ⟨_, _, rfl, rfl, q⟩
  · exact q.elim
theorem mo_add : MonoO wAdd := fun x y S Q Q' k h => by
  unfold wAdd at h ⊢
  split at h
  · exact k _ _ h
  · exact ⟨h.1, k _ _ h.2⟩
  · exact ⟨h.1, k _ _ h.2⟩
  · exact o2_mono (fun a b z => ⟨z.1, k _ _ z.2⟩) h
  · exact h.elim
theorem rl_add {K : PySem.W.Frag} : RL K Tb (rAdd K) wAdd := fun ι S H w1 w2 v1 v2 Q Qv s r1 r2 h k => by
  unfold wAdd at h
  split at h
  · obtain rfl : v1 = _ := r1
    obtain rfl : v2 = _ := r2
    exact .inl ⟨_, _, rfl, rfl, k ι S H _ _ h s Grow.refl rfl⟩
  · obtain rfl : v1 = _ := r1
    obtain rfl : v2 = _ := r2
    exact .inr (.inl ⟨_, _, rfl, rfl, h.1, k ι S H _ _ h.2 s Grow.refl rfl⟩)
  · obtain ⟨a, xs, rfl, ha, ra⟩ := r1
    obtain ⟨b, ys, rfl, hb, rb⟩ := r2
    refine .inr (.inr (.inl ⟨a, b, xs, ys, rfl, rfl, ha, hb, by rw [ra.len, rb.len]; exact h.1, fun e => ?_, fun e1 e2 => ?_, fun e1 e2 p np => ?_⟩))
    · subst e
      exact k ι S H _ _ h.2 s Grow.refl ⟨b, _, rfl, hb, ra.app rb⟩
    · subst e2
      refine k ι S H _ _ h.2 s Grow.refl ⟨a, xs ++ [], rfl, by rw [List.append_nil]; exact ha, ra.app rb⟩
    · obtain ⟨s2, g2⟩ := s.tup (xs := xs ++ ys) np
      exact k ι S _ _ _ h.2 s2 g2 ⟨p, _, rfl, SqT.of upd_same, (ra.app rb).grow g2⟩
  · obtain ⟨a, b, ea, eb, h1, h2⟩ := o2_some h
    obtain ⟨p, hp, rfl⟩ := r1
    obtain ⟨q, hq, rfl⟩ := r2
    obtain ⟨xs, e1, ra⟩ := lst_at s hp ea
    obtain ⟨ys, e2, rb⟩ := lst_at s hq eb
    refine .inr (.inr (.inr ⟨p, q, xs, ys, rfl, rfl, e1, e2, by rw [ra.len, rb.len]; exact h1, fun c nc => ?_⟩))
    obtain ⟨ι2, s2, g2, r2⟩ := newL s (ra.app rb) nc
    exact k ι2 _ _ _ _ h2 s2 g2 r2
  · exact h.elim
def wInt (f : Int → Int → Int) (C : Int → Int → Prop) : R2W := fun x y S Q => match x, y with
  | .int i, .int j => C i j ∧ Q (.int (f i j)) S
  | _, _ => False
theorem mo_int {f : Int → Int → Int} {C : Int → Int → Prop} : MonoO (wInt f C) := fun x y S Q Q' k h => by
  unfold wInt at h ⊢
  split at h
  · exact ⟨h.1, k _ _ h.2⟩
  · exact h.elim
theorem rl_int {K : PySem.W.Frag} {f : Int → Int → Int} {C : Int → Int → Prop} : RL K Tb (rI C fun i j => .int (f i j)) (wInt f C) := fun ι S H w1 w2 v1 v2 Q Qv s r1 r2 h k => by
  unfold wInt at h
  split at h
  · obtain rfl : v1 = _ := r1
    obtain rfl : v2 = _ := r2
    exact ⟨_, _, rfl, rfl, h.1, k ι S H _ _ h.2 s Grow.refl rfl⟩
  · exact h.elim
theorem opr_true {f : Value → Value → Sem Value} {g : Int → Int → V} (h : OpR X f (rI0 g)) : OpR X f (rI (fun _ _ => True) g) := fun pins s σ H x y v u Q I rx ry ⟨i, j, e1, e2, _, q⟩ => h pins s σ H x y v u Q I rx ry ⟨i, j, e1, e2, q⟩
abbrev wSub : R2W := wInt (fun i j => i - j) fun _ _ => True
abbrev wMod : R2W := wInt (fun i j => i % j) fun _ j => 0 < j
abbrev wFdiv : R2W := wInt (fun i j => i / j) CDiv
abbrev wPow : R2W := wInt (fun i j => i ^ j.toNat) CPow
def wMul : R2W := fun x y S Q => match x, y with
  | .int i, .int j => CMul i j ∧ Q (.int (i * j)) S
  | .str z, .int n => (n ≤ 10000 ∧ 0 ≤ n ∧ z.length ≤ 1000) ∧ Q (.str (strRep z n)) S
  | _, _ => False
def rMul : R2 := fun x y H Q => rI CMul (fun i j => .int (i * j)) x y H Q ∨ (∃ (z : Str) (n : Int), x = .str z ∧ y = .int n ∧ n ≤ 10000 ∧ 0 ≤ n ∧ z.length ≤ 1000 ∧ Q (.str (strRep z n)) H)
theorem mo_mul : MonoO wMul := fun x y S Q Q' k h => by
  unfold wMul at h ⊢
  split at h
  · exact ⟨h.1, k _ _ h.2⟩
  · exact ⟨h.1, k _ _ h.2⟩
  · exact h.elim
theorem rl_mul {K : PySem.W.Frag} : RL K Tb rMul wMul := fun ι S H w1 w2 v1 v2 Q Qv s r1 r2 h k => by
  unfold wMul at h
  split at h
  · obtain rfl : v1 = _ := r1
    obtain rfl : v2 = _ := r2
    exact .inl ⟨_, _, rfl, rfl, h.1, k ι S H _ _ h.2 s Grow.refl rfl⟩
  · obtain rfl : v1 = _ := r1
    obtain rfl : v2 = _ := r2
    exact .inr ⟨_, _, rfl, rfl, h.1.1, h.1.2.1, h.1.2.2, k ι S H _ _ h.2 s Grow.refl rfl⟩
  · exact h.elim
variable {a b e : Expr} {ma mb m : ME} {pos : Pos}
theorem e_add (ha : EE X Tb a ma) (hb : EE X Tb b mb) : EE X Tb (.BinOp a .Add b pos) (mBin wAdd ma mb) := e_op op_addW rl_add mo_add ha hb
theorem e_sub (ha : EE X Tb a ma) (hb : EE X Tb b mb) : EE X Tb (.BinOp a .Sub b pos) (mBin wSub ma mb) := e_op (opr_true op_sub) rl_int mo_int ha hb
theorem e_mod (ha : EE X Tb a ma) (hb : EE X Tb b mb) : EE X Tb (.BinOp a .Mod b pos) (mBin wMod ma mb) := e_op op_mod rl_int mo_int ha hb
theorem e_fdiv (ha : EE X Tb a ma) (hb : EE X Tb b mb) : EE X Tb (.BinOp a .FloorDiv b pos) (mBin wFdiv ma mb) := e_op op_fdiv rl_int mo_int ha hb
theorem e_pow (ha : EE X Tb a ma) (hb : EE X Tb b mb) : EE X Tb (.BinOp a .Pow b pos) (mBin wPow ma mb) := e_op op_pow rl_int mo_int ha hb
theorem e_mul (ha : EE X Tb a ma) (hb : EE X Tb b mb) : EE X Tb (.BinOp a .Mult b pos) (mBin wMul ma mb) := e_op (OpR.or op_mul op_mulS) rl_mul mo_mul ha hb
theorem s_addI {i : Nat} {x : Str} {p : Pos} (hN : X.N.Nodup) (he : EE X Tb e m) (hi : X.N[i]? = some x := by rfl) (hx : Loc X.env.scope x := by first | exact Or.inl rfl | exact Or.inr rfl)
    (hf : X.fn x = true ∨ X.env.scope.names.lookup x = some .local := by first | exact .inl rfl | exact .inr rfl | assumption) : ES X Tb (.AugAssign (.Name x p) .Add e pos) (mAug i (wInt (fun i j => i + j) fun _ _ => True) m) := s_aug hN (opr_true iop_add) rl_int mo_int he hi hx hf
/-! ### comparisons -/
def wCmpI (f : Int → Int → Bool) (g : List Nat → List Nat → Bool) : R2W := fun x y S Q => match x, y with
  | .int i, .int j => Q (.bl (f i j)) S
  | .str a, .str b => Q (.bl (g a.cps.toList b.cps.toList)) S
  | _, _ => False
def rCmpI (f : Int → Int → Bool) (g : List Nat → List Nat → Bool) : R2 := fun x y H Q => rI0 (fun i j => .bl (f i j)) x y H Q ∨ ∃ i j, x = .str i ∧ y = .str j ∧ Q (.bl (g i.cps.toList j.cps.toList)) H
theorem mo_cmpI {f : Int → Int → Bool} {g : List Nat → List Nat → Bool} : MonoO (wCmpI f g) := fun x y S Q Q' k h => by
  unfold wCmpI at h ⊢
  split at h
  · exact k _ _ h
  · exact k _ _ h
  · exact h.elim
theorem rl_cmpI {K : PySem.W.Frag} {f : Int → Int → Bool} {g : List Nat → List Nat → Bool} : RL K Tb (rCmpI f g) (wCmpI f g) := fun ι S H w1 w2 v1 v2 Q Qv s r1 r2 h k => by
  unfold wCmpI at h
  split at h
  · obtain rfl : v1 = _ := r1
    obtain rfl : v2 = _ := r2
    exact .inl ⟨_, _, rfl, rfl, k ι S H _ _ h s Grow.refl rfl⟩
  · obtain rfl : v1 = _ := r1
    obtain rfl : v2 = _ := r2
    exact .inr ⟨_, _, rfl, rfl, k ι S H _ _ h s Grow.refl rfl⟩
  · exact h.elim
abbrev wLt : R2W := wCmpI (fun i j => decide (i < j)) fun a b => decide (a < b)
abbrev wGt : R2W := wCmpI (fun i j => decide (j < i)) fun a b => decide (b < a)
abbrev wLe : R2W := wCmpI (fun i j => decide (i ≤ j)) fun a b => !decide (b < a)
abbrev wGe : R2W := wCmpI (fun i j => decide (j ≤ i)) fun a b => !decide (a < b)
theorem op_ltW : OpR X (compareOp .Lt) (rCmpI (fun i j => decide (i < j)) fun a b => decide (a < b)) := OpR.or op_lt op_lt_str
theorem op_gtW : OpR X (compareOp .Gt) (rCmpI (fun i j => decide (j < i)) fun a b => decide (b < a)) := OpR.or op_gt op_gt_str
theorem op_leW : OpR X (compareOp .LtE) (rCmpI (fun i j => decide (i ≤ j)) fun a b => !decide (b < a)) := OpR.or op_le op_le_str
theorem op_geW : OpR X (compareOp .GtE) (rCmpI (fun i j => decide (j ≤ i)) fun a b => !decide (a < b)) := OpR.or op_ge op_ge_str
end
end Ev

set_option Elab.async false
set_option linter.all false
set_option maxRecDepth 100000
set_option maxHeartbeats 4000000
/-! Equality, in, subscripts, slices. -/
namespace Ev
open PySem PySem.Spec PyProof.Rows L2 Ow
/-! ### data -/
mutual
inductive DW (S : Store) : W → PyData → Prop
  | non : DW S .non .none
  | bl (b : Bool) : DW S (.bl b) (.bool b)
  | int (i : Int) : DW S (.int i) (.int i)
  | str (x : Str) : DW S (.str x) (.str x)
  | tup {l : List W} {ds : List PyData} : DWs S l ds → DW S (.tup l) (.tuple ds)
  | cl {l : List W} {ds : List PyData} : DWs S l ds → DW S (.cl l) (.list ds)
  | lst {n : Nat} {l : List W} {ds : List PyData} : S[n]? = some (.lst l) → DWs S l ds → DW S (.ref n) (.list ds)
inductive DWs (S : Store) : List W → List PyData → Prop
  | nil : DWs S [] []
  | cons {w : W} {l : List W} {d : PyData} {ds : List PyData} : DW S w d → DWs S l ds → DWs S (w :: l) (d :: ds)
end
section
variable {K : PySem.W.Frag} {Tb : List Addr} {ι : List Addr} {S : Store} {H : Hp}
mutual
theorem DW.dp (s : Sim K Tb ι S H) : ∀ {w : W} {d : PyData} {v : V}, DW S w d → VR K ι H w v → Dp K H v d
  | _, _, _, .non, r => by obtain rfl := r; exact .non
  | _, _, _, .bl b, r => by obtain rfl := r; exact .bl b
  | _, _, _, .int b, r => by obtain rfl := r; exact .int b
  | _, _, _, .str b, r => by obtain rfl := r; exact .str b
  | _, _, _, .tup h, r => by
    obtain ⟨a, vs, rfl, hq, rv⟩ := r
    exact .tup hq (DWs.dp s h rv)
  | _, _, _, .cl h, r => by
    obtain ⟨a, vs, rfl, hq, rv⟩ := r
    exact .lst hq.sq (DWs.dp s h rv)
  | _, _, _, .lst e h, r => by
    obtain ⟨a, ha, rfl⟩ := r
    obtain ⟨vs, e1, rv⟩ := lst_at s ha e
    exact .lst (SqL.of e1) (DWs.dp s h rv)
theorem DWs.dp (s : Sim K Tb ι S H) : ∀ {l : List W} {ds : List PyData} {vs : List V}, DWs S l ds → VRs K ι H l vs → DpAll K H vs ds
  | _, _, _, .nil, r => by obtain rfl := r; exact .nil
  | _, _, _, .cons h t, r => by
    obtain ⟨v, vs, rfl, r1, r2⟩ := r
    exact .cons (DW.dp s h r1) (DWs.dp s t r2)
end
end
def dEq (x y : W) (S : Store) (k : Bool → Prop) : Prop := ∃ d e, DW S x d ∧ DW S y e ∧ SeqAt.shaped d = true ∧ SeqAt.shaped e = true ∧ k (PyData.eqv d e)
def wEqN (neg : Bool) : R2W := fun x y S Q => match x, y with
  | .int i, .int j => Q (.bl (neg ^^ decide (i = j))) S
  | .str a, .str b => Q (.bl (neg ^^ decide (a = b))) S
  | .bl a, .bl b => Q (.bl (neg ^^ decide (a = b))) S
  | .non, .int _ => Q (.bl neg) S
  | .int _, .non => Q (.bl neg) S
  | .non, .str _ => Q (.bl neg) S
  | .str _, .non => Q (.bl neg) S
  | .int _, .str _ => Q (.bl neg) S
  | .str _, .int _ => Q (.bl neg) S
  | x, y => dEq x y S fun b => Q (.bl (neg ^^ b)) S
abbrev wEq : R2W := wEqN false
abbrev wNe : R2W := wEqN true
def rEqN (K : PySem.W.Frag) (neg : Bool) : R2 := fun x y H Q => (scal x y = true ∧ Q (.bl (neg ^^ decide (x = y))) H) ∨ ∃ d e, Dp K H x d ∧ Dp K H y e ∧ SeqAt.shaped d = true ∧ SeqAt.shaped e = true ∧ Q (.bl (neg ^^ PyData.eqv d e)) H
section
variable {X : Cx} {Tb : List Addr}
theorem op_eqW (hu : X.A.units + 64 < cLine) : OpR X (compareOp .Eq) (rEqN X.K false) := fun pins s σ H x y v u Q I rx ry h => by
  rcases h with ⟨h1, h2⟩ | ⟨d, e, h1, h2, h3, h4, h5⟩
  · exact op_eq pins s σ H x y v u Q I rx ry ⟨h1, by rwa [Bool.false_xor] at h2⟩
  · exact op_eqD hu pins s σ H x y v u Q I rx ry ⟨d, e, h1, h2, h3, h4, by rwa [Bool.false_xor] at h5⟩
theorem op_neW (hu : X.A.units + 64 < cLine) : OpR X (compareOp .NotEq) (rEqN X.K true) := fun pins s σ H x y v u Q I rx ry h => by
  rcases h with ⟨h1, h2⟩ | ⟨d, e, h1, h2, h3, h4, h5⟩
  · exact op_ne pins s σ H x y v u Q I rx ry ⟨h1, by rwa [Bool.true_xor] at h2⟩
  · exact op_neD hu pins s σ H x y v u Q I rx ry ⟨d, e, h1, h2, h3, h4, by rwa [Bool.true_xor] at h5⟩
theorem dEq_mono {x y : W} {S : Store} {k k' : Bool → Prop} (h : ∀ b, k b → k' b) (q : dEq x y S k) : dEq x y S k' := by
  obtain ⟨d, e, h1, h2, h3, h4, h5⟩ := q
  exact ⟨d, e, h1, h2, h3, h4, h _ h5⟩
theorem mo_eq {neg : Bool} : MonoO (wEqN neg) := fun x y S Q Q' k h => by
  unfold wEqN at h ⊢
  split at h
  case h_10 => exact dEq_mono (fun b z => k _ _ z) h
  all_goals exact k _ _ h
theorem dec_ne {x y : V} (h : x ≠ y) {neg : Bool} : (neg ^^ decide (x = y)) = neg := by rw [decide_eq_false h, Bool.xor_false]
theorem rl_eq {K : PySem.W.Frag} {neg : Bool} : RL K Tb (rEqN K neg) (wEqN neg) := fun ι S H w1 w2 v1 v2 Q Qv s r1 r2 h k => by
  unfold wEqN at h
  split at h
  case h_10 =>
    obtain ⟨d, e, h1, h2, h3, h4, h5⟩ := h
    exact .inr ⟨d, e, h1.dp s r1, h2.dp s r2, h3, h4, k ι S H _ _ h5 s Grow.refl rfl⟩
  case h_1 =>
    obtain rfl : v1 = _ := r1
    obtain rfl : v2 = _ := r2
    refine .inl ⟨rfl, k ι S H _ _ h s Grow.refl ?_⟩
    show V.bl _ = V.bl _
    rw [show decide (V.int _ = V.int _) = decide (_ = _) from decide_eq_decide.mpr ⟨fun e => by injection e, fun e => by rw [e]⟩]
  case h_2 =>
    obtain rfl : v1 = _ := r1
    obtain rfl : v2 = _ := r2
    refine .inl ⟨rfl, k ι S H _ _ h s Grow.refl ?_⟩
    show V.bl _ = V.bl _
    rw [show decide (V.str _ = V.str _) = decide (_ = _) from decide_eq_decide.mpr ⟨fun e => by injection e, fun e => by rw [e]⟩]
  case h_3 =>
    obtain rfl : v1 = _ := r1
    obtain rfl : v2 = _ := r2
    refine .inl ⟨rfl, k ι S H _ _ h s Grow.refl ?_⟩
    show V.bl _ = V.bl _
    rw [show decide (V.bl _ = V.bl _) = decide (_ = _) from decide_eq_decide.mpr ⟨fun e => by injection e, fun e => by rw [e]⟩]
  all_goals
    obtain rfl : v1 = _ := r1
    obtain rfl : v2 = _ := r2
    refine .inl ⟨rfl, k ι S H _ _ h s Grow.refl ?_⟩
    show V.bl _ = V.bl _
    rw [dec_ne (by intro z; cases z)]
variable {a b e : Expr} {ma mb m : ME} {pos : Pos}
/-! ### is None, is True -/
def wIsN (neg : Bool) : R2W := fun x y S Q => match x, y with
  | .non, .non => Q (.bl (!neg)) S
  | _, .non => Q (.bl neg) S
  | .bl a, .bl b => Q (.bl (neg ^^ decide (a = b))) S
  | _, _ => False
def rIsN (neg : Bool) : R2 := fun x y H Q => (y = .non ∧ Q (.bl (neg ^^ decide (x = .non))) H) ∨ ∃ a b : Bool, x = .bl a ∧ y = .bl b ∧ Q (.bl (neg ^^ decide (a = b))) H
theorem op_isW : OpR X (compareOp .Is) (rIsN false) := fun pins s σ H x y v u Q I rx ry h => by
  rcases h with ⟨h1, h2⟩ | ⟨a, b, h1, h2, h3⟩
  · exact op_isN pins s σ H x y v u Q I rx ry ⟨h1, by rwa [Bool.false_xor] at h2⟩
  · exact op_isBl pins s σ H x y v u Q I rx ry ⟨a, b, h1, h2, by rwa [Bool.false_xor] at h3⟩
theorem op_isnotW : OpR X (compareOp .IsNot) (rIsN true) := fun pins s σ H x y v u Q I rx ry h => by
  rcases h with ⟨h1, h2⟩ | ⟨a, b, h1, h2, h3⟩
  · exact op_notN pins s σ H x y v u Q I rx ry ⟨h1, by rwa [Bool.true_xor] at h2⟩
  · exact op_notBl pins s σ H x y v u Q I rx ry ⟨a, b, h1, h2, by rwa [Bool.true_xor] at h3⟩
theorem mo_isN {neg : Bool} : MonoO (wIsN neg) := fun x y S Q Q' k h => by
  unfold wIsN at h ⊢
  split at h
  case h_4 => exact h.elim
  all_goals exact k _ _ h
theorem VR.non {K : PySem.W.Frag} {ι : List Addr} {H : Hp} {w : W} (r : VR K ι H w .non) : w = .non := by
  cases w with
  | non => rfl
  | bl b => cases r
  | int b => cases r
  | str b => cases r
  | ty b => cases r
  | adr b => cases r
  | ref n => obtain ⟨_, _, e⟩ := r; cases e
  | tup n => obtain ⟨_, _, e, _⟩ := r; cases e
  | cl n => obtain ⟨_, _, e, _⟩ := r; cases e
theorem rl_isN {K : PySem.W.Frag} {neg : Bool} : RL K Tb (rIsN neg) (wIsN neg) := fun ι S H w1 w2 v1 v2 Q Qv s r1 r2 h k => by
  unfold wIsN at h
  split at h
  · obtain rfl : v1 = _ := r1
    obtain rfl : v2 = _ := r2
    refine .inl ⟨rfl, k ι S H _ _ h s Grow.refl ?_⟩
    show V.bl _ = V.bl _
    rw [decide_eq_true rfl, Bool.xor_true]
  · rename_i hn
    obtain rfl : v2 = _ := r2
    have ne : v1 ≠ .non := fun e => by
      subst e
      exact hn (VR.non r1)
    refine .inl ⟨rfl, k ι S H _ _ h s Grow.refl ?_⟩
    show V.bl _ = V.bl _
    rw [dec_ne ne]
  · obtain rfl : v1 = _ := r1
    obtain rfl : v2 = _ := r2
    exact .inr ⟨_, _, rfl, rfl, k ι S H _ _ h s Grow.refl rfl⟩
  · exact h.elim
/-! ### in -/
def flatW : W → Bool
  | .non => true
  | .bl _ => true
  | .int _ => true
  | .str _ => true
  | _ => false
def toV : W → V
  | .bl b => .bl b
  | .int i => .int i
  | .str x => .str x
  | _ => .non
theorem VR.flat {K : PySem.W.Frag} {ι : List Addr} {H : Hp} {w : W} {v : V} (r : VR K ι H w v) (f : flatW w = true) : v = toV w ∧ flatV v = true := by
  cases w with
  | non => obtain rfl : v = _ := r; exact ⟨rfl, rfl⟩
  | bl b => obtain rfl : v = _ := r; exact ⟨rfl, rfl⟩
  | int b => obtain rfl : v = _ := r; exact ⟨rfl, rfl⟩
  | str b => obtain rfl : v = _ := r; exact ⟨rfl, rfl⟩
  | _ => cases f
theorem VRs.flat {K : PySem.W.Frag} {ι : List Addr} {H : Hp} : ∀ {l : List W} {vs : List V}, VRs K ι H l vs → l.all flatW = true → vs = l.map toV ∧ vs.all flatV = true
  | [], _, h, _ => by rw [h]; exact ⟨rfl, rfl⟩
  | w :: l, _, ⟨v, r, e, h, t⟩, f => by
    rw [List.all_cons, Bool.and_eq_true] at f
    obtain ⟨e1, f1⟩ := VR.flat h f.1
    obtain ⟨e2, f2⟩ := t.flat f.2
    rw [e, List.all_cons, f1, f2]
    exact ⟨by rw [List.map_cons, e1, ← e2], rfl⟩
def valW {κ : Type} [DecidableEq κ] (l : List (κ × W)) (k : κ) : Option W := (l.find? fun kv => decide (kv.1 = k)).map (·.2)
def putW {κ : Type} [DecidableEq κ] (l : List (κ × W)) (k : κ) (v : W) : List (κ × W) :=
  if (l.any fun kv => decide (kv.1 = k)) = true then l.map (fun kv => if kv.1 = k then (kv.1, v) else kv) else l ++ [(k, v)]
/-- a value as a key -/
def keyW : W → Option Key
  | .int i => some (.inl i)
  | .str x => some (.inr x)
  | _ => none
def keysW : List W → Option (List Key)
  | [] => some []
  | w :: l => match keyW w, keysW l with
    | some k, some r => some (k :: r)
    | _, _ => none
/-- x in the object o -/
def oIn (x : W) (o : Option O) (k : Bool → Prop) : Prop := match o with
  | some (.lst l) => (flatW x = true ∧ l.all flatW = true) ∧ k (inV (toV x) (l.map toV))
  | some (.dK l) => match keyW x with
    | some y => k (valW l y).isSome
    | none => False
  | some (.fK l) => match keyW x with
    | some y => k (valW l y).isSome
    | none => False
  | _ => False
def inStr (x z : Str) : Bool := if x.length = 1 then decide (x.cps.toList.getD 0 0 ∈ z.cps.toList) else !(Builtin.Str.occurrences z x 0 z.length 1).isEmpty
def wInN (neg : Bool) : R2W := fun x y S Q => match y with
  | .tup l => (flatW x = true ∧ l.all flatW = true) ∧ Q (.bl (neg ^^ inV (toV x) (l.map toV))) S
  | .cl l => (flatW x = true ∧ l.all flatW = true) ∧ Q (.bl (neg ^^ inV (toV x) (l.map toV))) S
  | .str z => match x with
    | .str u => Q (.bl (neg ^^ inStr u z)) S
    | _ => False
  | .ref n => oIn x S[n]? fun b => Q (.bl (neg ^^ b)) S
  | _ => False
abbrev wIn : R2W := wInN false
abbrev wNotIn : R2W := wInN true
def rInN (K : PySem.W.Frag) (neg : Bool) : R2 := fun x y H Q => (∃ p xs, y = .ref p ∧ (SqL K H p xs ∨ SqT K H p xs) ∧ flatV x = true ∧ xs.all flatV = true ∧ Q (.bl (neg ^^ inV x xs)) H) ∨
  (∃ i j, x = .str i ∧ y = .str j ∧ Q (.bl (neg ^^ inStr i j)) H) ∨ ∃ a o, y = .ref a ∧ DGet H a x o ∧ Q (.bl (neg ^^ o.isSome)) H
theorem inStr_one {i j : Str} (h : i.length = 1) : ∃ c, i = ⟨#[c]⟩ ∧ inStr i j = decide (c ∈ j.cps.toList) := by
  obtain ⟨⟨l⟩⟩ := i
  match l, h with
  | [c], _ => exact ⟨c, rfl, rfl⟩
theorem inStr_any {i j : Str} (h : ¬ i.length = 1) : inStr i j = !(Builtin.Str.occurrences j i 0 j.length 1).isEmpty := if_neg h
theorem op_inW (hu : X.A.units + 1 < cLine) : OpR X (compareOp .In) (rInN X.K false) := fun pins s σ H x y v u Q I rx ry h => by
  rcases h with ⟨p, xs, e, h1, h2, h3, q⟩ | ⟨i, j, e1, e2, q⟩ | ⟨a, o, e, g, q⟩
  · exact op_in_seq pins s σ H x y v u Q I rx ry ⟨p, xs, e, h1, h2, h3, by rw [Bool.false_xor] at q; exact q⟩
  · rw [Bool.false_xor] at q
    by_cases hl : i.length = 1
    · obtain ⟨c, ec, ei⟩ := inStr_one (j := j) hl
      subst ec
      rw [ei] at q
      exact op_in_sign pins s σ H x y v u Q I rx ry ⟨c, j, e1, e2, q⟩
    · rw [inStr_any hl] at q
      exact op_in_str pins s σ H x y v u Q I rx ry ⟨i, j, e1, e2, q⟩
  · subst e
    obtain rfl : u = Value.ref a := ry
    exact d_in hu I g rx fun s' I' => ⟨.bl o.isSome, H, I', rfl, by rw [Bool.false_xor] at q; exact q⟩
theorem op_notInW (hu : X.A.units + 1 < cLine) : OpR X (compareOp .NotIn) (rInN X.K true) := fun pins s σ H x y v u Q I rx ry h => by
  rcases h with ⟨p, xs, e, h1, h2, h3, q⟩ | ⟨i, j, e1, e2, q⟩ | ⟨a, o, e, g, q⟩
  · exact op_notIn_seq pins s σ H x y v u Q I rx ry ⟨p, xs, e, h1, h2, h3, by rw [Bool.true_xor] at q; exact q⟩
  · rw [Bool.true_xor] at q
    by_cases hl : i.length = 1
    · obtain ⟨c, ec, ei⟩ := inStr_one (j := j) hl
      subst ec
      rw [ei] at q
      exact op_notIn_sign pins s σ H x y v u Q I rx ry ⟨c, j, e1, e2, q⟩
    · rw [inStr_any hl] at q
      exact op_notIn_str pins s σ H x y v u Q I rx ry ⟨i, j, e1, e2, q⟩
  · subst e
    obtain rfl : u = Value.ref a := ry
    exact d_notIn hu I g rx fun s' I' => ⟨.bl !o.isSome, H, I', rfl, by rw [Bool.true_xor] at q; exact q⟩
theorem oIn_mono {x : W} {o : Option O} {k k' : Bool → Prop} (h : ∀ b, k b → k' b) (q : oIn x o k) : oIn x o k' := by
  unfold oIn at q ⊢
  repeat' split at q
  all_goals first
    | exact q.elim
    | exact ⟨q.1, h _ q.2⟩
    | (first | exact h _ q | (simp only [*]; exact h _ q))
theorem mo_in {neg : Bool} : MonoO (wInN neg) := fun x y S Q Q' k h => by
  unfold wInN at h ⊢
  cases y with
  | tup l => exact ⟨h.1, k _ _ h.2⟩
  | cl l => exact ⟨h.1, k _ _ h.2⟩
  | str z =>
    cases x with
    | str u => exact k _ _ h
    | _ => exact h.elim
  | ref n => exact oIn_mono (fun b z => k _ _ z) h
  | _ => exact h.elim
theorem valW_map {κ : Type} [DecidableEq κ] {K : PySem.W.Frag} {ι : List Addr} {H : Hp} : ∀ {l : List (κ × W)} {kvs : List (κ × V)}, kvs.map (·.1) = l.map (·.1) → VRs K ι H (l.map (·.2)) (kvs.map (·.2)) → ∀ k : κ,
    (valW l k = none ∧ valV kvs k = none) ∨ ∃ w v, valW l k = some w ∧ valV kvs k = some v ∧ VR K ι H w v
  | [], [], _, _, _ => .inl ⟨rfl, rfl⟩
  | [], _ :: _, h, _, _ => by cases h
  | _ :: _, [], h, _, _ => by cases h
  | p :: l, q :: kvs, h, r, k => by
    rw [List.map_cons, List.map_cons] at h r
    injection h with h1 h2
    obtain ⟨v, vs, e, r1, r2⟩ := r
    injection e with e1 e2
    subst e1
    subst e2
    by_cases c : p.1 = k
    · refine .inr ⟨p.2, q.2, by simp [valW, List.find?_cons, c], by simp [valV, List.find?_cons, h1, c], r1⟩
    · have a1 : valW (p :: l) k = valW l k := by simp [valW, List.find?_cons, c]
      have a2 : valV (q :: kvs) k = valV kvs k := by simp [valV, List.find?_cons, h1, c]
      rw [a1, a2]
      exact valW_map h2 r2 k
theorem valW_some {κ : Type} [DecidableEq κ] {K : PySem.W.Frag} {ι : List Addr} {H : Hp} {l : List (κ × W)} {kvs : List (κ × V)} (h : kvs.map (·.1) = l.map (·.1)) (r : VRs K ι H (l.map (·.2)) (kvs.map (·.2))) (k : κ) : (valV kvs k).isSome = (valW l k).isSome := by
  rcases valW_map h r k with ⟨a, b⟩ | ⟨w, v, a, b, _⟩
  · rw [a, b]
    rfl
  · rw [a, b]
    rfl
theorem keyW_v {K : PySem.W.Frag} {ι : List Addr} {H : Hp} {w : W} {v : V} {k : Key} (r : VR K ι H w v) (h : keyW w = some k) : v = kV k := by
  cases w with
  | int i => obtain rfl : v = _ := r; cases h; rfl
  | str i => obtain rfl : v = _ := r; cases h; rfl
  | _ => cases h
theorem keysW_v {K : PySem.W.Frag} {ι : List Addr} {H : Hp} : ∀ {l : List W} {vs : List V} {ks : List Key}, VRs K ι H l vs → keysW l = some ks → vs = ks.map kV
  | [], _, _, r, h => by
    obtain rfl := r
    cases h
    rfl
  | w :: l, _, ks, ⟨v, vs, e, r1, r2⟩, h => by
    unfold keysW at h
    split at h
    · rename_i k r hk hr
      cases h
      rw [e, List.map_cons, keyW_v r1 hk, keysW_v r2 hr]
    · cases h
theorem dget_of {K : PySem.W.Frag} {ι : List Addr} {H : Hp} {x : W} {v : V} {a : Addr} {kvs : List (Key × V)} {k : Key} (e : Rd H a (.dK kvs)) (r : VR K ι H x v) (hk : keyW x = some k) : DGet H a v (valV kvs k) :=
  .inl ⟨kvs, k, e, keyW_v r hk, rfl⟩
theorem keyW_match {x : W} {k : Key → Prop} (h : match keyW x with
    | some y => k y
    | none => False) : ∃ y, keyW x = some y ∧ k y := by
  split at h
  · exact ⟨_, by assumption, h⟩
  · exact h.elim
theorem rl_in {K : PySem.W.Frag} {neg : Bool} : RL K Tb (rInN K neg) (wInN neg) := fun ι S H w1 w2 v1 v2 Q Qv s r1 r2 h k => by
  unfold wInN at h
  cases w2 with
  | tup l =>
    obtain ⟨a, vs, rfl, hq, rv⟩ := r2
    obtain ⟨e1, f1⟩ := VR.flat r1 h.1.1
    obtain ⟨e2, f2⟩ := rv.flat h.1.2
    refine .inl ⟨a, vs, rfl, .inr hq, f1, f2, k ι S H _ _ h.2 s Grow.refl ?_⟩
    rw [e1, e2]
    rfl
  | cl l =>
    obtain ⟨a, vs, rfl, hq, rv⟩ := r2
    obtain ⟨e1, f1⟩ := VR.flat r1 h.1.1
    obtain ⟨e2, f2⟩ := rv.flat h.1.2
    refine .inl ⟨a, vs, rfl, .inl hq.sq, f1, f2, k ι S H _ _ h.2 s Grow.refl ?_⟩
    rw [e1, e2]
    rfl
  | str z =>
    cases w1 with
    | str u =>
      obtain rfl : v1 = _ := r1
      obtain rfl : v2 = _ := r2
      exact .inr (.inl ⟨u, z, rfl, rfl, k ι S H _ _ h s Grow.refl rfl⟩)
    | _ => exact h.elim
  | ref n =>
    obtain ⟨a, ha, rfl⟩ := r2
    obtain ⟨o, ho, q⟩ := s.there ha
    dsimp only at h
    rw [ho] at h
    cases o with
    | lst l =>
      obtain ⟨vs, e, rv⟩ := q
      obtain ⟨e1, f1⟩ := VR.flat r1 h.1.1
      obtain ⟨e2, f2⟩ := rv.flat h.1.2
      refine .inl ⟨a, vs, rfl, .inl (SqL.of e), f1, f2, k ι S H _ _ h.2 s Grow.refl ?_⟩
      rw [e1, e2]
      rfl
    | dK l =>
      obtain ⟨kvs, e, e1, rv⟩ := q
      obtain ⟨y, hy, h⟩ := keyW_match h
      refine .inr (.inr ⟨a, _, rfl, dget_of (.inl e) r1 hy, k ι S H _ _ h s Grow.refl ?_⟩)
      show V.bl _ = V.bl _
      rw [valW_some e1 rv]
    | fK l =>
      obtain ⟨ob, kvs, e, e1, rv⟩ := q
      obtain ⟨y, hy, h⟩ := keyW_match h
      refine .inr (.inr ⟨a, _, rfl, dget_of (.inr ⟨ob, e⟩) r1 hy, k ι S H _ _ h s Grow.refl ?_⟩)
      show V.bl _ = V.bl _
      rw [valW_some e1 rv]
    | dT l => exact h.elim
    | ins C fs => exact h.elim
  | _ => exact h.elim
theorem e_lt (ha : EE X Tb a ma) (hb : EE X Tb b mb) : EE X Tb (.Compare a [.Lt] [b] pos) (mBin wLt ma mb) := e_cmp op_ltW rl_cmpI mo_cmpI ha hb
theorem e_gt (ha : EE X Tb a ma) (hb : EE X Tb b mb) : EE X Tb (.Compare a [.Gt] [b] pos) (mBin wGt ma mb) := e_cmp op_gtW rl_cmpI mo_cmpI ha hb
theorem e_le (ha : EE X Tb a ma) (hb : EE X Tb b mb) : EE X Tb (.Compare a [.LtE] [b] pos) (mBin wLe ma mb) := e_cmp op_leW rl_cmpI mo_cmpI ha hb
theorem e_ge (ha : EE X Tb a ma) (hb : EE X Tb b mb) : EE X Tb (.Compare a [.GtE] [b] pos) (mBin wGe ma mb) := e_cmp op_geW rl_cmpI mo_cmpI ha hb
theorem e_eq (hu : X.A.units + 64 < cLine) (ha : EE X Tb a ma) (hb : EE X Tb b mb) : EE X Tb (.Compare a [.Eq] [b] pos) (mBin wEq ma mb) := e_cmp (op_eqW hu) rl_eq mo_eq ha hb
theorem e_ne (hu : X.A.units + 64 < cLine) (ha : EE X Tb a ma) (hb : EE X Tb b mb) : EE X Tb (.Compare a [.NotEq] [b] pos) (mBin wNe ma mb) := e_cmp (op_neW hu) rl_eq mo_eq ha hb
theorem e_is (ha : EE X Tb a ma) (hb : EE X Tb b mb) : EE X Tb (.Compare a [.Is] [b] pos) (mBin (wIsN false) ma mb) := e_cmp op_isW rl_isN mo_isN ha hb
theorem e_isnot (ha : EE X Tb a ma) (hb : EE X Tb b mb) : EE X Tb (.Compare a [.IsNot] [b] pos) (mBin (wIsN true) ma mb) := e_cmp op_isnotW rl_isN mo_isN ha hb
theorem e_in (hu : X.A.units + 1 < cLine) (ha : EE X Tb a ma) (hb : EE X Tb b mb) (hm : behindInMarks .In b = false := by rfl) : EE X Tb (.Compare a [.In] [b] pos) (mBin wIn ma mb) := e_cmp (op_inW hu) rl_in mo_in ha hb hm
theorem e_notin (hu : X.A.units + 1 < cLine) (ha : EE X Tb a ma) (hb : EE X Tb b mb) (hm : behindInMarks .NotIn b = false := by rfl) : EE X Tb (.Compare a [.NotIn] [b] pos) (mBin wNotIn ma mb) := e_cmp (op_notInW hu) rl_in mo_in ha hb hm
theorem t_lt (ha : EE X Tb a ma) (hb : EE X Tb b mb) : ET X Tb (.Compare a [.Lt] [b] pos) (mTest (mBin wLt ma mb)) := t_cmp op_ltW rl_cmpI mo_cmpI ha hb
theorem t_gt (ha : EE X Tb a ma) (hb : EE X Tb b mb) : ET X Tb (.Compare a [.Gt] [b] pos) (mTest (mBin wGt ma mb)) := t_cmp op_gtW rl_cmpI mo_cmpI ha hb
theorem t_le (ha : EE X Tb a ma) (hb : EE X Tb b mb) : ET X Tb (.Compare a [.LtE] [b] pos) (mTest (mBin wLe ma mb)) := t_cmp op_leW rl_cmpI mo_cmpI ha hb
theorem t_ge (ha : EE X Tb a ma) (hb : EE X Tb b mb) : ET X Tb (.Compare a [.GtE] [b] pos) (mTest (mBin wGe ma mb)) := t_cmp op_geW rl_cmpI mo_cmpI ha hb
theorem t_eq (hu : X.A.units + 64 < cLine) (ha : EE X Tb a ma) (hb : EE X Tb b mb) : ET X Tb (.Compare a [.Eq] [b] pos) (mTest (mBin wEq ma mb)) := t_cmp (op_eqW hu) rl_eq mo_eq ha hb
theorem t_ne (hu : X.A.units + 64 < cLine) (ha : EE X Tb a ma) (hb : EE X Tb b mb) : ET X Tb (.Compare a [.NotEq] [b] pos) (mTest (mBin wNe ma mb)) := t_cmp (op_neW hu) rl_eq mo_eq ha hb
theorem t_is (ha : EE X Tb a ma) (hb : EE X Tb b mb) : ET X Tb (.Compare a [.Is] [b] pos) (mTest (mBin (wIsN false) ma mb)) := t_cmp op_isW rl_isN mo_isN ha hb
theorem t_isnot (ha : EE X Tb a ma) (hb : EE X Tb b mb) : ET X Tb (.Compare a [.IsNot] [b] pos) (mTest (mBin (wIsN true) ma mb)) := t_cmp op_isnotW rl_isN mo_isN ha hb
theorem t_in (hu : X.A.units + 1 < cLine) (ha : EE X Tb a ma) (hb : EE X Tb b mb) (hm : behindInMarks .In b = false := by rfl) : ET X Tb (.Compare a [.In] [b] pos) (mTest (mBin wIn ma mb)) := t_cmp (op_inW hu) rl_in mo_in ha hb hm
theorem t_notin (hu : X.A.units + 1 < cLine) (ha : EE X Tb a ma) (hb : EE X Tb b mb) (hm : behindInMarks .NotIn b = false := by rfl) : ET X Tb (.Compare a [.NotIn] [b] pos) (mTest (mBin wNotIn ma mb)) := t_cmp (op_notInW hu) rl_in mo_in ha hb hm
end
end Ev

set_option Elab.async false
set_option linter.all false
set_option maxRecDepth 100000
set_option maxHeartbeats 4000000
/-! Subscripts, slices, methods, built-ins. -/
namespace Ev
open PySem PySem.Spec PyProof.Rows L2 Ow
def oW {α : Type} (o : Option α) (k : α → Prop) : Prop := match o with
  | some w => k w
  | none => False
def oL (o : Option O) (k : List W → Prop) : Prop := match o with
  | some (.lst l) => k l
  | _ => False
def oD (o : Option O) (k : List (Key × W) → Prop) : Prop := match o with
  | some (.dK l) => k l
  | _ => False
theorem oW_some {α : Type} {o : Option α} {k : α → Prop} (h : oW o k) : ∃ w, o = some w ∧ k w := by
  cases o with
  | none => exact h.elim
  | some w => exact ⟨w, rfl, h⟩
theorem oW_mono {α : Type} {o : Option α} {k k' : α → Prop} (f : ∀ w, k w → k' w) (h : oW o k) : oW o k' := by
  cases o with
  | none => exact h.elim
  | some w => exact f _ h
theorem oL_some {o : Option O} {k : List W → Prop} (h : oL o k) : ∃ l, o = some (.lst l) ∧ k l := by
  unfold oL at h
  split at h
  · exact ⟨_, rfl, h⟩
  · exact h.elim
theorem oL_mono {o : Option O} {k k' : List W → Prop} (f : ∀ w, k w → k' w) (h : oL o k) : oL o k' := by
  obtain ⟨l, e, q⟩ := oL_some h
  subst e
  exact f _ q
theorem oD_some {o : Option O} {k : List (Key × W) → Prop} (h : oD o k) : ∃ l, o = some (.dK l) ∧ k l := by
  unfold oD at h
  split at h
  · exact ⟨_, rfl, h⟩
  · exact h.elim
theorem oD_mono {o : Option O} {k k' : List (Key × W) → Prop} (f : ∀ w, k w → k' w) (h : oD o k) : oD o k' := by
  obtain ⟨l, e, q⟩ := oD_some h
  subst e
  exact f _ q
/-- the item at i, from the end below 0 -/
def wAt {α : Type} (l : List α) (i : Int) : Option α := if 0 ≤ i then l[i.toNat]? else if -(l.length : Int) ≤ i then l[(i + l.length).toNat]? else none
theorem wAt_nat {α : Type} {l : List α} {i : Int} (h : 0 ≤ i) : wAt l i = l[i.toNat]? := if_pos h
theorem wAt_atI {α : Type} (l : List α) (i : Int) : wAt l i = atI l i := by
  unfold wAt atI ixN
  by_cases h0 : 0 ≤ i
  · rw [if_pos h0, if_pos h0]
    by_cases h1 : i < (l.length : Int)
    · rw [if_pos h1]
      rfl
    · rw [if_neg h1, List.getElem?_eq_none (by omega)]
      rfl
  · rw [if_neg h0, if_neg h0]
    by_cases h1 : -(l.length : Int) ≤ i
    · rw [if_pos h1, if_pos h1]
      rfl
    · rw [if_neg h1, if_neg h1]
      rfl
theorem VRs.atI {K : PySem.W.Frag} {ι : List Addr} {H : Hp} {l : List W} {vs : List V} {i : Int} {w : W} (r : VRs K ι H l vs) (h : wAt l i = some w) : ∃ v, L2.atI vs i = some v ∧ VR K ι H w v := by
  rw [wAt_atI] at h
  unfold L2.atI at h ⊢
  rw [r.len]
  cases e : ixN l.length i with
  | none => rw [e] at h; cases h
  | some j =>
    rw [e] at h
    exact r.at h
/-- o[y] -/
def oIx (y : W) (o : Option O) (k : W → Prop) : Prop := match o with
  | some (.lst l) => match y with
    | .int i => oW (wAt l i) k
    | _ => False
  | some (.dK l) => oW (keyW y) fun c => oW (valW l c) k
  | some (.fK l) => oW (keyW y) fun c => oW (valW l c) k
  | _ => False
def wIx : R2W := fun x y S Q => match x with
  | .tup l => match y with
    | .int i => oW (wAt l i) fun w => Q w S
    | _ => False
  | .cl l => match y with
    | .int i => oW (wAt l i) fun w => Q w S
    | _ => False
  | .str z => match y with
    | .int i => z.length ≤ sizeLine ∧ oW (wAt z.cps.toList i) fun c => Q (signW c) S
    | _ => False
  | .ref n => oIx y S[n]? fun w => Q w S
  | _ => False
def rIxW (K : PySem.W.Frag) : R2 := fun x y H Q => rIx K x y H Q ∨ ∃ a v, x = .ref a ∧ DGet H a y (some v) ∧ Q v H
theorem oIx_mono {y : W} {o : Option O} {k k' : W → Prop} (f : ∀ w, k w → k' w) (h : oIx y o k) : oIx y o k' := by
  unfold oIx at h ⊢
  split at h
  · cases y with
    | int i => exact oW_mono f h
    | _ => exact h.elim
  · exact oW_mono (fun c z => oW_mono f z) h
  · exact oW_mono (fun c z => oW_mono f z) h
  · exact h.elim
theorem mo_ix : MonoO wIx := fun x y S Q Q' k h => by
  unfold wIx at h ⊢
  cases x with
  | tup l =>
    cases y with
    | int i => exact oW_mono (fun w z => k _ _ z) h
    | _ => exact h.elim
  | cl l =>
    cases y with
    | int i => exact oW_mono (fun w z => k _ _ z) h
    | _ => exact h.elim
  | str z =>
    cases y with
    | int i => exact ⟨h.1, oW_mono (fun w z => k _ _ z) h.2⟩
    | _ => exact h.elim
  | ref n => exact oIx_mono (fun w z => k _ _ z) h
  | _ => exact h.elim
section
variable {X : Cx} {Tb : List Addr}
theorem ix_dgetW (hu : X.A.units + 1 < cLine) : IxR X (fun x y H Q => ∃ a v, x = .ref a ∧ DGet H a y (some v) ∧ Q v H) := by
  intro value slice pins s σ H x y v u Q I rx ry h hs
  obtain ⟨a, r, rfl, g, q⟩ := h
  obtain rfl : v = Value.ref a := rx
  exact tail_any (dict_typeIs I g) PySem.F.slot_dict_getitem.lookup (d_getItem hu I g ry fun w' s3 I3 rw' => ⟨r, H, I3, rw', q⟩) hs
theorem rl_ix {K : PySem.W.Frag} : RL K Tb (rIxW K) wIx := fun ι S H w1 w2 v1 v2 Q Qv s r1 r2 h k => by
  unfold wIx at h
  cases w1 with
  | tup l =>
    cases w2 with
    | int i =>
      obtain ⟨w, e, h⟩ := oW_some h
      obtain ⟨a, vs, rfl, hq, rv⟩ := r1
      obtain rfl : v2 = _ := r2
      obtain ⟨v, e1, r⟩ := rv.atI e
      exact .inl (.inr (.inl ⟨a, vs, i, v, rfl, rfl, hq, e1, k ι S H _ _ h s Grow.refl r⟩))
    | _ => exact h.elim
  | cl l =>
    cases w2 with
    | int i =>
      obtain ⟨w, e, h⟩ := oW_some h
      obtain ⟨a, vs, rfl, hq, rv⟩ := r1
      obtain rfl : v2 = _ := r2
      obtain ⟨v, e1, r⟩ := rv.atI e
      exact .inl (.inl ⟨a, vs, i, v, rfl, rfl, hq.sq, e1, k ι S H _ _ h s Grow.refl r⟩)
    | _ => exact h.elim
  | str z =>
    cases w2 with
    | int i =>
      obtain ⟨hz, h⟩ := h
      obtain ⟨c, e, h⟩ := oW_some h
      obtain rfl : v1 = _ := r1
      obtain rfl : v2 = _ := r2
      rw [wAt_atI] at e
      exact .inl (.inr (.inr ⟨z, i, c, rfl, rfl, hz, e, k ι S H _ _ h s Grow.refl rfl⟩))
    | _ => exact h.elim
  | ref n =>
    obtain ⟨a, ha, rfl⟩ := r1
    obtain ⟨o, ho, q⟩ := s.there ha
    dsimp only at h
    rw [ho] at h
    cases o with
    | lst l =>
      obtain ⟨vs, e, rv⟩ := q
      cases w2 with
      | int i =>
        obtain ⟨w, ew, h⟩ := oW_some h
        obtain rfl : v2 = _ := r2
        obtain ⟨v, e1, r⟩ := rv.atI ew
        exact .inl (.inl ⟨a, vs, i, v, rfl, rfl, SqL.of e, e1, k ι S H _ _ h s Grow.refl r⟩)
      | _ => exact h.elim
    | dK l =>
      obtain ⟨kvs, e, e1, rv⟩ := q
      obtain ⟨c, ec, h⟩ := oW_some h
      obtain ⟨w, ew, h⟩ := oW_some h
      rcases valW_map e1 rv c with ⟨z, _⟩ | ⟨w', v, z1, z2, r⟩
      · rw [z] at ew
        cases ew
      · rw [z1] at ew
        cases ew
        have g := dget_of (.inl e) r2 ec
        rw [z2] at g
        exact .inr ⟨a, v, rfl, g, k ι S H _ _ h s Grow.refl r⟩
    | fK l =>
      obtain ⟨ob, kvs, e, e1, rv⟩ := q
      obtain ⟨c, ec, h⟩ := oW_some h
      obtain ⟨w, ew, h⟩ := oW_some h
      rcases valW_map e1 rv c with ⟨z, _⟩ | ⟨w', v, z1, z2, r⟩
      · rw [z] at ew
        cases ew
      · rw [z1] at ew
        cases ew
        have g := dget_of (.inr ⟨ob, e⟩) r2 ec
        rw [z2] at g
        exact .inr ⟨a, v, rfl, g, k ι S H _ _ h s Grow.refl r⟩
    | dT l => exact h.elim
    | ins C fs => exact h.elim
  | _ => exact h.elim
variable {a b e o i : Expr} {es : List Expr} {ma mb m mo mi : ME} {mr : MA} {pos : Pos}
theorem e_ix (hu : X.A.units + 1 < cLine) (ha : EE X Tb a ma) (hb : EE X Tb b mb) (hs : PlainIx b := by exact fun _ _ => rfl) : EE X Tb (.Subscript a b pos) (mBin wIx ma mb) :=
  ⟨pe_imp (pe_ix (IxR.or ix_seq (ix_dgetW hu)) ha.pe hb.pe hs) fun σ H Q h => lift2 rl_ix mo_ix ha hb h, mBin_mono mo_ix ha.mono hb.mono⟩
/-! ### slices -/
abbrev MO := EvS → Store → (Option Int → Store → Prop) → Prop
structure EO (X : Cx) (Tb : List Addr) (e : Option Expr) (m : MO) : Prop where
  po : PO X e (fun σ H Q => ∃ ι env S, Sim X.K Tb ι S H ∧ ER X.K ι H env σ ∧ m env S fun z S' => ∀ ι' H', Sim X.K Tb ι' S' H' → Grow X.K ι H ι' H' → Q z H')
  mono : ∀ (env : EvS) (S : Store) (Q Q' : Option Int → Store → Prop), (∀ w S', Q w S' → Q' w S') → m env S Q → m env S Q'
def mNoP : MO := fun _ S Q => Q none S
def mP (m : ME) : MO := fun env S Q => m env S fun w S1 => match w with
  | .int i => Q (some i) S1
  | _ => False
theorem po_imp {e : Option Expr} {t t' : TO} (h : PO X e t) (k : ∀ σ H Q, t' σ H Q → t σ H Q) : PO X e t' := ⟨fun pins s σ H Q I q => h.run pins s σ H Q I (k σ H Q q)⟩
theorem o_none : EO X Tb none mNoP := ⟨po_imp po_none fun σ H Q ⟨ι, env, S, s, er, h⟩ => h ι H s Grow.refl, fun _ _ _ _ k h => k _ _ h⟩
theorem o_some (h : EE X Tb e m) : EO X Tb (some e) (mP m) := by
  refine ⟨po_imp (po_some h.pe) fun σ H Q q => ?_, fun env S Q Q' k q => h.mono _ _ _ _ (fun w S1 z => ?_) q⟩
  · obtain ⟨ι, env, S, s, er, q⟩ := q
    refine ⟨ι, env, S, s, er, h.mono _ _ _ _ (fun w S1 z ι1 H1 v s1 g1 r1 => ?_) q⟩
    cases w with
    | int i =>
      obtain rfl : v = _ := r1
      exact ⟨i, rfl, z ι1 H1 s1 g1⟩
    | _ => exact z.elim
  · cases w with
    | int i => exact k _ _ z
    | _ => exact z.elim
def cutG {α : Type} (xs : List α) (lo hi : Option Int) : List α := (xs.drop (HT.sIx xs.length 0 lo)).take (HT.sIx xs.length xs.length hi - HT.sIx xs.length 0 lo)
theorem cutG_v (xs : List V) (lo hi : Option Int) : cutG xs lo hi = cutV xs lo hi := rfl
theorem VRs.cut {K : PySem.W.Frag} {ι : List Addr} {H : Hp} {l : List W} {vs : List V} (r : VRs K ι H l vs) (lo hi : Option Int) : VRs K ι H (cutG l lo hi) (cutV vs lo hi) := by
  unfold cutG cutV
  rw [r.len]
  exact (r.drop _).take _
def wSl (x : W) (lo hi : Option Int) (S : Store) (Q : WK) : Prop := match x with
  | .tup l => Q (.tup (cutG l lo hi)) S
  | .cl l => Q (.ref S.length) (S ++ [.lst (cutG l lo hi)])
  | .str z => z.length ≤ sizeLine ∧ Q (.str (cutS z lo hi)) S
  | .ref n => oL S[n]? fun l => Q (.ref S.length) (S ++ [.lst (cutG l lo hi)])
  | _ => False
def mSl (m : ME) (x y : MO) : ME := fun env S Q => m env S fun w S1 => x env S1 fun lo S2 => y env S2 fun hi S3 => wSl w lo hi S3 Q
theorem wSl_mono {x : W} {lo hi : Option Int} {S : Store} {Q Q' : WK} (k : ∀ w S', Q w S' → Q' w S') (h : wSl x lo hi S Q) : wSl x lo hi S Q' := by
  unfold wSl at h ⊢
  cases x with
  | tup l => exact k _ _ h
  | cl l => exact k _ _ h
  | str z => exact ⟨h.1, k _ _ h.2⟩
  | ref n => exact oL_mono (fun l z => k _ _ z) h
  | _ => exact h.elim
theorem cut_whole {l : List V} {lo hi : Option Int} (h : HT.sIx l.length 0 lo = 0 ∧ HT.sIx l.length l.length hi = l.length) : cutV l lo hi = l := by
  unfold cutV
  rw [h.1, h.2, List.drop_zero, Nat.sub_zero, List.take_length]
theorem e_slice {lo hi : Option Expr} {x y : MO} {p2 : Pos} (he : EE X Tb e m) (hl : EO X Tb lo x) (hh : EO X Tb hi y) : EE X Tb (.Subscript e (.Slice lo hi none p2) pos) (mSl m x y) := by
  refine ⟨pe_imp (pe_slice (SlR.or sl_tupA (SlR.or sl_list sl_str)) he.pe hl.po hh.po) fun σ H Q h => ?_, fun env S Q Q' k h => he.mono _ _ _ _ (fun w S1 q1 => hl.mono _ _ _ _ (fun l S2 q2 => hh.mono _ _ _ _ (fun u S3 q3 => wSl_mono k q3) q2) q1) h⟩
  obtain ⟨ι, env, S, s, er, h⟩ := h
  refine ⟨ι, env, S, s, er, he.mono _ _ _ _ (fun w S1 q1 ι1 H1 v s1 g1 r1 => ?_) h⟩
  refine ⟨ι1, env, S1, s1, er.grow g1, hl.mono _ _ _ _ (fun l S2 q2 ι2 H2 s2 g2 => ?_) q1⟩
  refine ⟨ι2, env, S2, s2, (er.grow g1).grow g2, hh.mono _ _ _ _ (fun u S3 q3 ι3 H3 s3 g3 => ?_) q2⟩
  have r3 := VR.grow g3 w (VR.grow g2 w r1)
  have gg := (g1.trans g2).trans g3
  unfold wSl at q3
  cases w with
  | tup ws =>
    obtain ⟨a, vs, rfl, hq, rv⟩ := r3
    refine .inl ⟨a, vs, rfl, hq, fun hw => ?_, fun hw p np => ?_⟩
    · refine q3 ι3 H3 _ s3 gg ⟨a, vs, rfl, hq, ?_⟩
      have := rv.cut l u
      rw [cut_whole hw] at this
      exact this
    · obtain ⟨s4, g4⟩ := s3.tup (xs := cutV vs l u) np
      exact q3 ι3 _ _ s4 (gg.trans g4) ⟨p, _, rfl, SqT.of upd_same, (rv.cut l u).grow g4⟩
  | cl ws =>
    obtain ⟨a, vs, rfl, hq, rv⟩ := r3
    refine .inr (.inl ⟨a, vs, rfl, hq.sq, fun p np => ?_⟩)
    obtain ⟨ι4, s4, g4, r4⟩ := newL s3 (rv.cut l u) np
    exact q3 ι4 _ _ s4 (gg.trans g4) r4
  | str z =>
    obtain rfl : v = _ := r3
    exact .inr (.inr ⟨z, rfl, q3.1, q3.2 ι3 H3 _ s3 gg rfl⟩)
  | ref n =>
    obtain ⟨a, ha, rfl⟩ := r3
    obtain ⟨ws, ew, q3⟩ := oL_some q3
    obtain ⟨vs, e, rv⟩ := lst_at s3 ha ew
    refine .inr (.inl ⟨a, vs, rfl, SqL.of e, fun p np => ?_⟩)
    obtain ⟨ι4, s4, g4, r4⟩ := newL s3 (rv.cut l u) np
    exact q3 ι4 _ _ s4 (gg.trans g4) r4
  | _ => exact q3.elim
/-! ### methods of lists -/
def isLst (w : W) (S : Store) : Prop := match w with
  | .ref n => oL S[n]? fun _ => True
  | _ => False
abbrev RMW := W → List W → Store → WK → Prop
def ML (K : PySem.W.Frag) (Tb : List Addr) (r : V → List V → Hp → VK → Prop) (op : RMW) : Prop :=
  ∀ (ι : List Addr) (S : Store) (H : Hp) (w : W) (v : V) (ws : List W) (vs : List V) (Q : WK) (Qv : VK), Sim K Tb ι S H → VR K ι H w v → VRs K ι H ws vs → op w ws S Q →
    (∀ ι' S' H' w v, Q w S' → Sim K Tb ι' S' H' → Grow K ι H ι' H' → VR K ι' H' w v → Qv v H') → r v vs H Qv
abbrev MonoM (op : RMW) : Prop := ∀ (x : W) (ws : List W) (S : Store) (Q Q' : WK), (∀ w S', Q w S' → Q' w S') → op x ws S Q → op x ws S Q'
def mBM (op : RMW) (mo : ME) (ma : MA) : ME := fun env S Q => mo env S fun w S1 => isLst w S1 ∧ ma env S1 fun ws S2 => op w ws S2 Q
def mBM0 (op : RMW) (mo : ME) : ME := fun env S Q => mo env S fun w S1 => isLst w S1 ∧ op w [] S1 Q
theorem lst_ty {K : PySem.W.Frag} {ι : List Addr} {S : Store} {H : Hp} {w : W} {v : V} (s : Sim K Tb ι S H) (r : VR K ι H w v) (h : isLst w S) : tyV K "list" v H := by
  unfold isLst at h
  cases w with
  | ref n =>
    obtain ⟨a, ha, rfl⟩ := r
    obtain ⟨l, e, _⟩ := oL_some h
    obtain ⟨vs, e1, _⟩ := lst_at s ha e
    exact .inl ⟨rfl, _, SqL.of e1⟩
  | _ => exact h.elim
theorem e_bm {r : V → List V → Hp → VK → Prop} {op : RMW} {name : Str} {id : String} {apos cpos : Pos} (slot : Slot "list" name id) (hty : typeOf (.builtin id) = pure (.type "method_descriptor")) (hm : MtR X id r) (hr : ML X.K Tb r op) (mm : MonoM op) (ho : EE X Tb o mo) (ha : EA X Tb (e :: es) mr)
    (hbase : attributeBase o name X.env (eval o X.env) = eval o X.env := by rfl)
    (hfew : ((backTo cpos (starEach (e :: es) X.env)).all (fun x => !x.1) && (backToKw cpos (keywordEach [] X.env)).all (fun x => x.1.isSome)
      && decide ((e :: es).length + ([] : List Keyword).length + (if ([] : List Keyword).isEmpty then 0 else 1) < 30)) = true := by rfl)
    (hline : (apos.endLine == cpos.line) = true := by rfl) (hs : starEach (e :: es) X.env = (false, eval e X.env) :: starEach es X.env := by rfl) (hplain : (backTo cpos (starEach es X.env)).any (·.1) = false := by rfl) :
    EE X Tb (.Call (.Attribute o name apos) (e :: es) [] cpos) (mBM op mo mr) := by
  refine ⟨pe_imp (pe_bm PySem.F.plainAttrs_list slot hty hm ho.pe ha.pa hbase hfew hline hs hplain) fun σ H Q h => ?_, fun env S Q Q' k h => ho.mono _ _ _ _ (fun w S1 z => ⟨z.1, ha.mono _ _ _ _ (fun ws S2 z2 => mm _ _ _ _ _ k z2) z.2⟩) h⟩
  obtain ⟨ι, env, S, s, er, h⟩ := h
  refine ⟨ι, env, S, s, er, ho.mono _ _ _ _ (fun w S1 z ι1 H1 v s1 g1 r1 => ⟨lst_ty s1 r1 z.1, ι1, env, S1, s1, er.grow g1, ha.mono _ _ _ _ (fun ws S2 z2 ι2 H2 vs s2 g2 r2 => ?_) z.2⟩) h⟩
  exact hr ι2 S2 H2 w v ws vs _ _ s2 (VR.grow g2 w r1) r2 z2 fun ι3 S3 H3 w3 v3 q3 s3 g3 r3 => q3 ι3 H3 v3 s3 ((g1.trans g2).trans g3) r3
theorem e_bm0 {r : V → List V → Hp → VK → Prop} {op : RMW} {name : Str} {id : String} {apos cpos : Pos} (slot : Slot "list" name id) (hty : typeOf (.builtin id) = pure (.type "method_descriptor")) (hm : MtR X id r) (hr : ML X.K Tb r op) (mm : MonoM op) (ho : EE X Tb o mo)
    (hbase : attributeBase o name X.env (eval o X.env) = eval o X.env := by rfl) (hline : (apos.endLine == cpos.line) = true := by rfl) : EE X Tb (.Call (.Attribute o name apos) [] [] cpos) (mBM0 op mo) := by
  refine ⟨pe_imp (pe_bm0 PySem.F.plainAttrs_list slot hty hm ho.pe hbase hline) fun σ H Q h => ?_, fun env S Q Q' k h => ho.mono _ _ _ _ (fun w S1 z => ⟨z.1, mm _ _ _ _ _ k z.2⟩) h⟩
  obtain ⟨ι, env, S, s, er, h⟩ := h
  refine ⟨ι, env, S, s, er, ho.mono _ _ _ _ (fun w S1 z ι1 H1 v s1 g1 r1 => ⟨lst_ty s1 r1 z.1, ?_⟩) h⟩
  exact hr ι1 S1 H1 w v [] [] _ _ s1 r1 rfl z.2 fun ι3 S3 H3 w3 v3 q3 s3 g3 r3 => q3 ι3 H3 v3 s3 (g1.trans g3) r3
def wAppend : RMW := fun w ws S Q => match w, ws with
  | .ref n, [x] => oL S[n]? fun l => l.length < sizeLine ∧ Q .non (S.set n (.lst (l ++ [x])))
  | _, _ => False
theorem mo_append : MonoM wAppend := fun x ws S Q Q' k h => by
  unfold wAppend at h ⊢
  split at h
  · exact oL_mono (fun l z => ⟨z.1, k _ _ z.2⟩) h
  · exact h.elim
theorem rl_append {K : PySem.W.Frag} : ML K Tb rAppend wAppend := fun ι S H w v ws vs Q Qv s r rs h k => by
  unfold wAppend at h
  split at h
  · obtain ⟨l, el, h1, h2⟩ := oL_some h
    obtain ⟨a, ha, rfl⟩ := r
    obtain ⟨x, t, rfl, rx, e⟩ := rs
    obtain rfl : t = [] := e
    obtain ⟨us, e1, ru⟩ := lst_at s ha el
    obtain ⟨s2, g2⟩ := setL s ha el (ru.app (VRs.one rx))
    exact ⟨a, us, x, rfl, rfl, e1, by rw [ru.len]; exact h1, k ι _ _ _ _ h2 s2 g2 rfl⟩
  · exact h.elim
theorem e_append {apos cpos : Pos} (ho : EE X Tb o mo) (ha : EA X Tb [e] mr) (hbase : attributeBase o "append" X.env (eval o X.env) = eval o X.env := by rfl)
    (hfew : ((backTo cpos (starEach [e] X.env)).all (fun x => !x.1) && (backToKw cpos (keywordEach [] X.env)).all (fun x => x.1.isSome)
      && decide ([e].length + ([] : List Keyword).length + (if ([] : List Keyword).isEmpty then 0 else 1) < 30)) = true := by rfl)
    (hline : (apos.endLine == cpos.line) = true := by rfl) (hs : starEach [e] X.env = (false, eval e X.env) :: starEach [] X.env := by rfl) (hplain : (backTo cpos (starEach [] X.env)).any (·.1) = false := by rfl) : EE X Tb (.Call (.Attribute o "append" apos) [e] [] cpos) (mBM wAppend mo mr) :=
  e_bm PySem.F.slot_list_append PySem.F.type_list_append mt_append rl_append mo_append ho ha hbase hfew hline hs hplain
def wPop : RMW := fun w ws S Q => match w, ws with
  | .ref n, [] => oL S[n]? fun l => oW l.getLast? fun y => Q y (S.set n (.lst l.dropLast))
  | _, _ => False
theorem mo_pop : MonoM wPop := fun x ws S Q Q' k h => by
  unfold wPop at h ⊢
  split at h
  · exact oL_mono (fun l z => oW_mono (fun y q => k _ _ q) z) h
  · exact h.elim
theorem rl_pop {K : PySem.W.Frag} : ML K Tb rPop wPop := fun ι S H w v ws vs Q Qv s r rs h k => by
  unfold wPop at h
  split at h
  · obtain ⟨l, el, h⟩ := oL_some h
    obtain ⟨y, ey, h⟩ := oW_some h
    obtain ⟨a, ha, rfl⟩ := r
    obtain rfl : vs = [] := rs
    obtain ⟨us, e1, ru⟩ := lst_at s ha el
    rw [List.getLast?_eq_getElem?] at ey
    obtain ⟨u, e2, r2⟩ := ru.at ey
    obtain ⟨s2, g2⟩ := setL s ha el ru.dropLast
    exact ⟨a, us, u, rfl, rfl, e1, by rw [ru.len]; exact e2, k ι _ _ _ _ h s2 g2 (VR.grow g2 y r2)⟩
  · exact h.elim
theorem e_pop {apos cpos : Pos} (ho : EE X Tb o mo) (hbase : attributeBase o "pop" X.env (eval o X.env) = eval o X.env := by rfl) (hline : (apos.endLine == cpos.line) = true := by rfl) : EE X Tb (.Call (.Attribute o "pop" apos) [] [] cpos) (mBM0 wPop mo) :=
  e_bm0 PySem.F.slot_list_pop PySem.F.type_list_pop mt_pop rl_pop mo_pop ho hbase hline
def wExtend : RMW := fun w ws S Q => match w, ws with
  | .ref n, [.ref m] => o2 S[n]? S[m]? fun a b => a.length + b.length ≤ sizeLine ∧ Q .non (S.set n (.lst (a ++ b)))
  | _, _ => False
theorem mo_extend : MonoM wExtend := fun x ws S Q Q' k h => by
  unfold wExtend at h ⊢
  split at h
  · exact o2_mono (fun a b z => ⟨z.1, k _ _ z.2⟩) h
  · exact h.elim
theorem rl_extend {K : PySem.W.Frag} : ML K Tb rExtend wExtend := fun ι S H w v ws vs Q Qv s r rs h k => by
  unfold wExtend at h
  split at h
  · obtain ⟨a, b, ea, eb, h1, h2⟩ := o2_some h
    obtain ⟨p, hp, rfl⟩ := r
    obtain ⟨x, t, rfl, ⟨q, hq, rfl⟩, e⟩ := rs
    obtain rfl : t = [] := e
    obtain ⟨xs, e1, ra⟩ := lst_at s hp ea
    obtain ⟨ys, e2, rb⟩ := lst_at s hq eb
    obtain ⟨s2, g2⟩ := setL s hp ea (ra.app rb)
    exact ⟨p, q, xs, ys, rfl, rfl, e1, e2, by rw [ra.len, rb.len]; exact h1, k ι _ _ _ _ h2 s2 g2 rfl⟩
  · exact h.elim
theorem e_extend {apos cpos : Pos} (ho : EE X Tb o mo) (ha : EA X Tb [e] mr) (hbase : attributeBase o "extend" X.env (eval o X.env) = eval o X.env := by rfl)
    (hfew : ((backTo cpos (starEach [e] X.env)).all (fun x => !x.1) && (backToKw cpos (keywordEach [] X.env)).all (fun x => x.1.isSome)
      && decide ([e].length + ([] : List Keyword).length + (if ([] : List Keyword).isEmpty then 0 else 1) < 30)) = true := by rfl)
    (hline : (apos.endLine == cpos.line) = true := by rfl) (hs : starEach [e] X.env = (false, eval e X.env) :: starEach [] X.env := by rfl) (hplain : (backTo cpos (starEach [] X.env)).any (·.1) = false := by rfl) : EE X Tb (.Call (.Attribute o "extend" apos) [e] [] cpos) (mBM wExtend mo mr) :=
  e_bm PySem.F.slot_list_extend PySem.F.type_list_extend mt_extend rl_extend mo_extend ho ha hbase hfew hline hs hplain
/-! ### o[i] = e -/
def wSet (o i v : W) (S : Store) (k : Store → Prop) : Prop := match o with
  | .ref n => match S[n]? with
    | some (.lst l) => match i with
      | .int j => oW (ixN l.length j) fun c => k (S.set n (.lst (l.set c v)))
      | _ => False
    | some (.dK l) => oW (keyW i) fun c => l.length < sizeLine ∧ k (S.set n (.dK (putW l c v)))
    | _ => False
  | _ => False
theorem wSet_mono {o i v : W} {S : Store} {k k' : Store → Prop} (f : ∀ S', k S' → k' S') (h : wSet o i v S k) : wSet o i v S k' := by
  unfold wSet at h ⊢
  cases o with
  | ref n =>
    dsimp only at h ⊢
    split at h
    · cases i with
      | int j => exact oW_mono (fun c z => f _ z) h
      | _ => exact h.elim
    · exact oW_mono (fun c z => ⟨z.1, f _ z.2⟩) h
    · exact h.elim
  | _ => exact h.elim
def mgSub (mo mi : ME) : MG := fun w env S Q => mo env S fun ow S1 => mi env S1 fun iw S2 => wSet ow iw w S2 fun S3 => Q env S3
def rSetW : TSet := fun o i v H Q => rSetL o i v H Q ∨ ∃ a H', o = .ref a ∧ DPut H a i v H' ∧ Q H'
theorem set_any (hu : X.A.units + 1 < cLine) : PSet X rSetW := fun pins s σ H o i v ov iv u Q I ro ri rv h => by
  rcases h with h | ⟨a, H', e, g, q⟩
  · exact set_list pins s σ H o i v ov iv u Q I ro ri rv h
  · subst e
    obtain rfl : ov = Value.ref a := ro
    exact d_setItem hu I g ri rv fun s4 I4 => ⟨H', I4, q⟩
theorem putW_map {κ : Type} [DecidableEq κ] {K : PySem.W.Frag} {ι : List Addr} {H : Hp} {l : List (κ × W)} {kvs : List (κ × V)} (h : kvs.map (·.1) = l.map (·.1)) (r : VRs K ι H (l.map (·.2)) (kvs.map (·.2))) (k : κ) {w : W} {v : V} (rw' : VR K ι H w v) :
    (putK kvs k v).map (·.1) = (putW l k w).map (·.1) ∧ VRs K ι H ((putW l k w).map (·.2)) ((putK kvs k v).map (·.2)) := by
  have ea : (kvs.any fun kv => decide (kv.1 = k)) = l.any fun kv => decide (kv.1 = k) := by
    have e1 : (kvs.any fun kv => decide (kv.1 = k)) = (kvs.map (·.1)).any fun c => decide (c = k) := by rw [List.any_map]; rfl
    have e2 : (l.any fun kv => decide (kv.1 = k)) = (l.map (·.1)).any fun c => decide (c = k) := by rw [List.any_map]; rfl
    rw [e1, e2, h]
  unfold putK putW
  rw [ea]
  by_cases c : (l.any fun kv => decide (kv.1 = k)) = true
  · rw [if_pos c, if_pos c]
    clear ea c
    induction l generalizing kvs with
    | nil =>
      cases kvs with
      | nil => exact ⟨rfl, rfl⟩
      | cons p t => cases h
    | cons p l ih =>
      cases kvs with
      | nil => cases h
      | cons q kvs =>
        rw [List.map_cons, List.map_cons] at h
        injection h with h1 h2
        obtain ⟨u, us, e, r1, r2⟩ := r
        injection e with e1 e2
        subst e1
        subst e2
        obtain ⟨i1, i2⟩ := ih h2 r2
        simp only [List.map_cons]
        by_cases c : p.1 = k
        · rw [if_pos c, if_pos (h1.trans c)]
          exact ⟨by rw [i1, h1], _, _, rfl, rw', i2⟩
        · rw [if_neg c, if_neg (by rw [h1]; exact c)]
          exact ⟨by rw [i1, h1], _, _, rfl, r1, i2⟩
  · rw [if_neg c, if_neg c, List.map_append, List.map_append, List.map_append, List.map_append, h]
    exact ⟨rfl, r.app (VRs.one rw')⟩
theorem setD {K : PySem.W.Frag} {ι : List Addr} {S : Store} {H : Hp} {n : Nat} {a : Addr} {l : List (Key × W)} {kvs0 kvs : List (Key × V)} (s : Sim K Tb ι S H) (ha : ι[n]? = some a) (e0 : H a = some (.dK kvs0)) (h : kvs.map (·.1) = l.map (·.1)) (r : VRs K ι H (l.map (·.2)) (kvs.map (·.2))) :
    Sim K Tb ι (S.set n (.dK l)) (upd H a (.dK kvs)) ∧ Grow K ι H ι (upd H a (.dK kvs)) :=
  s.set ha (fun ob v z => by rw [e0] at z; cases z) fun H' g e' => ⟨kvs, e', h, r.grow g⟩
theorem ixN_len {n m : Nat} (h : n = m) (j : Int) : ixN n j = ixN m j := by rw [h]
theorem g_sub (hu : X.A.units + 1 < cLine) (ho : EE X Tb o mo) (hi : EE X Tb i mi) (ha : ∀ v, assign (.Subscript o i pos) X.env v = (do
      let ov ← holding [v] (eval o X.env)
      let iv ← holding [v, ov] (eval i X.env)
      standAt pos
      holding [v, ov, iv] (setItem ov iv v)
      release [v, ov, iv] []) := by intro _; rfl) : EG X Tb (.Subscript o i pos) (mgSub mo mi) := by
  refine ⟨pg_imp (pg_sub ho.pe hi.pe (set_any hu) ha) fun v σ H Q h => ?_, fun w env S Q Q' k h => ho.mono _ _ _ _ (fun x S1 q1 => hi.mono _ _ _ _ (fun y S2 q2 => wSet_mono (fun S3 z => k _ _ z) q2) q1) h⟩
  obtain ⟨ι, env, S, w, s, er, r, h⟩ := h
  refine ⟨ι, env, S, s, er, ho.mono _ _ _ _ (fun x S1 q1 ι1 H1 vx s1 g1 r1 => ⟨ι1, env, S1, s1, er.grow g1, hi.mono _ _ _ _ (fun y S2 q2 ι2 H2 vy s2 g2 r2 => ?_) q1⟩) h⟩
  have rx := VR.grow g2 x r1
  have rw' := VR.grow g2 w (VR.grow g1 w r)
  have er2 := (er.grow g1).grow g2
  unfold wSet at q2
  cases x with
  | ref n =>
    obtain ⟨a, ha, rfl⟩ := rx
    obtain ⟨ob, hob, q⟩ := s2.there ha
    dsimp only at q2
    rw [hob] at q2
    cases ob with
    | lst l =>
      cases y with
      | int j =>
        obtain ⟨c, ec, q2⟩ := oW_some q2
        obtain ⟨vs, e, rv⟩ := q
        obtain rfl : vy = _ := r2
        obtain ⟨s3, g3⟩ := setL s2 ha hob (rv.set c rw')
        exact .inl ⟨a, vs, j, c, rfl, rfl, e, by rw [ixN_len rv.len]; exact ec, q2 ι2 _ _ s3 ((g1.trans g2).trans g3) (er2.grow g3)⟩
      | _ => exact q2.elim
    | dK l =>
      obtain ⟨c, ec, h1, q2⟩ := oW_some q2
      obtain ⟨kvs, e, e1, rv⟩ := q
      obtain ⟨p1, p2⟩ := putW_map e1 rv c rw'
      obtain ⟨s3, g3⟩ := setD s2 ha e p1 p2
      have hl : kvs.length = l.length := by
        have := congrArg List.length e1
        rwa [List.length_map, List.length_map] at this
      refine .inr ⟨a, _, rfl, .inl ⟨kvs, c, e, keyW_v r2 ec, by rw [hl]; exact h1, rfl⟩, q2 ι2 _ _ s3 ((g1.trans g2).trans g3) (er2.grow g3)⟩
    | _ => exact q2.elim
  | _ => exact q2.elim
end
end Ev

set_option Elab.async false
set_option linter.all false
set_option maxRecDepth 100000
set_option maxHeartbeats 4000000
/-! Built-in functions. -/
namespace Ev
open PySem PySem.Spec PyProof.Rows L2 Ow
theorem callR_or {X : Cx} {f : Value} {r r' : List V → Hp → VK → Prop} (h : CallR X f r) (h' : CallR X f r') : CallR X f (fun xs H Q => r xs H Q ∨ r' xs H Q) := fun pins s σ H xs us Q I rv q =>
  q.elim (h pins s σ H xs us Q I rv) (h' pins s σ H xs us Q I rv)
section
variable {X : Cx} {Tb : List Addr}
/-! ### len -/
def oLen (o : Option O) (k : Nat → Prop) : Prop := match o with
  | some (.lst l) => k l.length
  | some (.dK l) => k l.length
  | _ => False
def wLen : RCW := fun ws S Q => match ws with
  | [.tup l] => Q (.int l.length) S
  | [.cl l] => Q (.int l.length) S
  | [.str z] => z.length ≤ sizeLine ∧ Q (.int z.length) S
  | [.ref n] => oLen S[n]? fun k => Q (.int k) S
  | _ => False
theorem oLen_mono {o : Option O} {k k' : Nat → Prop} (f : ∀ n, k n → k' n) (h : oLen o k) : oLen o k' := by
  unfold oLen at h ⊢
  split at h
  · exact f _ h
  · exact f _ h
  · exact h.elim
theorem mo_len : MonoC wLen := fun x S Q Q' k h => by
  unfold wLen at h ⊢
  split at h
  · exact k _ _ h
  · exact k _ _ h
  · exact ⟨h.1, k _ _ h.2⟩
  · exact oLen_mono (fun n z => k _ _ z) h
  · exact h.elim
def rLenW (K : PySem.W.Frag) : List V → Hp → VK → Prop := fun xs H Q => (∃ p ys, xs = [V.ref p] ∧ (SqL K H p ys ∨ SqT K H p ys) ∧ Q (.int ys.length) H) ∨ (∃ z, xs = [V.str z] ∧ z.length ≤ sizeLine ∧ Q (.int z.length) H) ∨ ∃ (p : Addr) (kvs : List (Key × V)), xs = [V.ref p] ∧ H p = some (.dK kvs) ∧ Q (.int kvs.length) H
theorem call_lenW : CallR X (.builtin "len") (rLenW X.K) := fun pins s σ H xs us Q I rv h => by
  rcases h with h | h | ⟨p, kvs, e, hp, q⟩
  · exact call_len_seq pins s σ H xs us Q I rv h
  · exact call_len_str pins s σ H xs us Q I rv h
  · subst e
    obtain ⟨u, rfl, ru⟩ := vals1 rv
    obtain rfl : u = Value.ref p := ru
    exact d_len I (.inl hp) fun t s' I' => ⟨.int kvs.length, H, I', ⟨t, rfl⟩, q⟩
theorem one_of {K : PySem.W.Frag} {ι : List Addr} {H : Hp} {w : W} {vs : List V} (r : VRs K ι H [w] vs) : ∃ v, vs = [v] ∧ VR K ι H w v := by
  obtain ⟨v, t, rfl, h, e⟩ := r
  obtain rfl : t = [] := e
  exact ⟨v, rfl, h⟩
theorem two_of {K : PySem.W.Frag} {ι : List Addr} {H : Hp} {w x : W} {vs : List V} (r : VRs K ι H [w, x] vs) : ∃ v u, vs = [v, u] ∧ VR K ι H w v ∧ VR K ι H x u := by
  obtain ⟨v, t, rfl, h, r2⟩ := r
  obtain ⟨u, rfl, h2⟩ := one_of r2
  exact ⟨v, u, rfl, h, h2⟩
theorem cl_len {K : PySem.W.Frag} : CL K Tb (rLenW K) wLen := fun ι S H ws vs Q Qv s r h k => by
  unfold wLen at h
  split at h
  · obtain ⟨v, rfl, a, us, rfl, hq, rv⟩ := one_of r
    exact .inl ⟨a, us, rfl, .inr hq, by rw [rv.len]; exact k ι S H _ _ h s Grow.refl rfl⟩
  · obtain ⟨v, rfl, a, us, rfl, hq, rv⟩ := one_of r
    exact .inl ⟨a, us, rfl, .inl hq.sq, by rw [rv.len]; exact k ι S H _ _ h s Grow.refl rfl⟩
  · obtain ⟨v, rfl, e⟩ := one_of r
    obtain rfl : v = _ := e
    exact .inr (.inl ⟨_, rfl, h.1, k ι S H _ _ h.2 s Grow.refl rfl⟩)
  · obtain ⟨v, rfl, a, ha, rfl⟩ := one_of r
    obtain ⟨o, ho, q⟩ := s.there ha
    rw [ho] at h
    cases o with
    | lst l =>
      obtain ⟨us, e, rv⟩ := q
      exact .inl ⟨a, us, rfl, .inl (SqL.of e), by rw [rv.len]; exact k ι S H _ _ h s Grow.refl rfl⟩
    | dK l =>
      obtain ⟨kvs, e, e1, rv⟩ := q
      have hl : kvs.length = l.length := by
        have := congrArg List.length e1
        rwa [List.length_map, List.length_map] at this
      exact .inr (.inr ⟨a, kvs, rfl, e, by rw [hl]; exact k ι S H _ _ h s Grow.refl rfl⟩)
    | _ => exact h.elim
  · exact h.elim
/-! ### isinstance -/
def tyO : Option O → Option String
  | some (.lst _) => some "list"
  | some (.dK _) => some "dict"
  | _ => none
def tyW (S : Store) : W → Option String
  | .non => some "NoneType"
  | .bl _ => some "bool"
  | .int _ => some "int"
  | .str _ => some "str"
  | .tup _ => some "tuple"
  | .cl _ => some "list"
  | .ref n => tyO S[n]?
  | _ => none
def subTy (t c : String) : Bool := t == c || (t == "bool" && c == "int")
def tys : List String := ["NoneType", "bool", "int", "str", "tuple", "list", "dict"]
def clss : List String := ["bool", "int", "str", "tuple", "list", "dict"]
theorem kit_all : ∀ t ∈ tys, ∀ c ∈ clss, kitB t c = some (subTy t c) := by decide +kernel
def wIsi : RCW := fun ws S Q => match ws with
  | [x, .ty c] => c ∈ clss ∧ oW (tyW S x) fun t => Q (.bl (subTy t c)) S
  | _ => False
theorem mo_isi : MonoC wIsi := fun x S Q Q' k h => by
  unfold wIsi at h ⊢
  split at h
  · exact ⟨h.1, oW_mono (fun t z => k _ _ z) h.2⟩
  · exact h.elim
theorem ty_of {K : PySem.W.Frag} {ι : List Addr} {S : Store} {H : Hp} {w : W} {v : V} {t : String} (s : Sim K Tb ι S H) (r : VR K ι H w v) (h : tyW S w = some t) : TyX K H v (.type t) ∧ t ∈ tys := by
  cases w with
  | non => obtain rfl : v = _ := r; cases h; exact ⟨.base .non, by decide⟩
  | bl b => obtain rfl : v = _ := r; cases h; exact ⟨.base (.bl _), by decide⟩
  | int b => obtain rfl : v = _ := r; cases h; exact ⟨.base (.int _), by decide⟩
  | str b => obtain rfl : v = _ := r; cases h; exact ⟨.base (.str _), by decide⟩
  | tup l =>
    obtain ⟨a, vs, rfl, hq, _⟩ := r
    cases h
    refine ⟨?_, by decide⟩
    rcases hq with (q | ⟨o, q⟩) | ⟨o, its, n, e, c, _⟩
    · exact .base (.tup q)
    · exact .fTuple q
    · exact .kTuple e c
  | cl l =>
    obtain ⟨a, vs, rfl, hq, _⟩ := r
    cases h
    refine ⟨?_, by decide⟩
    rcases hq with ⟨o, q⟩ | ⟨o, its, n, e, c, _⟩
    · exact .base (.frz q)
    · exact .kList e c
  | ref n =>
    obtain ⟨a, ha, rfl⟩ := r
    obtain ⟨o, ho, q⟩ := s.there ha
    have h : tyO S[n]? = some t := h
    rw [ho] at h
    cases o with
    | lst l =>
      obtain ⟨us, e, rv⟩ := q
      cases h
      exact ⟨.base (.lst e), by decide⟩
    | dK l =>
      obtain ⟨kvs, e, _⟩ := q
      cases h
      exact ⟨.base (.dK e), by decide⟩
    | _ => cases h
  | adr a => cases h
  | ty n => cases h
theorem cl_isi {K : PySem.W.Frag} : CL K Tb (rIsi K) wIsi := fun ι S H ws vs Q Qv s r h k => by
  unfold wIsi at h
  split at h
  · rename_i x c
    obtain ⟨hc, h⟩ := h
    obtain ⟨t, et, h⟩ := oW_some h
    obtain ⟨v, u, rfl, r1, r2⟩ := two_of r
    obtain rfl : u = _ := r2
    obtain ⟨ty, ht⟩ := ty_of s r1 et
    exact ⟨v, .ty c, .type t, .type c, _, rfl, .ty c, ty, kit_ty (kit_all t ht c hc), k ι S H _ _ h s Grow.refl rfl⟩
  · exact h.elim
/-! ### int, list, tuple, min, max, abs -/
def wIntC : RCW := fun ws S Q => match ws with
  | [.int i] => Q (.int i) S
  | [.bl b] => Q (.int (if b then 1 else 0)) S
  | _ => False
theorem mo_intC : MonoC wIntC := fun x S Q Q' k h => by
  unfold wIntC at h ⊢
  split at h
  · exact k _ _ h
  · exact k _ _ h
  · exact h.elim
theorem cl_intC {K : PySem.W.Frag} : CL K Tb (fun xs H Q => (∃ i, xs = [V.int i] ∧ Q (.int i) H) ∨ ∃ k, xs = [V.bl k] ∧ Q (.int (if k then 1 else 0)) H) wIntC := fun ι S H ws vs Q Qv s r h k => by
  unfold wIntC at h
  split at h
  · obtain ⟨v, rfl, e⟩ := one_of r
    obtain rfl : v = _ := e
    exact .inl ⟨_, rfl, k ι S H _ _ h s Grow.refl rfl⟩
  · obtain ⟨v, rfl, e⟩ := one_of r
    obtain rfl : v = _ := e
    exact .inr ⟨_, rfl, k ι S H _ _ h s Grow.refl rfl⟩
  · exact h.elim
def wAbs : RCW := fun ws S Q => match ws with
  | [.int i] => Q (.int (if i < 0 then -i else i)) S
  | _ => False
theorem mo_abs : MonoC wAbs := fun x S Q Q' k h => by
  unfold wAbs at h ⊢
  split at h
  · exact k _ _ h
  · exact h.elim
theorem cl_abs {K : PySem.W.Frag} : CL K Tb (fun xs H Q => ∃ i, xs = [V.int i] ∧ Q (.int (if i < 0 then -i else i)) H) wAbs := fun ι S H ws vs Q Qv s r h k => by
  unfold wAbs at h
  split at h
  · obtain ⟨v, rfl, e⟩ := one_of r
    obtain rfl : v = _ := e
    exact ⟨_, rfl, k ι S H _ _ h s Grow.refl rfl⟩
  · exact h.elim
def wII (f : Int → Int → Int) : RCW := fun ws S Q => match ws with
  | [.int i, .int j] => Q (.int (f i j)) S
  | _ => False
theorem mo_II {f : Int → Int → Int} : MonoC (wII f) := fun x S Q Q' k h => by
  unfold wII at h ⊢
  split at h
  · exact k _ _ h
  · exact h.elim
theorem cl_II {K : PySem.W.Frag} {f : Int → Int → Int} : CL K Tb (fun xs H Q => ∃ i j, xs = [V.int i, V.int j] ∧ Q (.int (f i j)) H) (wII f) := fun ι S H ws vs Q Qv s r h k => by
  unfold wII at h
  split at h
  · obtain ⟨v, u, rfl, e, e2⟩ := two_of r
    obtain rfl : v = _ := e
    obtain rfl : u = _ := e2
    exact ⟨_, _, rfl, k ι S H _ _ h s Grow.refl rfl⟩
  · exact h.elim
abbrev wMax : RCW := wII fun i j => if j > i then j else i
abbrev wMin : RCW := wII fun i j => if j < i then j else i
def oItems (o : Option O) (k : List W → Prop) : Prop := match o with
  | some (.lst l) => k l
  | some (.dK l) => k (l.map fun kv => match kv.1 with
    | .inl i => W.int i
    | .inr x => W.str x)
  | _ => False
def keyV : Key → W
  | .inl i => W.int i
  | .inr x => W.str x
/-- list(x) -/
def wList : RCW := fun ws S Q => match ws with
  | [.tup l] => Q (.ref S.length) (S ++ [.lst l])
  | [.cl l] => Q (.ref S.length) (S ++ [.lst l])
  | [.str z] => z.length ≤ sizeLine ∧ Q (.ref S.length) (S ++ [.lst (z.cps.toList.map signW)])
  | [.ref n] => match S[n]? with
    | some (.lst l) => Q (.ref S.length) (S ++ [.lst l])
    | some (.dK l) => Q (.ref S.length) (S ++ [.lst (l.map fun kv => keyV kv.1)])
    | _ => False
  | _ => False
theorem mo_list : MonoC wList := fun x S Q Q' k h => by
  unfold wList at h ⊢
  split at h
  · exact k _ _ h
  · exact k _ _ h
  · exact ⟨h.1, k _ _ h.2⟩
  · split at h
    · exact k _ _ h
    · exact k _ _ h
    · exact h.elim
  · exact h.elim
def rListW (K : PySem.W.Frag) : List V → Hp → VK → Prop := fun xs H Q => (∃ p ys, xs = [V.ref p] ∧ (SqL K H p ys ∨ SqT K H p ys) ∧ ∀ l, H l = none → Q (.ref l) (upd H l (.lst ys))) ∨
  (∃ z, xs = [V.str z] ∧ z.length ≤ sizeLine ∧ ∀ l, H l = none → Q (.ref l) (upd H l (.lst (signs z)))) ∨ L2.rListD xs H Q
theorem call_listW (hc : X.calm = true) : CallR X (.type "list") (rListW X.K) := callR_or call_list_of (callR_or (call_list_text hc) (call_list_dK hc))
theorem VRs.signs {K : PySem.W.Frag} {ι : List Addr} {H : Hp} : ∀ l : List Nat, VRs K ι H (l.map signW) (l.map fun c => V.str ⟨#[c]⟩)
  | [] => rfl
  | c :: l => ⟨_, _, rfl, rfl, VRs.signs l⟩
theorem VRs.keys {K : PySem.W.Frag} {ι : List Addr} {H : Hp} : ∀ l : List Key, VRs K ι H (l.map keyV) (l.map kV)
  | [] => rfl
  | .inl i :: l => ⟨_, _, rfl, rfl, VRs.keys l⟩
  | .inr i :: l => ⟨_, _, rfl, rfl, VRs.keys l⟩
theorem cl_list {K : PySem.W.Frag} : CL K Tb (rListW K) wList := fun ι S H ws vs Q Qv s r h k => by
  have new : ∀ {l : List W} {us : List V} {p : Addr}, VRs K ι H l us → H p = none → Q (.ref S.length) (S ++ [.lst l]) → Qv (.ref p) (upd H p (.lst us)) := fun {l us p} rv np q => by
    obtain ⟨ι2, s2, g2, r2⟩ := newL s rv np
    exact k ι2 _ _ _ _ q s2 g2 r2
  unfold wList at h
  split at h
  · obtain ⟨v, rfl, a, us, rfl, hq, rv⟩ := one_of r
    exact .inl ⟨a, us, rfl, .inr hq, fun p np => new rv np h⟩
  · obtain ⟨v, rfl, a, us, rfl, hq, rv⟩ := one_of r
    exact .inl ⟨a, us, rfl, .inl hq.sq, fun p np => new rv np h⟩
  · obtain ⟨v, rfl, e⟩ := one_of r
    obtain rfl : v = _ := e
    exact .inr (.inl ⟨_, rfl, h.1, fun p np => new (VRs.signs _) np h.2⟩)
  · obtain ⟨v, rfl, a, ha, rfl⟩ := one_of r
    obtain ⟨o, ho, q⟩ := s.there ha
    rw [ho] at h
    cases o with
    | lst l =>
      obtain ⟨us, e, rv⟩ := q
      exact .inl ⟨a, us, rfl, .inl (SqL.of e), fun p np => new rv np h⟩
    | dK l =>
      obtain ⟨kvs, e, e1, rv⟩ := q
      refine .inr (.inr ⟨a, kvs, rfl, e, fun p np => new ?_ np h⟩)
      have e2 : (kvs.map fun kv => kV kv.1) = (kvs.map (·.1)).map kV := by rw [List.map_map]; rfl
      have e3 : (l.map fun kv => keyV kv.1) = (l.map (·.1)).map keyV := by rw [List.map_map]; rfl
      rw [e2, e3, e1]
      exact VRs.keys _
    | _ => exact h.elim
  · exact h.elim
/-- tuple(x) -/
def wTuple : RCW := fun ws S Q => match ws with
  | [.tup l] => Q (.tup l) S
  | [.cl l] => Q (.tup l) S
  | [.ref n] => oL S[n]? fun l => Q (.tup l) S
  | _ => False
theorem mo_tuple : MonoC wTuple := fun x S Q Q' k h => by
  unfold wTuple at h ⊢
  split at h
  · exact k _ _ h
  · exact k _ _ h
  · exact oL_mono (fun l z => k _ _ z) h
  · exact h.elim
theorem cl_tuple {K : PySem.W.Frag} : CL K Tb (fun xs H Q => ∃ p ys, xs = [V.ref p] ∧ ((SqL K H p ys ∧ ∀ l, H l = none → Q (.ref l) (upd H l (.tup ys))) ∨ (SqT K H p ys ∧ Q (.ref p) H))) wTuple := fun ι S H ws vs Q Qv s r h k => by
  have new : ∀ {l : List W} {us : List V} {p : Addr}, VRs K ι H l us → H p = none → Q (.tup l) S → Qv (.ref p) (upd H p (.tup us)) := fun {l us p} rv np q => by
    obtain ⟨s2, g2⟩ := s.tup (xs := us) np
    exact k ι _ _ _ _ q s2 g2 ⟨p, us, rfl, SqT.of upd_same, rv.grow g2⟩
  unfold wTuple at h
  split at h
  · obtain ⟨v, rfl, a, us, rfl, hq, rv⟩ := one_of r
    exact ⟨a, us, rfl, .inr ⟨hq, k ι S H _ _ h s Grow.refl ⟨a, us, rfl, hq, rv⟩⟩⟩
  · obtain ⟨v, rfl, a, us, rfl, hq, rv⟩ := one_of r
    exact ⟨a, us, rfl, .inl ⟨hq.sq, fun p np => new rv np h⟩⟩
  · obtain ⟨v, rfl, a, ha, rfl⟩ := one_of r
    obtain ⟨l, el, h⟩ := oL_some h
    obtain ⟨us, e, rv⟩ := lst_at s ha el
    exact ⟨a, us, rfl, .inl ⟨SqL.of e, fun p np => new rv np h⟩⟩
  · exact h.elim
variable {a e f : Expr} {es : List Expr} {mr : MA} {p pos : Pos}
theorem e_len (hg : Gl X "len") (hm : X.mg "len" = none) (ha : EA X Tb [e] mr) (he : starEach [e] X.env = (false, eval e X.env) :: starEach [] X.env := by rfl) (hpl : (backTo pos (starEach [] X.env)).any (·.1) = false := by rfl) : EE X Tb (.Call (.Name "len" p) [e] [] pos) (mCB wLen mr) :=
  e_callB call_lenW cl_len mo_len hg hm PySem.boot_len ha (by decide) (by decide) he hpl
theorem e_isi (hg : Gl X "isinstance") (hm : X.mg "isinstance" = none) (ha : EA X Tb [e, f] mr) (he : starEach [e, f] X.env = (false, eval e X.env) :: starEach [f] X.env := by rfl) (hpl : (backTo pos (starEach [f] X.env)).any (·.1) = false := by rfl) : EE X Tb (.Call (.Name "isinstance" p) [e, f] [] pos) (mCB wIsi mr) :=
  e_callB call_isi cl_isi mo_isi hg hm boot_isinstance ha (by decide) (by decide) he hpl
theorem e_intC (hg : Gl X "int") (hm : X.mg "int" = none) (ha : EA X Tb [e] mr) (he : starEach [e] X.env = (false, eval e X.env) :: starEach [] X.env := by rfl) (hpl : (backTo pos (starEach [] X.env)).any (·.1) = false := by rfl) : EE X Tb (.Call (.Name "int" p) [e] [] pos) (mCB wIntC mr) :=
  e_callTy call_int1 cl_intC mo_intC hg hm (by decide +kernel) ha (by decide) (by decide) he hpl
theorem e_abs (hg : Gl X "abs") (hm : X.mg "abs" = none) (ha : EA X Tb [e] mr) (he : starEach [e] X.env = (false, eval e X.env) :: starEach [] X.env := by rfl) (hpl : (backTo pos (starEach [] X.env)).any (·.1) = false := by rfl) : EE X Tb (.Call (.Name "abs" p) [e] [] pos) (mCB wAbs mr) :=
  e_callB call_abs cl_abs mo_abs hg hm (by decide +kernel) ha (by decide) (by decide) he hpl
theorem e_max (hg : Gl X "max") (hm : X.mg "max" = none) (ha : EA X Tb [e, f] mr) (hc : X.calm = true := by rfl) (he : starEach [e, f] X.env = (false, eval e X.env) :: starEach [f] X.env := by rfl) (hpl : (backTo pos (starEach [f] X.env)).any (·.1) = false := by rfl) : EE X Tb (.Call (.Name "max" p) [e, f] [] pos) (mCB wMax mr) :=
  e_callB (call_max2 hc) cl_II mo_II hg hm (by decide +kernel) ha (by decide) (by decide) he hpl
theorem e_min (hg : Gl X "min") (hm : X.mg "min" = none) (ha : EA X Tb [e, f] mr) (hc : X.calm = true := by rfl) (he : starEach [e, f] X.env = (false, eval e X.env) :: starEach [f] X.env := by rfl) (hpl : (backTo pos (starEach [f] X.env)).any (·.1) = false := by rfl) : EE X Tb (.Call (.Name "min" p) [e, f] [] pos) (mCB wMin mr) :=
  e_callB (call_min2 hc) cl_II mo_II hg hm (by decide +kernel) ha (by decide) (by decide) he hpl
theorem e_list (hg : Gl X "list") (hm : X.mg "list" = none) (ha : EA X Tb [e] mr) (hc : X.calm = true := by rfl) (he : starEach [e] X.env = (false, eval e X.env) :: starEach [] X.env := by rfl) (hpl : (backTo pos (starEach [] X.env)).any (·.1) = false := by rfl) : EE X Tb (.Call (.Name "list" p) [e] [] pos) (mCB wList mr) :=
  e_callTy (call_listW hc) cl_list mo_list hg hm (by decide +kernel) ha (by decide) (by decide) he hpl
theorem e_tuple (hg : Gl X "tuple") (hm : X.mg "tuple" = none) (ha : EA X Tb [e] mr) (he : starEach [e] X.env = (false, eval e X.env) :: starEach [] X.env := by rfl) (hpl : (backTo pos (starEach [] X.env)).any (·.1) = false := by rfl) : EE X Tb (.Call (.Name "tuple" p) [e] [] pos) (mCB wTuple mr) :=
  e_callTy call_tuple_of cl_tuple mo_tuple hg hm (by decide +kernel) ha (by decide) (by decide) he hpl
end
end Ev

set_option Elab.async false
set_option linter.all false
set_option maxRecDepth 100000
set_option maxHeartbeats 4000000
/-! all(e for x in xs), lifted. -/
namespace Ev
open PySem PySem.Spec PyProof.Rows L2 Ow GenW
structure EGg (X : Cx) (Tb : List Addr) (scope : Scope) (tg : Expr) (m : MG) (vs : List Nat) : Prop where
  ex : ∃ t, (∀ (A : Around) (s : Shared) (H : Hp) (cl : List (Str × Addr)) (C : Addr) (code : Value) (fp : List Addr), PG (gX X A s H scope (genEnv scope cl C code builtinsNs X.env) fp) tg t) ∧ TW X.K Tb t m vs
  mono : ∀ (w : W) (env : EvS) (S : Store) (Q Q' : EvS → Store → Prop), (∀ e S', Q e S' → Q' e S') → m w env S Q → m w env S Q'
structure EGgs (X : Cx) (Tb : List Addr) (scope : Scope) (tg : List Expr) (m : MGs) (vs : List Nat) : Prop where
  ex : ∃ t, (∀ (A : Around) (s : Shared) (H : Hp) (cl : List (Str × Addr)) (C : Addr) (code : Value) (fp : List Addr), PGs (gX X A s H scope (genEnv scope cl C code builtinsNs X.env) fp) tg t) ∧ TWs X.K Tb t m vs
  mono : ∀ (w : List W) (env : EvS) (S : Store) (Q Q' : EvS → Store → Prop), (∀ e S', Q e S' → Q' e S') → m w env S Q → m w env S Q'
section
variable {X : Cx} {Tb : List Addr} {scope : Scope} {vs : List Nat} {e : Expr} {es : List Expr} {pos : Pos} {mg : MG} {mgs : MGs}
theorem gg_name {i : Nat} {x : Str} (hN : X.N.Nodup) (hm : i ∈ vs := by decide) (hi : X.N[i]? = some x := by rfl) (hx : Loc scope x := by first | exact Or.inl rfl | exact Or.inr rfl)
    (hf : (scope.names.lookup x == some .cell) = true ∨ scope.names.lookup x = some .local := by first | exact .inr rfl | exact .inl rfl) : EGg X Tb scope (.Name x pos) (mgName i) vs :=
  ⟨⟨gName i, fun A s H cl C code fp => pg_name hN hi hx hf, tw_name hm⟩, fun _ _ _ _ _ k h => k _ _ h⟩
theorem ggs_nil : EGgs X Tb scope [] mgNil vs := ⟨⟨gNil, fun _ _ _ _ _ _ _ => pgs_nil, tw_nil⟩, fun _ _ _ _ _ k h => ⟨h.1, k _ _ h.2⟩⟩
theorem ggs_cons (a : EGg X Tb scope e mg vs) (b : EGgs X Tb scope es mgs vs) (hs : ∀ env : Env, (assignEach (e :: es) env).map (·.2) = assign e env :: (assignEach es env).map (·.2) := by intro _; rfl) : EGgs X Tb scope (e :: es) (mgCons mg mgs) vs := by
  obtain ⟨t, h1, w1⟩ := a.ex
  obtain ⟨u, h2, w2⟩ := b.ex
  refine ⟨⟨gCons t u, fun A s H cl C code fp => pgs_cons (h1 A s H cl C code fp) (h2 A s H cl C code fp) (hs _), tw_cons w1 w2⟩, fun ws env S Q Q' k h => ?_⟩
  cases ws with
  | nil => exact h.elim
  | cons w ws => exact a.mono _ _ _ _ _ (fun e S' q => b.mono _ _ _ _ _ k q) h
theorem gg_tup {k n : Nat} (b : EGgs X Tb scope es mgs vs) (hn : ∀ env : Env, (assignEach es env).length = n := by intro _; rfl) (hst : ∀ env : Env, (assignEach es env).findIdx? (·.1) = none := by intro _; rfl) : EGg X Tb scope (.Tuple es k pos) (mgTup n mgs) vs := by
  obtain ⟨u, h2, w2⟩ := b.ex
  refine ⟨⟨gTup X.K n u, fun A s H cl C code fp => pg_tup (X := gX X A s H scope (genEnv scope cl C code builtinsNs X.env) fp) rfl (h2 A s H cl C code fp) (hn _) (hst _), tw_tup w2⟩, fun w env S Q Q' k q => ?_⟩
  cases w with
  | tup l => exact ⟨q.1, b.mono _ _ _ _ _ k q.2⟩
  | _ => exact q.elim
end
/-- does each pass -/
def allL (chk : Store → Prop) (mg : MG) (te : ME) (env : EvS) (Q : WK) : List W → Store → Prop
  | [], S => chk S ∧ Q (.bl true) S
  | w :: r, S => chk S ∧ mg w env S fun e S1 => te e S1 fun y S2 => match y with
    | .bl b => if b = true then allL chk mg te env Q r S2 else Q (.bl false) S2
    | _ => False
def mAll (mi : MI) (mg : MG) (te : ME) (vs : List Nat) : ME := fun env S Q => mi env S fun chk ws S1 => allL chk mg te (wpE env vs) Q ws S1
theorem allL_mono {chk : Store → Prop} {mg : MG} {te : ME} {env : EvS} {Q Q' : WK} (hg : ∀ (w : W) (env : EvS) (S : Store) (Q Q' : EvS → Store → Prop), (∀ e S', Q e S' → Q' e S') → mg w env S Q → mg w env S Q') (he : MonoE te) (k : ∀ w S', Q w S' → Q' w S') :
    ∀ (ws : List W) (S : Store), allL chk mg te env Q ws S → allL chk mg te env Q' ws S
  | [], S, h => ⟨h.1, k _ _ h.2⟩
  | w :: r, S, h => ⟨h.1, hg _ _ _ _ _ (fun e S1 q => he _ _ _ _ (fun y S2 q2 => by
    cases y with
    | bl b =>
      cases b with
      | true => exact iteT (allL_mono hg he k r _ q2)
      | false => exact iteF (k _ _ q2)
    | _ => exact q2.elim) q) h.2⟩
theorem lift_all {K : PySem.W.Frag} {Tb : List Addr} {mi : MI} {wi : TI} {t : TG} {mg : MG} {te : ME} {vs : List Nat} {P : Addr} (hP : P ∈ Tb) (hl : LI K Tb mi wi) (him : ∀ (env : EvS) (S : Store) (R R' : (Store → Prop) → List W → Store → Prop), (∀ c w S', R c w S' → R' c w S') → mi env S R → mi env S R')
    (hw : TW K Tb t mg vs) (he : MonoE te) {σ : L2.St} {H : Hp} {Q : VK} (h : LE K Tb (mAll mi mg te vs) σ H Q) : tAllG P wi t (LE K Tb te) vs σ H Q := by
  obtain ⟨ι, env, S, s, er, h⟩ := h
  refine hl σ H _ ι env S s er (him _ _ _ _ (fun chk ws S1 q ι1 H1 J s1 g1 fd => ?_) h)
  refine ⟨s1.tab P hP, fun H2 hT => ?_⟩
  obtain ⟨s2, g2⟩ := s1.tabbed hP hT
  refine ⟨fun i m H' => m = ws.length - i ∧ i ≤ ws.length ∧ ∃ ι' S', Sim K Tb ι' S' H' ∧ Grow K ι1 H2 ι' H' ∧ allL chk mg te (wpE env vs) (fun w S' => ∀ ι' H' v, Sim K Tb ι' S' H' → Grow K ι H ι' H' → VR K ι' H' w v → Q v H') (ws.drop i) S',
    ⟨ws.length, by simp, Nat.zero_le _, ι1, S1, s2, Grow.refl, by rw [List.drop_zero]; exact q⟩, ?_⟩
  rintro i m H' ⟨rfl, hi', ι', S', s', g', q'⟩
  have gg := (g1.trans g2).trans g'
  by_cases hlt : i < ws.length
  · obtain ⟨w, hw'⟩ : ∃ w, ws[i]? = some w := ⟨_, List.getElem?_eq_getElem hlt⟩
    have ed : ws.drop i = w :: ws.drop (i + 1) := by
      rw [List.drop_eq_getElem_cons hlt]
      rw [List.getElem?_eq_getElem hlt] at hw'
      rw [Option.some.inj hw']
    rw [ed] at q'
    obtain ⟨hgo, hy⟩ := (fd ι' H' S' i (g2.trans g') s' q'.1).1 w hw'
    refine .inr ⟨hgo, fun H3 => ∃ ι3 S3, Sim K Tb ι3 S3 H3 ∧ Grow K ι1 H2 ι3 H3 ∧ allL chk mg te (wpE env vs) (fun w S' => ∀ ι' H' v, Sim K Tb ι' S' H' → Grow K ι H ι' H' → VR K ι' H' w v → Q v H') (ws.drop (i + 1)) S3, fun H3 n3 => ⟨ws.length - (i + 1), by omega, rfl, by omega, n3⟩, fun x H3 y => ?_⟩
    obtain ⟨ι3, s3, g3, r3⟩ := hy x H3 y
    have er3 : ER K ι3 H3 (wpE env vs) (wipe σ vs) := ((er.grow gg).grow g3).wipe vs
    refine hw x _ H3 w _ S' ι3 _ _ s3 er3 r3 q'.2 fun e S4 ι4 H4 σ4 q4 s4 g4 er4 e4 => ⟨?_, ι4, e, S4, s4, er4, he _ _ _ _ (fun y S5 q5 ι5 H5 v5 s5 g5 r5 => ?_) q4⟩
    · rw [e4]
      have ww : ∀ us : List Nat, (∀ u ∈ us, u ∈ vs) → wipe (wipe σ us) vs = wipe σ vs := fun us => by
        induction us with
        | nil => exact fun _ => rfl
        | cons u us ih =>
          intro hm
          show wipe ((wipe σ us).set u none) vs = _
          rw [wipe_set (hm u List.mem_cons_self), ih fun x hx => hm x (List.mem_cons_of_mem _ hx)]
      exact ww vs fun _ h => h
    cases y with
    | bl b =>
      refine ⟨b, r5, ?_⟩
      cases b with
      | true => exact iteT ⟨ι5, S5, s5, ((g'.trans g3).trans g4).trans g5, q5⟩
      | false => exact iteF (q5 ι5 H5 _ s5 (((gg.trans g3).trans g4).trans g5) rfl)
    | _ => exact q5.elim
  · have ei : i = ws.length := by omega
    subst ei
    rw [List.drop_length] at q'
    exact .inl ⟨(fd ι' H' S' ws.length (g2.trans g') s' q'.1).2 (Nat.le_refl _), q'.2 ι' H' _ s' gg rfl⟩
section
variable {X : Cx} {Tb : List Addr} {c P : Addr} {elt tg iter : Expr} {scope : Scope} {own : List (Str × Nat)} {p pos gpos : Pos} {mi : MI} {mg : MG} {te : ME} {k : Nat}
theorem e_all (hr : Room (k + 1) X.A) (hgl : Gl X "all") (hm : X.mg "all" = none) (TB : GxR.TabB X.base X.mg c P) (hP : P ∈ Tb) (hcode : X.env.code = .ref c) (hN : X.N.Nodup) (ok : GOk X.N X.env.scope scope own) (hi : EI X Tb tg iter mi)
    (hg : EGg X Tb scope tg mg (own.map (·.2)))
    (he : ∀ (A : Around) (s : Shared) (H : Hp) (cl : List (Str × Addr)) (C : Addr) (code : Value) (fp : List Addr), Room k A → EE (gX X A s H scope (genEnv scope cl C code builtinsNs X.env) fp) Tb elt te)
    (hs : ∀ v, genFold iter X.env v = pure v := by intro _; rfl)
    (hst : starEach [.GeneratorExp elt [⟨tg, iter, [], 0⟩] scope gpos] X.env = (false, eval (.GeneratorExp elt [⟨tg, iter, [], 0⟩] scope gpos) X.env) :: starEach [] X.env := by rfl) :
    EE X Tb (.Call (.Name "all" p) [.GeneratorExp elt [⟨tg, iter, [], 0⟩] scope gpos] [] pos) (mAll mi mg te (own.map (·.2))) := by
  obtain ⟨wi, hp, hl⟩ := hi.ex
  obtain ⟨t, ht1, hw⟩ := hg.ex
  have hmo : MonoE te := (he _ {} (fun _ => none) [] 0 .none [] (over_room (elt := elt) (tg := tg) (iter := iter) (scope := scope) (pos := pos) (it := .none) (cenv := X.env) hr)).mono
  refine ⟨pe_imp (pe_allG hr hgl hm TB hcode hN ok hp ht1 (fun A s H cl C code fp r => (show PE _ elt (LE X.K Tb te) from (he A s H cl C code fp r).pe)) hs hst) fun σ H Q h => lift_all hP hl hi.mono hw hmo h, fun env S Q Q' k h => ?_⟩
  exact hi.mono _ _ _ _ (fun c ws S1 q => allL_mono hg.mono hmo k _ _ q) h
end
end Ev

set_option Elab.async false
set_option linter.all false
set_option maxRecDepth 100000
set_option maxHeartbeats 4000000
namespace Ow
open PySem PySem.Spec PyProof.Rows L2 LamX
/-! ### a def's run where what stands around is known (repr asks for the guards) -/
/-- the promise sp of the def at f, called where A stands around -/
def RunAt (P : Program) (w : World) (K : PySem.W.Frag) (mg : Str → Option Value) (base : Heap) (A : Around) (f : Addr) (fd : FuncData) (ps : List Str) (sp : Sp) : Prop :=
  ∀ (outer : List Env) (s : Shared) (H : Hp) (args : Args) (us : List Value) (vs : List V) (Q : VK) (E : XK), Env0 P w K mg base A outer s H → BindsTo s fd args (ps.zip us) → Vals vs us → sp vs H Q E →
    codeAny (model P w) A (.call (.ref f) args) (CR CX0 outer P w H s Q E) s
section
variable {P : Program} {w : World} {K : PySem.W.Frag} {mg : Str → Option Value} {base : Heap} {A : Around}
theorem run_at {x qual : Str} {st : Stmt} {f : Addr} {fd : FuncData} {N ps : List Str} {k : Nat} {sp : Sp} (F : Fun K x qual st f fd) (S : FnScope N ps (defScope st)) (len : ∀ vs H Q E, sp vs H Q E → vs.length = ps.length) (hr : Room (k + 1) A)
    (hbody : ∀ (cdv : Value) (outer : List Env) (s : Shared) (H : Hp) (vs : List V) (Q : VK) (E : XK), Room k (A.deeper (envOfC qual (defScope st) s.heap.objs.size f cdv)) → sp vs H Q E →
      ∃ t, PSs (cxOf CX0 P w K mg base N qual (defScope st) f cdv A outer s H E).nox (defBody st) t ∧ t { nx := fun _ H' => Q .non H', rt := Q } (start N vs) H) :
    RunAt P w K mg base A f fd ps sp := by
  intro outer s H args us vs Q E env0 hbind hvals hpre
  obtain ⟨oc, od, kV, doc, pm, an, cdv, ct, osl, rfl, there, hcode⟩ := F.ex
  have below : ∀ b o, base.get? b = some o → s.heap.get? b = some o := fun b o e => (env0.bs b o e).1
  have inK : K.In s.heap := env0.mod.kin.keeps below
  have noLim := env0.mod.nolimit.keeps below
  have params : ∀ y ∈ ps.zip us, (defScope st).names.lookup y.1 = some .local ∨ ((defScope st).names.lookup y.1 = some .cell ∧ ((cellsFrom (s.heap.objs.size + 1) (defScope st).names []).lookup y.1).isSome = true) := by
    rintro ⟨n, v⟩ hy
    rcases S.par n (List.of_mem_zip hy).1 with q | q
    · exact Or.inl q
    · exact Or.inr ⟨q, PySem.W.cellsFrom_some _ _ _ (Or.inl q)⟩
  refine codeAny_call_function hr.depth (inK f _ there) rfl S.co S.gen rfl (PySem.W.codeRec_of inK hcode) (hbind _ _ _ _ ?_)
  refine wpAny_newFunctionEnv_cells S.kind params fun env isEnv s1 entered => ?_
  subst isEnv
  refine ⟨noLim.keeps entered.toInCall.keep, codeAny_func ?_⟩
  obtain ⟨t, body, pre⟩ := hbody cdv outer s H vs Q E (hr.deeper _) hpre
  have I := inv_start (CX := CX0) (E := E) S hr.hd env0 (len _ _ _ _ hpre) hvals entered
  refine wpAny_mono (body.nox.run [] s1 (start N vs) H _ I pre) (fun fl s' hs => ?_) fun e s' hs => hs
  cases fl with
  | ret u =>
    obtain ⟨v, σ', H', J, rv, q⟩ := hs
    exact (⟨v, H', J.os, J.bare, J.base, J.hok, rv, q⟩ : CE outer P w H s Q u s')
  | next =>
    obtain ⟨σ', H', J, q⟩ := hs
    exact (⟨.non, H', J.os, J.bare, J.base, J.hok, rfl, q⟩ : CE outer P w H s Q .none s')
  | brk =>
    obtain ⟨_, _, _, q⟩ := hs
    exact q.elim
  | cont =>
    obtain ⟨_, _, _, q⟩ := hs
    exact q.elim
end
/-! ### the law's own call, tables told -/
theorem law_at {P : Program} {w : World} {K : PySem.W.Frag} {mg mb : Str → Option Value} {fa a : Addr} {cs : List (Addr × Addr)} {fd : FuncData} {x : Str} {sp : Sp} {s₁ : Shared} {vs : List Value} {ns : List Int}
    (inK : K.In s₁.heap) (gl : s₁.heap.Ns mainGlobals mg) (bl : s₁.heap.Ns builtinsNs mb) (blt : ∀ x : Str, x ≠ "__name__" → mb x = bootBuiltins x) (lim : s₁.heap.NoLimit) (gens : s₁.gens = #[])
    (tabs : ∀ p ∈ cs, s₁.heap.get? p.2 = some { cls := .none, data := .fields #[] }) (outK : ∀ p ∈ cs, K.lookup p.2 = none) (heads : ∀ p ∈ cs, PySem.W.CodeHd s₁.heap p.1 p.2)
    (bmod : ∃ (bm : Addr) (ob : Obj), mg "__builtins__" = some (.ref bm) ∧ bm ≠ builtinsNs ∧ s₁.heap.get? bm = some ob ∧ ob.cls = .type "module" ∧ ob.dict = some builtinsNs ∧ ob.data = .plain)
    (scr : s₁.heap.get? a = some { cls := .type "list", data := .seq vs.toArray }) (rints : IntsAre vs ns) (few : ns.length ≤ sizeLine)
    (F : ∀ base : Heap, K.In base → base.Ns mainGlobals mg → (∀ p ∈ cs, TabB base mg p.1 p.2) → RunAt P w K mg base callerA fa fd [x] sp) (hbind : ∀ (s : Shared) (u : Value), BindsTo s fd ⟨[u], []⟩ [(x, u)])
    (hsp : ∀ H : Hp, (∀ p ∈ cs, H p.2 = some (.tbl #[])) → SqL K H a (ns.map V.int) → sp [.ref a] H (fun v _ => v = .bl true) fun _ _ _ => False) :
    codeAny (model P w) callerA (.call (.ref fa) ⟨[.ref a], []⟩) (fun r s' => r = .ok (.ret (.bool true)) ∧ OldK s₁.heap s'.heap ∧ s'.os = s₁.os ∧ AllBare s'.gens) s₁ := by
  have rv := vals_ints rints
  -- what is tracked: the script, where it isn't written, and the tables
  let H : Hp := fun b => if (cs.map (·.2)).contains b = true then some (.tbl #[]) else if b = a ∧ K.lookup a = none then some (.frz { cls := .type "list", data := .seq vs.toArray } (.lst (ns.map V.int))) else none
  have ofT : ∀ b, (cs.map (·.2)).contains b = true → s₁.heap.get? b = some { cls := .none, data := .fields #[] } ∧ K.lookup b = none := fun b hb => by
    obtain ⟨p, hp, e⟩ := List.mem_map.mp (List.contains_iff_mem.mp hb)
    rw [← e]
    exact ⟨tabs p hp, outK p hp⟩
  have inT : ∀ p ∈ cs, (cs.map (·.2)).contains p.2 = true := fun p hp => List.contains_iff_mem.mpr (List.mem_map.mpr ⟨p, hp, rfl⟩)
  have hT : ∀ b, (cs.map (·.2)).contains b = true → H b = some (.tbl #[]) := fun b hb => if_pos hb
  have hN : ∀ b, (cs.map (·.2)).contains b ≠ true → b ≠ a → H b = none := fun b h1 h2 => (if_neg h1).trans (if_neg fun z => h2 z.1)
  have aT : (cs.map (·.2)).contains a ≠ true := fun z => by
    have q := (ofT a z).1
    rw [scr] at q
    cases q
  have hA : K.lookup a = none → H a = some (.frz { cls := .type "list", data := .seq vs.toArray } (.lst (ns.map V.int))) := fun z => (if_neg aT).trans (if_pos ⟨rfl, z⟩)
  have hA' : ∀ o, K.lookup a = some o → H a = none := fun o z => (if_neg aT).trans (if_neg fun y => by
    rw [y.2] at z
    cases z)
  -- an object of another kind isn't tracked
  have free : ∀ {b : Addr} {o : Obj}, s₁.heap.get? b = some o → (∀ us n, o.data ≠ .seq us n) → o.data ≠ .fields #[] → H b = none := fun {b o} e n1 n2 => by
    by_cases h1 : (cs.map (·.2)).contains b = true
    · rw [(ofT b h1).1] at e
      cases e
      exact absurd rfl n2
    · by_cases h2 : b = a
      · subst h2
        rw [scr] at e
        cases e
        exact absurd rfl (n1 _ _)
      · exact hN b h1 h2
  have seen : ∀ {b : Addr} {o : Obj}, s₁.heap.get? b = some o → H b = none → (hidT s₁.heap H).get? b = some o := fun e n => hidT_get e n
  have dict : ∀ {b : Addr} {m : Str → Option Value}, s₁.heap.Ns b m → (hidT s₁.heap H).Ns b m := fun {b m} ⟨o, es, ep, e, d, r⟩ => by
    refine ⟨o, es, ep, seen e (free e (fun us n z => ?_) fun z => ?_), d, r⟩
    · rw [d] at z
      cases z
    · rw [d] at z
      cases z
  have inB : K.In (hidT s₁.heap H) := fun b o e => by
    refine seen (inK b o e) ?_
    by_cases h1 : (cs.map (·.2)).contains b = true
    · rw [(ofT b h1).2] at e
      cases e
    · by_cases h2 : b = a
      · subst h2
        exact hA' o e
      · exact hN b h1 h2
  have noLim : (hidT s₁.heap H).NoLimit := by
    obtain ⟨mc, n1, n2⟩ := lim
    exact ⟨mc, dict n1, n2⟩
  have TB : ∀ p ∈ cs, TabB (hidT s₁.heap H) mg p.1 p.2 := fun p hp => by
    have tp := tabs p hp
    refine ⟨?_, ?_, fun z => ?_⟩
    · obtain ⟨o, us, file, tf, flags, tg, inF, text, tt, e1, c1, c2, r⟩ := heads p hp
      refine ⟨o, us, file, tf, flags, tg, inF, text, tt, seen e1 (free e1 (fun vs n z => ?_) fun z => ?_), c1, c2, r⟩
      · rw [c2] at z
        cases z
      · rw [c2] at z
        cases z
        obtain ⟨r1, _⟩ := r
        simp at r1
    · obtain ⟨bm, ob, m1, m2, m3, m4, m5, m6⟩ := bmod
      have f1 : bm ≠ mainGlobals := fun q => by
        obtain ⟨o, es, ep, e, d, _⟩ := gl
        rw [q, e] at m3
        cases m3
        rw [d] at m6
        cases m6
      have f2 : bm ≠ p.2 := fun q => by
        rw [q, tp] at m3
        cases m3
        cases m6
      refine ⟨bm, ob, m1, m2, f1, f2, seen m3 (free m3 (fun us n z => ?_) fun z => ?_), m4, m5, m6⟩
      · rw [m6] at z
        cases z
      · rw [m6] at z
        cases z
    · obtain ⟨o, es, ep, e, d, _⟩ := gl
      rw [z, tp] at e
      cases e
      cases d
  have lenN : ns.length = vs.length := rints.length.symm
  have hok : HOk P w H s₁.heap := fun b u e => by
    by_cases h1 : (cs.map (·.2)).contains b = true
    · rw [hT b h1] at e
      cases e
      exact (ofT b h1).1
    · by_cases h2 : b = a
      · subst h2
        cases z : K.lookup b with
        | none =>
          rw [hA z] at e
          cases e
          exact ⟨scr, by rw [List.length_map]; exact few, vs, _, rv, scr⟩
        | some o =>
          rw [hA' o z] at e
          cases e
      · rw [hN b h1 h2] at e
        cases e
  have e0 : Env0 P w K mg (hidT s₁.heap H) callerA [] s₁ H :=
    ⟨rfl, ⟨inB, dict gl, ⟨mb, dict bl, blt⟩, noLim⟩, fun b o e => of_hidT e, Nat.le_of_eq (hidT_size _ _), trivial, fun b hb => (nomatch hb), hok, .of_eq gens⟩
  have hSq : SqL K H a (ns.map V.int) := by
    cases z : K.lookup a with
    | none => exact .inl (.inr ⟨_, hA z⟩)
    | some o =>
      have e := inK a o z
      rw [scr] at e
      cases e
      exact .inr ⟨_, vs.toArray, _, z, rfl, rfl, rfl, by rw [List.size_toArray, ← lenN]; exact few, by simpa using rv⟩
  refine codeAny_mono (F _ inB (dict gl) TB [] s₁ H ⟨[.ref a], []⟩ [.ref a] [.ref a] _ _ e0 (hbind s₁ (.ref a)) (.cons rfl .nil) (hsp H (fun p hp => hT _ (inT p hp)) hSq)) fun r s' h => ?_
  cases r with
  | error e => exact h.elim
  | ok fl =>
    cases fl with
    | next => exact h.elim
    | brk => exact h.elim
    | cont => exact h.elim
    | ret u =>
      obtain ⟨v, H', os, bare, un, hok', r', q⟩ := h
      obtain rfl : v = V.bl true := q
      obtain rfl : u = Value.bool true := r'
      have same : ∀ b o, (cs.map (·.2)).contains b ≠ true → s₁.heap.get? b = some o → s'.heap.get? b = some o := fun b o nb e => by
        by_cases h2 : b = a
        · subst h2
          cases z : K.lookup b with
          | none =>
            have z2 := un.frzs b _ _ (hA z)
            obtain ⟨e2, _⟩ := hok' b _ z2
            rw [scr] at e
            cases e
            exact e2
          | some o' => exact un.keep b o e (hA' o' z) (fun z => (nomatch z)) (by simp)
        · exact un.keep b o e (hN b nb h2) (fun z => nomatch z) (by simp)
      have grown : ∀ p ∈ cs, ∃ more : Array Value, s'.heap.get? p.2 = some { cls := .none, data := .fields more } := fun p hp => by
        obtain ⟨more, z⟩ := un.tbls p.2 #[] (hT _ (inT p hp))
        exact ⟨_, hok' p.2 _ z⟩
      refine ⟨rfl, ⟨fun b o e => ?_, fun b o e => ?_⟩, os, bare⟩
      · by_cases hb : (cs.map (·.2)).contains b = true
        · obtain ⟨p, hp, ep⟩ := List.mem_map.mp (List.contains_iff_mem.mp hb)
          obtain ⟨more, hm⟩ := grown p hp
          subst ep
          rw [tabs p hp] at e
          cases e
          exact .inr (.inl ⟨((heads p hp).tab (tabs p hp)).isCodeTable, rfl, #[], more, rfl, by rw [Array.empty_append]; exact hm⟩)
        · exact .inl (same b o hb e)
      · by_cases hb : (cs.map (·.2)).contains b = true
        · obtain ⟨p, hp, ep⟩ := List.mem_map.mp (List.contains_iff_mem.mp hb)
          obtain ⟨more, hm⟩ := grown p hp
          subst ep
          exact ⟨_, hm⟩
        · exact ⟨o, same b o hb e⟩
end Ow
namespace Ow
open PySem PySem.Spec PyProof.Rows L2 LamX
/-- repr of data, where nothing is being shown -/
theorem call_repr {X : Cx} (hg : X.A.guards = some []) : CallR X (.builtin "repr") (fun xs H Q => ∃ a d, xs = [.ref a] ∧ Dp X.K H (.ref a) d ∧ d.showable = true ∧ d.hasDict = false ∧ X.A.units + (d.depth + 1) < cLine ∧ d.shown.length ≤ sizeLine ∧ Q (.str d.shown) H) := by
  intro pins s σ H xs us Q I r h
  obtain ⟨a, d, rfl, hd, hs, hn, hu, hz, q⟩ := h
  obtain ⟨u, rfl, rx⟩ := vals1 r
  obtain ⟨as, rd⟩ := Dp.reads I d _ _ hd rx
  obtain rfl : u = Value.ref a := rx
  refine repr_of_reads' rd hs (fun z => absurd (hn.symm.trans z) (by decide)) hg hu (fun _ _ e => e) (fun h' u tk hk => ?_) hz
  exact ⟨.str d.shown, H, I.kept hk, ⟨_, rfl⟩, q⟩
/-- what is known of the law at the head's heap h -/
def LawG (P : Program) (w : World) (K : PySem.W.Frag) (n : Nat) (x : Str) (mg : Str → Option Value) (fa : Addr) (h : Heap) : Prop :=
  ∃ (fd : FuncData) (cs : List (Addr × Addr)) (sp : Sp), (∀ p ∈ cs, h.get? p.2 = some { cls := .none, data := .fields #[] }) ∧ (∀ p ∈ cs, K.lookup p.2 = none) ∧ (∀ p ∈ cs, PySem.W.CodeHd h p.1 p.2) ∧ (∀ (s : Shared) (u : Value), BindsTo s fd ⟨[u], []⟩ [(x, u)]) ∧
    (∀ (H : Hp) (a : Addr) (ns : List Int), ns.length ≤ n → (∀ p ∈ cs, H p.2 = some (.tbl #[])) → SqL K H a (ns.map V.int) → sp [.ref a] H (fun v _ => v = .bl true) fun _ _ _ => False) ∧
    ∀ base : Heap, K.In base → base.Ns mainGlobals mg → (∀ p ∈ cs, TabB base mg p.1 p.2) → RunAt P w K mg base callerA fa fd [x] sp
theorem walk_at {l : PySem.W.OpenLaw} {n : Nat} {q : Program} {loose : List Str} {XP : (Str → Option Value) → Heap → Prop} {YP : World → Heap → Prop} {d : DefRec} {K : Params → PySem.W.Frag} {x : Str}
    (hn : l.most = some n) (hn2 : n ≤ sizeLine) (hdf : d.params.defaults = []) (hY : ∀ (w : World) (h : Heap), YP w h → (K w.params).In h)
    (F : ∀ (w : World) (mg : Str → Option Value) (fa : Addr) (h : Heap), (K w.params).In h → h.Ns mainGlobals mg → mg d.name = some (.ref fa) →
      (∀ (d' : DefRec) (x : Str) (c P : Addr), (recsOf q).find? (fun e => e.name == x) = some d' → PySem.W.tabIn (K w.params) x = some (c, P) → PySem.W.CodeHd h c P ∧ h.get? P = some { cls := .none, data := .fields #[] }) → LawG l.prog w (K w.params) n x mg fa h) :
    PySem.W.WalkO q loose XP YP l.row.toRowW d [] (fun f vs => PySem.call f vs) := by
  refine Att.attach_callB hn hdf fun w s₀ s₁ mg mb fa o pm cd doc a vs ns G Y ho hd hcd hmg hobj hints hlen hbits hg => ?_
  have KX := hY w _ Y
  obtain ⟨fd, cs, sp, hT, nT, C, hb, hsp, hF⟩ := F w mg fa _ KX G.T.g hmg (fun d' x c P hr ht => PySem.W.tab_of G.T KX hr ht)
  exact law_at KX G.T.g G.T.b G.T.builtins G.T.nolimit hg hT nT C G.T.bmain hobj hints (Nat.le_trans hlen hn2) hF hb fun H hH hS => hsp H a ns hlen hH hS
end Ow

set_option Elab.async false
set_option linter.all false
set_option maxRecDepth 100000
set_option maxHeartbeats 4000000
/-! A def by its body, over the store. -/
namespace Ev
open PySem PySem.Spec PyProof.Rows L2 Ow
def stE (n : Nat) (ws : List W) : EvS := ws.map some ++ List.replicate (n - ws.length) none
theorem er_start {K : PySem.W.Frag} {ι : List Addr} {H : Hp} {N : List Str} {ws : List W} {vs : List V} (r : VRs K ι H ws vs) : ER K ι H (stE N.length ws) (start N vs) := by
  refine ⟨by simp [stE, L2.start, r.len], fun i w e => ?_⟩
  unfold stE at e
  by_cases hi : i < ws.length
  · rw [List.getElem?_append_left (by rw [List.length_map]; exact hi), List.getElem?_map] at e
    cases ew : ws[i]? with
    | none => rw [ew] at e; cases e
    | some w' =>
      rw [ew] at e
      cases e
      obtain ⟨v, h1, h2⟩ := r.at ew
      refine ⟨v, ?_, h2⟩
      unfold L2.start
      rw [List.getElem?_append_left (by rw [List.length_map, r.len]; exact hi), List.getElem?_map, h1]
      rfl
  · rw [List.getElem?_append_right (by rw [List.length_map]; omega), List.length_map, List.getElem?_replicate] at e
    split at e <;> cases e
section
variable {P : Program} {w : World} {K : PySem.W.Frag} {mg : Str → Option Value} {base : Heap} {Tb : List Addr} {x qual : Str} {st : Stmt} {f : Addr} {fd : FuncData} {N ps : List Str} {k : Nat} {C : Con} {m : MS}
theorem sp_body {X : Cx} {st' : List Stmt} {a : C.α} {ι : List Addr} {ws : List W} {S : Store} {H : Hp} {vs : List V} {Q : VK} (hm : ESs X Tb st' m) (hN : X.N = N) (s : Sim X.K Tb ι S H) (r : VRs X.K ι H ws vs) (hp : C.pre a ws S)
    (q : ∀ w S', C.post a S w S' → ∀ ι' H' v, Sim X.K Tb ι' S' H' → Grow X.K ι H ι' H' → VR X.K ι' H' w v → Q v H')
    (vc : ∀ a ws S, C.pre a ws S → m { nx := fun _ S' => C.post a S .non S', rt := fun w S' => C.post a S w S' } (stE N.length ws) S) :
    LS X.K Tb m { nx := fun _ H' => Q .non H', rt := Q } (start N vs) H :=
  ⟨ι, stE N.length ws, S, s, er_start r, hm.mono { nx := fun _ S' => C.post a S .non S', rt := fun w S' => C.post a S w S' } _ _ _ ⟨fun e S' po ι' H' σ' s' g' _ => q .non S' po ι' H' .non s' g' rfl, fun w S' po ι' H' v s' g' r' => q w S' po ι' H' v s' g' r', fun _ _ h => h.elim, fun _ _ h => h.elim⟩ (vc a ws S hp)⟩
theorem dn_of (F : Fun K x qual st f fd) (g : mg x = some (.ref f)) (b : Binds K fd ps []) (Sc : FnScope N ps (defScope st)) (len : ∀ a ws S, C.pre a ws S → ws.length = ps.length)
    (hm : ∀ (cdv : Value) (A : Around) (outer : List Env) (s : Shared) (H : Hp) (E : XK), Room k (A.deeper (envOfC qual (defScope st) s.heap.objs.size f cdv)) → ESs (cxOf CX0 P w K mg base N qual (defScope st) f cdv A outer s H E).nox Tb (defBody st) m)
    (vc : ∀ a ws S, C.pre a ws S → m { nx := fun _ S' => C.post a S .non S', rt := fun w S' => C.post a S w S' } (stE N.length ws) S) : Dn P w K mg base Tb x ps (k + 1) C := by
  refine ⟨f, fd, F.ok Sc (fun vs H Q E h => ?_) (fun cdv A outer s H vs Q E hr h => ?_), g, F.kp, b⟩
  · obtain ⟨ι, ws, S, a, s, r, hp, _⟩ := h
    rw [r.len, len a ws S hp]
  · obtain ⟨ι, ws, S, a, si, r, hp, q⟩ := h
    have hm' := hm cdv A outer s H E hr
    exact ⟨_, hm'.ps, sp_body (X := (cxOf CX0 P w K mg base N qual (defScope st) f cdv A outer s H E).nox) hm' rfl si r hp q vc⟩
/-- .. whose code is at c -/
theorem dn_ofC {c : Addr} {oc : Value} {od an : Option Addr} {osl : Array (Option Value)} {kV doc pm ct : Value}
    (lk : K.lookup f = some ⟨oc, od, .func (PySem.W.fnOf x qual (defArgs st) (defBody st) (defScope st) .none kV doc pm an (.ref c) ct), osl⟩) (hcd : PySem.W.codeIn K (.ref c) qual = true) (kp : PySem.W.keepIn K (.ref f) = true)
    (g : mg x = some (.ref f)) (b : Binds K (PySem.W.fnOf x qual (defArgs st) (defBody st) (defScope st) .none kV doc pm an (.ref c) ct) ps []) (Sc : FnScope N ps (defScope st)) (len : ∀ a ws S, C.pre a ws S → ws.length = ps.length)
    (hm : ∀ (A : Around) (outer : List Env) (s : Shared) (H : Hp) (E : XK), Room k (A.deeper (envOfC qual (defScope st) s.heap.objs.size f (.ref c))) → ESs (cxOf CX0 P w K mg base N qual (defScope st) f (.ref c) A outer s H E).nox Tb (defBody st) m)
    (vc : ∀ a ws S, C.pre a ws S → m { nx := fun _ S' => C.post a S .non S', rt := fun w S' => C.post a S w S' } (stE N.length ws) S) : Dn P w K mg base Tb x ps (k + 1) C := by
  refine ⟨f, _, fn_code lk hcd Sc (fun vs H Q E h => ?_) (fun A outer s H vs Q E hr h => ?_), g, kp, b⟩
  · obtain ⟨ι, ws, S, a, s, r, hp, _⟩ := h
    rw [r.len, len a ws S hp]
  · obtain ⟨ι, ws, S, a, si, r, hp, q⟩ := h
    have hm' := hm A outer s H E hr
    exact ⟨_, hm'.ps, sp_body (X := (cxOf CX0 P w K mg base N qual (defScope st) f (.ref c) A outer s H E).nox) hm' rfl si r hp q vc⟩
theorem Dn.mono {j k : Nat} (D : Dn P w K mg base Tb x ps j C) (h : j ≤ k) : Dn P w K mg base Tb x ps k C := by
  obtain ⟨f, fd, F, r⟩ := D.ex
  exact ⟨f, fd, F.mono h, r⟩
/-- another contract of the same def -/
theorem Dn.imp {D : Con} (d : Dn P w K mg base Tb x ps k C) (h : ∀ a ws S, D.pre a ws S → ∃ b, C.pre b ws S ∧ ∀ w S', C.post b S w S' → D.post a S w S') : Dn P w K mg base Tb x ps k D := by
  obtain ⟨f, fd, F, r⟩ := d.ex
  refine ⟨f, fd, F.imp fun vs H Q E z => ?_, r⟩
  obtain ⟨ι, ws, S, a, s, rv, hp, q⟩ := z
  obtain ⟨b, hb, hq⟩ := h a ws S hp
  exact ⟨ι, ws, S, b, s, rv, hb, fun w S' po => q w S' (hq w S' po)⟩
end
/-- a def that tells f of what it's given, of things in the store at most new ones -/
def fnC (dom : List W → Store → Prop) (f : List W → Store → W) : Con := ⟨Unit, fun _ ws S => dom ws S, fun _ _ _ _ => True⟩
/-- told a value that is reckoned from the values alone -/
structure PA where
  ws : List W
  r : W
def pureC (R : List W → W → Prop) : Con := ⟨PA, fun a ws _ => ws = a.ws ∧ R a.ws a.r, fun a S w S' => w = a.r ∧ ∃ more, S' = S ++ more⟩
end Ev

set_option Elab.async false
set_option linter.all false
set_option maxRecDepth 100000
set_option maxHeartbeats 4000000
/-! Sets of texts: set(a list of texts), len, sorted. -/
namespace OwS
open PySem PySem.Spec PyProof.Rows L2
def txOf (e : Int × Value) : Str := match e.2 with
  | .str x _ => x
  | _ => Str.empty
/-- at a stands the set of texts with the members S, n of them; it can be walked -/
def TxR (P : Program) (w : World) (h : Heap) (a : Addr) (S : Str → Bool) (n : Nat) : Prop :=
  ∃ o es ep t, h.get? a = some o ∧ o.ExactSet ∧ o.data = .set es ep t ∧ ElemsOf (PySem.strKind P w) es.toList ∧ (es.toList.map txOf).Nodup ∧
    (∀ k, S k = true ↔ k ∈ es.toList.map txOf) ∧ es.size < scanBound ∧ t.fits es.size = true ∧ es.size = n ∧ Ris t.place.toList ∧ (w.params.followText "set-order" = true ∨ t.led = true)
section
variable {P : Program} {w : World} {h h' : Heap} {a : Addr} {S : Str → Bool} {n : Nat}
theorem TxR.keep (R : TxR P w h a S n) (k : ∀ o, h.get? a = some o → h'.get? a = some o) : TxR P w h' a S n := by
  obtain ⟨o, es, ep, t, ho, r⟩ := R
  exact ⟨o, es, ep, t, k o ho, r⟩
theorem TxR.lt (R : TxR P w h a S n) : a < h.objs.size := by
  obtain ⟨o, es, ep, t, ho, r⟩ := R
  exact Heap.lt_size ho
theorem tx_is {l : List (Int × Value)} (g : ElemsOf (PySem.strKind P w) l) {e : Int × Value} (he : e ∈ l) (k : Str) : (PySem.strKind P w).is k e.2 = true ↔ txOf e = k := by
  obtain ⟨⟨k', h1, _⟩, _⟩ := g e he
  obtain ⟨t, h2⟩ := PySem.Value.isStrOf_shape (show PySem.Value.isStrOf k' e.2 = true from h1)
  unfold txOf
  rw [h2]
  constructor
  · intro z
    exact PySem.Value.isStrOf_inj (.str k' t) k' k (by rw [← h2]; exact h1) z
  · intro z
    subst z
    exact strKind_is P w _ t
theorem tx_mem {l : List (Int × Value)} (g : ElemsOf (PySem.strKind P w) l) (k : Str) : k ∈ l.map txOf ↔ ∃ e ∈ l, (PySem.strKind P w).is k e.2 = true := by
  rw [List.mem_map]
  constructor
  · rintro ⟨e, he, q⟩
    exact ⟨e, he, (tx_is g he k).mpr q⟩
  · rintro ⟨e, he, q⟩
    exact ⟨e, he, (tx_is g he k).mp q⟩
theorem TxR.setOf (R : TxR P w h a S n) : h.SetOf (PySem.strKind P w) a S n := by
  obtain ⟨o, es, ep, t, ho, ex, hd, g, nd, hm, hb, hf, hn, _⟩ := R
  exact ⟨o, es, ep, t, ho, ex, hd, g, fun k => (hm k).trans (tx_mem g k), hb, hf, hn⟩
theorem elems_perm {l m : List (Int × Value)} (p : l.Perm m) (g : ElemsOf (PySem.strKind P w) m) : ElemsOf (PySem.strKind P w) l := fun e he => g e (p.mem_iff.mp he)
end
section
variable {P : Program} {w : World} {A : Around} {E : Value → Shared → Prop} {s : Shared} {a : Addr} {S : Str → Bool} {n : Nat}
/-- what is to be stored: the new entries es1 in the table t2 -/
structure New (P : Program) (w : World) (es1 : Array (Int × Value)) (t2 : SetTable) (S' : Str → Bool) : Prop where
  el : ElemsOf (PySem.strKind P w) es1.toList
  nd : (es1.toList.map txOf).Nodup
  mem : ∀ k, S' k = true ↔ k ∈ es1.toList.map txOf
  few : es1.size < scanBound
  fit : t2.fits es1.size = true
  ris : Ris t2.place.toList
  led : w.params.followText "set-order" = true ∨ t2.led = true
theorem New.at {h : Heap} {o : Obj} {es1 : Array (Int × Value)} {ep : Nat} {t2 : SetTable} {S' : Str → Bool} (N : New P w es1 t2 S') (ho : h.get? a = some o) (ex : o.ExactSet) (hd : o.data = .set es1 ep t2) : TxR P w h a S' es1.size :=
  ⟨o, es1, ep, t2, ho, ex, hd, N.el, N.nd, N.mem, N.few, N.fit, rfl, N.ris, N.led⟩
theorem New.relaid {es1 : Array (Int × Value)} {t2 : SetTable} {S' : Str → Bool} (N : New P w es1 t2 S') (k : Nat) :
    New P w (relayAll t2 es1 k).1 (relayAll t2 es1 k).2.1 S' ∧ (relayAll t2 es1 k).1.size = es1.size := by
  have pm := relayAll_perm t2 es1 k
  have sz : (relayAll t2 es1 k).1.size = es1.size := by
    rw [← Array.length_toList]
    exact pm.length_eq.trans Array.length_toList
  refine ⟨⟨elems_perm pm N.el, (pm.map txOf).nodup_iff.mpr N.nd, fun q => (N.mem q).trans (pm.map txOf).mem_iff.symm, ?_, relayAll_fits t2 es1 k, relayAll_ris t2 es1 k, ?_⟩, sz⟩
  · rw [sz]
    exact N.few
  · rw [relayAll_led]
    exact N.led
theorem New.laid {es : Array (Int × Value)} {t : SetTable} {k : Str} {tk : Tok} (g : ElemsOf (PySem.strKind P w) es.toList) (nd : (es.toList.map txOf).Nodup) (hm : ∀ q, S q = true ↔ q ∈ es.toList.map txOf) (room : es.size + 1 < scanBound)
    (hf : t.fits es.size = true) (hr : Ris t.place.toList) (hl : w.params.followText "set-order" = true ∨ t.led = true) (hk : k ∉ es.toList.map txOf) {hs : Int} (ehs : hs = (PySem.strKind P w).hash k) :
    New P w (layNew t es hs (.str k tk)).1 (layNew t es hs (.str k tk)).2.1 (fun j => S j || decide (j = k)) ∧ (layNew t es hs (.str k tk)).1.size = es.size + 1 := by
  have pm : (layNew t es hs (.str k tk)).1.toList.Perm ((hs, Value.str k tk) :: es.toList) := by
    have q := layNew_perm t es hs (.str k tk)
    rw [Array.toList_push] at q
    exact q.trans (List.perm_append_singleton _ _)
  have pk : ((layNew t es hs (.str k tk)).1.toList.map txOf).Perm (k :: es.toList.map txOf) := pm.map txOf
  have sz : (layNew t es hs (.str k tk)).1.size = es.size + 1 := by
    rw [← Array.length_toList, pm.length_eq, List.length_cons, Array.length_toList]
  refine ⟨⟨elems_perm pm fun e he => ?_, pk.nodup_iff.mpr (List.nodup_cons.mpr ⟨hk, nd⟩), fun q => ?_, by rw [sz]; exact room, layNew_fits t es hs (.str k tk), layNew_ris t es hs (.str k tk) hr, ?_⟩, sz⟩
  · rcases List.mem_cons.mp he with z | z
    · rw [z]
      exact ⟨⟨k, strKind_is P w k tk, ehs⟩, rfl⟩
    · exact g e z
  · rw [pk.mem_iff, List.mem_cons, ← hm q, Bool.or_eq_true, decide_eq_true_eq]
    exact Or.comm
  · rw [layNew_led]
    exact hl
end
end OwS
namespace OwS
open PySem PySem.Spec PyProof.Rows L2
section
variable {P : Program} {w : World} {A : Around} {E : Value → Shared → Prop} {s : Shared} {a : Addr} {S : Str → Bool} {n : Nat}
theorem tx_store {g : Bool → Sem Unit} (quiet : ∀ (b : Bool) (s1 : Shared) (Q' : Unit → Shared → Prop), Q' () s1 → wpAny (model P w) A (g b) Q' E s1)
    {o : Obj} {es : Array (Int × Value)} {ep : Nat} {t : SetTable} (ho : s.heap.get? a = some o) (ex : o.ExactSet) (hd : o.data = .set es ep t)
    {es1 : Array (Int × Value)} {t2 : SetTable} {S' : Str → Bool} (N : New P w es1 t2 S') {old : Bool} {R : Option Bool → Shared → Prop}
    (fin : ∀ h', Heap.SameBut a s.heap h' → TxR P w h' a S' es1.size → R (some true) { s with heap := h' }) :
    wpAny (model P w) A (do
        storeSet a es1 t2
        if (!old && t2.tooFull) = true then do
            g (relayAll t2 es1 (SetTable.grown es1.size)).2.2
            storeSet a (relayAll t2 es1 (SetTable.grown es1.size)).1 (relayAll t2 es1 (SetTable.grown es1.size)).2.1
            pure (some true)
          else pure (some true)) R E s := by
  refine wpAny_bind (wpAny_storeSet_of ho hd ?_ (fits_of_scanBound N.few))
  have there := store_at (es' := es1) (t' := t2) ho hd
  have but := Heap.SameBut.update s.heap a (Obj.putSet es1 t2)
  by_cases full : (!old && t2.tooFull) = true
  · rw [if_pos full]
    obtain ⟨N3, sz⟩ := N.relaid (SetTable.grown es1.size)
    refine wpAny_bind (quiet _ _ _ ?_)
    refine wpAny_bind (wpAny_storeSet_of there rfl ?_ (fits_of_scanBound N3.few))
    have there2 := store_at (es' := (relayAll t2 es1 (SetTable.grown es1.size)).1) (t' := (relayAll t2 es1 (SetTable.grown es1.size)).2.1) there rfl
    refine wpAny_pure (fin _ (but.trans (Heap.SameBut.update _ a _)) ?_)
    have q := N3.at (a := a) there2 ex rfl
    rw [sz] at q
    exact q
  · rw [if_neg full]
    exact wpAny_pure (fin _ but (N.at (a := a) there ex rfl))
theorem tx_add {k : Str} {tk : Tok} {Q : Bool → Shared → Prop} (R : TxR P w s.heap a S n) (room : n + 1 < scanBound)
    (hQ : ∀ h', Heap.SameBut a s.heap h' → TxR P w h' a (fun j => S j || decide (j = k)) (if S k = true then n else n + 1) → Q (!S k) { s with heap := h' }) :
    wpAny (model P w) A (setAddHashed a (.str k tk) ((PySem.strKind P w).hash k)) Q E s := by
  obtain ⟨o, es, ep, t, ho, ex, hd, g, nd, hm, hb, hf, hn, hr, hl⟩ := R
  have key := strKind_is P w k tk
  have flat : (Value.str k tk).scannable = true := rfl
  unfold setAddHashed setAddHashedIn
  refine wpAny_holding ?_
  refine wpAny_bind (wpAny_setState_of ho hd hf ?_)
  dsimp only
  rw [byScan_of flat hb g]
  simp only [↓reduceIte]
  unfold setAddByScan
  refine wpAny_bind ?_
  refine wpAny_bind ?_
  refine wpAny_rule ?_
  refine wpAny_bind ?_
  refine wpAny_setScan_of key ho hd hf g ?_
  cases found : List.findIdx? (fun e => (PySem.strKind P w).is k e.2) es.toList with
  | some j =>
    dsimp only
    obtain ⟨hj, pj, _⟩ := List.findIdx?_eq_some_iff_getElem.mp found
    have has : S k = true := (hm k).mpr ((tx_mem g k).mpr ⟨es.toList[j], List.getElem_mem hj, pj⟩)
    refine wpAny_pure (wpAny_pure ?_)
    have q := hQ s.heap (Heap.SameBut.refl a s.heap) ⟨o, es, ep, t, ho, ex, hd, g, nd, fun i => by
      rw [Bool.or_eq_true, decide_eq_true_eq, ← hm i]
      exact ⟨fun z => z.elim id fun e => by rw [e]; exact has, Or.inl⟩, hb, hf, by rw [if_pos has]; exact hn, hr, hl⟩
    rw [has] at q
    exact q
  | none =>
    dsimp only
    have notIn : k ∉ es.toList.map txOf := fun z => by
      obtain ⟨e, he, q⟩ := (tx_mem g k).mp z
      have c := List.findIdx?_eq_none_iff.mp found e he
      rw [q] at c
      cases c
    have hasN : S k = false := by
      cases q : S k with
      | false => rfl
      | true => exact absurd ((hm k).mp q) notIn
    have way : ∀ (b : Bool) {s1 : Shared} {Q' : Unit → Shared → Prop}, Q' () s1 → wpAny (model P w) A (match b with | true => rule "set.scan.the-table-gave-way" | false => pure ()) Q' E s1 := by
      intro b s1 Q' q
      cases b
      · exact wpAny_pure q
      · exact wpAny_rule q
    obtain ⟨N, sz⟩ := New.laid (S := S) (tk := tk) g nd hm (by rw [hn]; exact room) hf hr hl notIn (hs := (PySem.strKind P w).hash k) rfl
    have fin : ∀ h', Heap.SameBut a s.heap h' → TxR P w h' a (fun j => S j || decide (j = k)) (es.size + 1) → Q true { s with heap := h' } := fun h' sb r => by
      have q := hQ h' sb
      rw [hasN] at q
      rw [hn] at r
      exact q r
    rw [← sz] at fin
    generalize layNew t es ((PySem.strKind P w).hash k) (.str k tk) = Z at N fin ⊢
    obtain ⟨es1, t1, old, gave⟩ := Z
    dsimp only at N fin ⊢
    refine wpAny_bind (way _ ?_)
    have quiet : ∀ (b : Bool) (s1 : Shared) (Q' : Unit → Shared → Prop), Q' () s1 → wpAny (model P w) A (match b with | true => rule "set.scan.the-table-gave-way" | false => pure ()) Q' E s1 := fun b s1 Q' q => way b q
    split
    · refine wpAny_bind ?_
      rw [hashByValue_scannable 8 flat]
      refine wpAny_pure ?_
      refine tx_store (S' := fun j => S j || decide (j = k)) ?_ ho ex hd ?_ ?_
      · intro b s1 Q' q
        cases b
        · first | exact wpAny_pure q | exact wpAny_rule q
        · first | exact wpAny_pure q | exact wpAny_rule q
      · have N' := N
        obtain ⟨a1, a2, a3, a4, a5, a6, a7⟩ := N'
        first
          | exact N
          | (refine ⟨a1, a2, a3, a4, ?_, ?_, ?_⟩
             · split
               · first | exact a5 | exact SetTable.fits_plain_off a5
               · first | exact a5 | exact SetTable.fits_plain_off a5
             · split <;> exact a6
             · split <;> exact a7)
      · intro h' sb r
        dsimp only
        exact wpAny_pure (fin h' sb r)
    · refine wpAny_bind (wpAny_pure ?_)
      simp only [↓reduceIte]
      refine tx_store (S' := fun j => S j || decide (j = k)) ?_ ho ex hd N ?_
      · intro b s1 Q' q
        cases b
        · first | exact wpAny_pure q | exact wpAny_rule q
        · first | exact wpAny_pure q | exact wpAny_rule q
      · intro h' sb r
        dsimp only
        exact wpAny_pure (fin h' sb r)
end
end OwS
namespace OwS
open PySem PySem.Spec PyProof.Rows L2
def has (xs : List Str) : Str → Bool := fun k => decide (k ∈ xs)
theorem TxR.congr {P : Program} {w : World} {h : Heap} {a : Addr} {S S' : Str → Bool} {n n' : Nat} (R : TxR P w h a S n) (e : ∀ k, S k = S' k) (en : n = n') : TxR P w h a S' n' := by
  obtain rfl : S = S' := funext e
  subst en
  exact R
section
variable {prog : Program} {w : World} {A : Around} {R : Result → Shared → Prop} {I : Addr} {fp wr : List Addr} {G : Array GenState → Array GenState → Prop} {n : Nat} {P : Nat → Value → Prop} {St : Nat → Shared → Prop}
/-- the texts of xs go into the set at S, one by one -/
theorem tx_loop (W : WalksS prog w A.in1 I fp wr G n P St) (S : Addr) (apart : S ∉ fp) (xs : List Str) (sz : xs.length = n) (few : n + 1 < scanBound) (val : ∀ i v, P i v → ∃ x t, xs[i]? = some x ∧ v = .str x t) :
    ∀ (k i : Nat) (s : Shared), n - i = k → i ≤ n → St i s → (∃ m, m ≤ i ∧ TxR prog w s.heap S (has (xs.take i)) m) →
      (∀ s' m, Moved (S :: wr) G s s' → TxR prog w s'.heap S (has xs) m → R (.ok (.ret .none)) s') →
      codeAny (model prog w) A (.builtin "set.update.loop" ⟨[.ref S, .ref I], []⟩) R s := by
  have notWr : S ∉ wr := fun z => apart (W.sub _ z)
  have more : ∀ b ∈ wr, b ∈ S :: wr := fun b hb => List.mem_cons_of_mem _ hb
  intro k
  induction k with
  | zero =>
    intro i s hk hi hst hS hR
    obtain rfl : i = n := by omega
    obtain ⟨m, _, r⟩ := hS
    refine codeAny_builtin PyProof.Rows.F.entry_set_update_loop ?_
    rw [Around.under_plainId PyProof.Rows.F.plain_set_update_loop _]
    show wpAny _ A.in1 (pyNext (.ref I) >>= _) _ _ s
    refine wpAny_bind (W.done s _ _ hst fun s' moved => ?_)
    show wpAny _ A.in1 (ret Value.none) _ _ s'
    refine wpAny_pure (hR s' m (moved.mono more) ?_)
    have e : xs.take i = xs := List.take_of_length_le (by omega)
    rw [e] at r
    exact r.keep fun o e => moved.heap S o notWr e
  | succ k ih =>
    intro i s hk hi hst hS hR
    have lt : i < n := by omega
    obtain ⟨m, hm, r⟩ := hS
    refine codeAny_builtin PyProof.Rows.F.entry_set_update_loop ?_
    rw [Around.under_plainId PyProof.Rows.F.plain_set_update_loop _]
    show wpAny _ A.in1 (pyNext (.ref I) >>= _) _ _ s
    refine wpAny_bind (W.item i s _ _ lt hst fun v s' hv hst' moved => ?_)
    obtain ⟨x, t, hx, rfl⟩ := val i v hv
    have r' := r.keep fun o e => moved.heap S o notWr e
    show wpAny _ A.in1 (holding [Value.str x t] (setAdd S (.str x t)) >>= _) _ _ s'
    refine wpAny_bind ?_
    refine wpAny_holding ?_
    unfold setAdd
    refine wpAny_holding ?_
    refine wpAny_bind ?_
    refine (PySem.strKind prog w).pyHash (k := x) (strKind_is _ _ _ _) ?_
    refine tx_add (s := { s' with toks := s'.toks + 1 }) r' (by omega) fun h' but r2 => ?_
    have r3 : ∃ m', m' ≤ i + 1 ∧ TxR prog w h' S (has (xs.take (i + 1))) m' := by
      refine ⟨_, ?_, r2.congr (fun q => ?_) rfl⟩
      · split <;> omega
      · unfold has
        rw [List.take_add_one, hx]
        show (decide (q ∈ xs.take i) || decide (q = x)) = decide (q ∈ xs.take i ++ [x])
        rw [← Bool.decide_or]
        exact decide_eq_decide.mpr (by rw [List.mem_append, List.mem_singleton])
    refine wpAny_pure ⟨plainId_quiet PyProof.Rows.F.plain_set_update_loop _, ih (i + 1) _ (by omega) lt (W.frame _ s' _ _ hst' (Nat.le_succ _) fun b hb o e => ?_) r3 fun s'' m' moved2 r4 => ?_⟩
    · refine (but.2 b fun z => apart ?_).trans e
      rw [← z]
      exact hb
    · refine hR s'' m' (Moved.trans W.gtrans ((moved.mono more).then_heap (Nat.le_succ _) fun b o hb e => ?_) moved2) r4
      refine (but.2 b fun z => hb ?_).trans e
      rw [z]
      exact List.mem_cons_self
end
theorem tx_fresh {P : Program} {w : World} {h : Heap} {a : Addr} (e : h.get? a = some { cls := .type "set", dict := none, data := .set #[] 0 (.fresh 0 0 (!w.params.followText "set-order")) }) : TxR P w h a (fun _ => false) 0 := by
  refine ⟨_, #[], 0, _, e, ⟨rfl, rfl, rfl⟩, rfl, fun x hx => absurd hx (by simp), List.nodup_nil, fun k => by simp, by decide, rfl, rfl, List.Pairwise.nil, ?_⟩
  cases z : w.params.followText "set-order" with
  | true => exact .inl rfl
  | false =>
    refine .inr ?_
    rw [show (!false) = true from rfl]
    rfl
end OwS
namespace OwS
open PySem PySem.Spec PyProof.Rows L2
/-- a set just made -/
abbrev bare (w : World) : Obj := { cls := .type "set", dict := none, data := .set #[] 0 (.fresh 0 0 (!w.params.followText "set-order")) }
section
variable {prog : Program} {w : World} {A : Around} {E : Value → Shared → Prop} {s : Shared}
theorem txs_at : ∀ {vs : List Value} {xs : List Str}, StrsAre vs xs → ∀ (i : Nat) (v : Value), vs[i]? = some v → ∃ x t, xs[i]? = some x ∧ v = .str x t
  | _, _, .nil, i, v, h => by simp at h
  | _, _, .cons x t r, 0, v, h => ⟨x, t, rfl, (Option.some.inj h).symm⟩
  | _, _, .cons x t r, i + 1, v, h => txs_at r i v h
/-- behind set.__init__ the texts are in -/
def Filled (prog : Program) (w : World) (s : Shared) (xs : List Str) (E : Value → Shared → Prop) : Result → Shared → Prop :=
  wants (fun r s2 => r = .none ∧ ∃ h' tk m, s2 = { s with heap := h', toks := tk } ∧ TxR prog w h' s.heap.objs.size (has xs) m ∧ ∀ b o, s.heap.get? b = some o → h'.get? b = some o) E
theorem call_set_texts {l : Addr} {items : Array Value} {xs : List Str} {Q : Value → Shared → Prop} (calm : A.handled = none) (hl : s.heap.IsList l items) (hi : StrsAre items.toList xs) (few : xs.length + 1 < scanBound)
    (fin : ∀ (h' : Heap) (tk m : Nat), TxR prog w h' s.heap.objs.size (has xs) m → (∀ b o, s.heap.get? b = some o → h'.get? b = some o) → Q (.ref s.heap.objs.size) { s with heap := h', toks := tk }) :
    wpAny (model prog w) A (call (.type "set") [.ref l]) Q E s := by
  have sz : xs.length = items.size := by
    have q := StrsAre.len_eq hi
    rw [Array.length_toList] at q
    exact q.symm
  obtain ⟨c, tl, hmro⟩ := F.called_set.mro
  have made := F.called_set.made
  have sub := F.called_set.sub
  have noType := F.called_set.notType
  have create := F.called_set.canCreate
  have typeCall := F.typeCall_set_1 (.ref l)
  refine wpAny_call ?_
  refine codeAny_of_tree ?_
  show wpAny _ _ (callAny (.type "set") _) _ _ _
  refine wpAny_pure ⟨Code.quiet_builtin _ (by decide +kernel), ?_⟩
  refine codeAny_builtin F.entry_type_call ?_
  rw [Around.under_plain (weight_type_call_type "set" [.ref l] []) rfl]
  repeat (any_goals (first | assumption | wp_step))
  refine codeAny_mono (code_set_led1 (.ref l) (E := E) (Q₁ := fun obj s1 => obj = .ref s.heap.objs.size ∧ s1 = { s with heap := s.heap.push (bare w) }) ⟨rfl, rfl⟩) ?_
  intro r s1 hr
  cases r with
  | error e => exact hr
  | ok fl =>
    cases fl with
    | next => exact hr.elim
    | brk => exact hr.elim
    | cont => exact hr.elim
    | ret obj =>
      obtain ⟨rfl, rfl⟩ := hr
      have atS : (s.heap.push (bare w)).get? s.heap.objs.size = some (bare w) := Heap.get?_push_size _ rfl
      have isSet : Shared.TypeIs { s with heap := s.heap.push (bare w) } (.ref s.heap.objs.size) "set" := ⟨_, atS, rfl⟩
      have look := F.called_set.init.lookup
      have bind := F.called_set.init.bind (.ref s.heap.objs.size)
      repeat (any_goals (first | assumption | wp_step))
      refine codeAny_mono (codeAny_call_builtin (R := Filled prog w s xs E) F.called_set.init.plain F.entry_set_init (check_set_init_1 isSet ?_)) ?_
      · obtain ⟨ol, hol, hcl, nl, hdl⟩ := hl
        obtain ⟨ocls, odict, odata, oslots⟩ := ol
        simp only at hcl hdl
        subst hcl hdl
        have there : (s.heap.push (bare w)).get? l = some { cls := .type "list", dict := odict, data := .seq items nl, slots := oslots } := Heap.get?_push_of_some _ hol
        have isL : (s.heap.push (bare w)).IsList l items := ⟨_, there, rfl, nl, rfl⟩
        have s1 := F.sub_list_set
        have s2 := F.sub_list_frozenset
        have s3 : (Value.type "list" == Value.type "dict") = false := by decide
        unfold Builtin.«set.__init__» noKeywords Builtin.Frozenset.updateFrom
        generalize hit : pyIter = it
        wp_walk
        subst hit
        refine wpAny_pyIter_list isL ?_
        refine wpAny_bind ?_
        refine wpAny_runValue ?_
        have below : l < s.heap.objs.size := Heap.lt_size hol
        have calm3 : A.in1.in1.in1.handled = none := by simp [calm]
        have grown : (s.heap.push (bare w)).objs.size = s.heap.objs.size + 1 := Heap.size_push ..
        have ne1 : l ≠ (s.heap.push (bare w)).objs.size := by
          rw [grown]
          exact Nat.ne_of_lt (Nat.lt_succ_of_lt below)
        have apart : s.heap.objs.size ∉ [(s.heap.push (bare w)).objs.size, l] := by
          rw [grown]
          intro z
          rcases List.mem_cons.mp z with z | z
          · exact Nat.ne_of_lt (Nat.lt_succ_self _) z
          · exact Nat.ne_of_gt below (List.mem_singleton.mp z)
        refine tx_loop ((Walks.list calm3 _ l ne1 items).toS) s.heap.objs.size apart xs sz (by rw [← sz]; exact few) (fun i v hv => ?val) (items.size - 0) 0 _ (by omega) (Nat.zero_le _) ⟨⟨_, Heap.get?_push_size _ rfl, rfl, rfl⟩, (isL.push _)⟩ ⟨0, Nat.le_refl _, ?start⟩ ?behind
        case val =>
          refine txs_at hi i v ?_
          rw [Array.getElem?_toList]
          exact hv
        case start =>
          refine (tx_fresh ?_).congr (fun q => ?_) rfl
          · exact Heap.get?_push_of_some _ atS
          · unfold has
            simp
        case behind =>
          intro s' m moved r
          obtain ⟨h', g', d', tk', os'⟩ := s'
          obtain rfl : g' = s.gens := moved.gens
          obtain rfl : d' = s.drawn := moved.drawn
          obtain rfl : os' = s.os := moved.os
          show wpAny _ _ _ _ _ _
          refine wpAny_pure ?_
          show wpAny _ _ (ret Value.none) _ _ _
          refine wpAny_pure ⟨rfl, h', tk', m, rfl, r, fun b o e => ?_⟩
          have lt : b < s.heap.objs.size := Heap.lt_size e
          refine moved.heap b o ?_ (Heap.get?_push_of_some _ (Heap.get?_push_of_some _ e))
          rw [grown]
          intro z
          rcases List.mem_cons.mp z with z | z
          · exact Nat.ne_of_lt lt z
          · exact Nat.ne_of_lt (Nat.lt_succ_of_lt lt) (List.mem_singleton.mp z)
      · intro r2 s2 hr2
        cases r2 with
        | error e => exact hr2
        | ok fl2 =>
          cases fl2 with
          | next => exact hr2.elim
          | brk => exact hr2.elim
          | cont => exact hr2.elim
          | ret r =>
            obtain ⟨rfl, h', tk, m, rfl, q1, q2⟩ := hr2
            repeat (any_goals (first | assumption | wp_step))
            exact fin _ _ _ q1 q2
end
end OwS
namespace OwS
open PySem PySem.Spec PyProof.Rows L2
section
variable {prog : Program} {w : World} {A : Around} {E : Value → Shared → Prop} {s : Shared}
theorem strs_of_elems : ∀ (l : List (Int × Value)), ElemsOf (PySem.strKind prog w) l → StrsAre (l.map (·.2)) (l.map txOf)
  | [], _ => .nil
  | e :: l, h => by
    obtain ⟨⟨k, h1, _⟩, _⟩ := h e List.mem_cons_self
    obtain ⟨t, h2⟩ := PySem.Value.isStrOf_shape (show PySem.Value.isStrOf k e.2 = true from h1)
    have h3 := strs_of_elems l fun x hx => h x (List.mem_cons_of_mem _ hx)
    have e1 : txOf e = k := by
      unfold txOf
      rw [h2]
    rw [List.map_cons, List.map_cons, e1, h2]
    exact .cons k t h3
theorem strs_perm {vs us : List Value} (p : vs.Perm us) : ∀ {xs : List Str}, StrsAre us xs → ∃ ys, StrsAre vs ys ∧ ys.Perm xs := by
  induction p with
  | nil =>
    intro xs h
    exact ⟨xs, h, List.Perm.refl _⟩
  | cons x p ih =>
    intro xs h
    cases h with
    | cons k t r =>
      obtain ⟨ys, h1, h2⟩ := ih r
      exact ⟨k :: ys, .cons k t h1, h2.cons k⟩
  | swap x y l =>
    intro xs h
    cases h with
    | cons k t r =>
      cases r with
      | cons k2 t2 r2 => exact ⟨_, .cons k2 t2 (.cons k t r2), List.Perm.swap _ _ _⟩
  | trans p1 p2 ih1 ih2 =>
    intro xs h
    obtain ⟨ys, h1, h2⟩ := ih2 h
    obtain ⟨zs, h3, h4⟩ := ih1 h1
    exact ⟨zs, h3, h4.trans h2⟩
theorem sorted_texts {a : Addr} {S : Str → Bool} {n : Nat} {Q : Value → Shared → Prop} (R : TxR prog w s.heap a S n) (calm : A.handled = none)
    (fin : ∀ s' p (out : Array Value) (c : Nat) (ys : List Str), (∀ b o, s.heap.get? b = some o → s'.heap.get? b = some o) → s'.gens = s.gens → s'.os = s.os → s.heap.objs.size ≤ p →
      s'.heap.get? p = some (seqObj "list" out c) → StrsAre out.toList ys → ys.Nodup → sortedS ys = true → (∀ k, S k = true ↔ k ∈ ys) → ys.length = n → Q (.ref p) s') :
    wpAny (model prog w) A (call (.builtin "sorted") [.ref a]) Q E s := by
  obtain ⟨o, es, ep, t, ho, ex, hd, g, nd, hm, hb, hf, hn, hr, hl⟩ := R
  refine Calls.call_function_entry kind_sorted plain_sorted entry_sorted (args_sorted1 _) ?_
  unfold Builtin.«sorted»
  refine wpAny_bind (m := checkCount "sorted" 1 1 _) ?_
  refine wpAny_pure ?_
  refine wpAny_bind ?_
  refine collect_set (A := A.in1) calm ⟨o, ho, ex.1, hd⟩ hf hb hr hl ?_
  intro s1 vs keep size gens os pm
  have len : vs.length = n := by
    rw [pm.length_eq, List.length_map, Array.length_toList]
    exact hn
  have lenLine : vs.length ≤ sizeLine := by
    have h1 : es.size < scanBound := hb
    have h2 : (scanBound : Nat) ≤ sizeLine := by decide
    omega
  obtain ⟨xs, sx, px⟩ := strs_perm pm (strs_of_elems es.toList g)
  refine wpAny_bind ?_
  refine wpAny_newList ?_ lenLine
  have atL : (s1.heap.push (seqObj "list" vs.toArray 0)).get? s1.heap.objs.size = some (seqObj "list" vs.toArray 0) := Heap.get?_push_size _ rfl
  refine wpAny_bind ?_
  refine wpAny_holding ?_
  refine wpAny_call_entry slot_list_sort ⟨_, atL, rfl⟩ entry_list_sort ?_ (args_list_sort _)
  refine list_sort_treeKAny strKind_oneLt atL sx.keysOf (fun v1 v2 rest e => keyKind_strs (by rw [← e]; exact sx)) lenLine ?_
  intro st' hp hs
  refine ⟨_, rfl, ?_⟩
  obtain ⟨ys, h1, h2, h3⟩ := sorted_out_str sx hp hs
  obtain ⟨c, hc⟩ := sortedHeap_at (vs := vs) (out := (arrOf st').map (·.2)) atL
  have py : ys.Perm (es.toList.map txOf) := h2.trans px
  refine wpAny_pure ⟨_, rfl, ?_⟩
  refine fin _ s1.heap.objs.size _ c ys (fun b u e => ?_) gens os size hc h1 (py.nodup_iff.mpr nd) h3 (fun k => ?_) ?_
  · have q := keep b u e
    have lt := Heap.lt_size q
    show (sortedHeap (s1.heap.push (seqObj "list" vs.toArray 0)) s1.heap.objs.size vs _).get? b = some u
    rw [sortedHeap_old (Nat.ne_of_lt lt) ?_]
    · exact Heap.get?_push_of_some _ q
    · rw [size_push']
      exact Nat.lt_succ_of_lt lt
  · rw [hm k, py.mem_iff]
  · rw [py.length_eq, List.length_map, Array.length_toList]
    exact hn
end
/-! ### the rules of the layer -/
def TxO (P : Program) (w : World) (a : Addr) (S : Str → Bool) (n : Nat) : HO := .ext fun h => TxR P w h a S n
theorem tx_new {w : World} {P : Program} {H : Hp} {h : Heap} {a : Addr} {S : Str → Bool} {n : Nat} (R : TxR P w h a S n) : ObjOk P w H h a (TxO P w a S n) := by
  obtain ⟨o, _, _, _, ho, _⟩ := id R
  exact ⟨R, ⟨o, ho⟩, fun h1 h2 p k => TxR.keep p k⟩
def rSetTx (K : PySem.W.Frag) (P : Program) (w : World) : List V → Hp → VK → Prop := fun vs H Q => ∃ (a : Addr) (xs : List Str), vs = [V.ref a] ∧ SqL K H a (xs.map V.str) ∧ xs.length ≤ 4000 ∧ ∀ p m, H p = none → Q (.ref p) (upd H p (TxO P w p (has xs) m))
theorem call_setTx {X : Cx} (hc : X.calm = true) : CallR X (.type "set") (rSetTx X.K X.prog X.w) := by
  intro pins s σ H vs us Q I r h
  obtain ⟨a, xs, rfl, hs, few, q⟩ := h
  obtain ⟨its, rv, pl, hz⟩ := I.list hs
  rw [Vals.ref1 r]
  refine call_set_texts (I.ok.hd hc) pl.isList (by simpa using strsAre_of rv) (by have : (4001 : Nat) < scanBound := by decide
                                                                                  omega) fun h' tk m R keep => ?_
  exact ⟨.ref s.heap.objs.size, upd H s.heap.objs.size (TxO X.prog X.w s.heap.objs.size (has xs) m), I.laid keep (Nat.le_refl _) (tx_new R), rfl, q _ m (I.hok.fresh (Nat.le_refl _))⟩
def rSortTx (P : Program) (w : World) : List V → Hp → VK → Prop := fun vs H Q => ∃ (a : Addr) (S : Str → Bool) (n : Nat), vs = [V.ref a] ∧ H a = some (TxO P w a S n) ∧
  ∀ (ys : List Str) (p : Addr), ys.Nodup → sortedS ys = true → (∀ k, S k = true ↔ k ∈ ys) → ys.length = n → H p = none → Q (.ref p) (upd H p (.lst (ys.map V.str)))
theorem call_sortTx {X : Cx} (hc : X.calm = true) : CallR X (.builtin "sorted") (rSortTx X.prog X.w) := by
  intro pins s σ H vs us Q I r h
  obtain ⟨a, S, n, rfl, ha, q⟩ := h
  have R : TxR X.prog X.w s.heap a S n := (I.hok a _ ha).1
  rw [Vals.ref1 r]
  refine sorted_texts R (I.ok.hd hc) ?_
  intro s' p out c ys keep gens os size at_ tx nd so mem len
  have few : ys.length ≤ sizeLine := by
    obtain ⟨o, es, ep, t, ho, ex, hd, g, _, hm, hb, hf, hn, _⟩ := R
    have h2 : (scanBound : Nat) ≤ sizeLine := by decide
    omega
  have fresh : H p = none := I.hok.fresh size
  have J : Inv X pins σ (upd H p (.lst (ys.map V.str))) { s with heap := s'.heap, gens := s'.gens, drawn := s'.drawn, toks := s'.toks } :=
    I.call (ch := []) (Un.laid keep size fresh) (I.hok.laid keep size ⟨by rw [List.length_map]; exact few, out.toList, c, vals_of_strs tx, at_⟩) (by rw [gens]; exact I.bare) (fun _ z => (nomatch z))
  have e : s' = { s with heap := s'.heap, gens := s'.gens, drawn := s'.drawn, toks := s'.toks } := by
    cases s'
    cases s
    cases os
    rfl
  rw [e]
  exact ⟨.ref p, _, J, rfl, q ys p nd so mem len fresh⟩
end OwS

set_option Elab.async false
set_option linter.all false
set_option maxRecDepth 100000
set_option maxHeartbeats 4000000
/-! set(texts) of a tuple; len(set(texts)). -/
namespace OwS
open PySem PySem.Spec PyProof.Rows L2
section
variable {prog : Program} {w : World} {A : Around} {E : Value → Shared → Prop} {s : Shared}
theorem call_set_textsT {l : Addr} {items : Array Value} {xs : List Str} {Q : Value → Shared → Prop} (calm : A.handled = none) (hl : s.heap.IsTuple l items) (hi : StrsAre items.toList xs) (few : xs.length + 1 < scanBound)
    (fin : ∀ (h' : Heap) (tk m : Nat), TxR prog w h' s.heap.objs.size (has xs) m → (∀ b o, s.heap.get? b = some o → h'.get? b = some o) → Q (.ref s.heap.objs.size) { s with heap := h', toks := tk }) :
    wpAny (model prog w) A (call (.type "set") [.ref l]) Q E s := by
  have sz : xs.length = items.size := by
    have q := StrsAre.len_eq hi
    rw [Array.length_toList] at q
    exact q.symm
  obtain ⟨c, tl, hmro⟩ := F.called_set.mro
  have made := F.called_set.made
  have sub := F.called_set.sub
  have noType := F.called_set.notType
  have create := F.called_set.canCreate
  have typeCall := F.typeCall_set_1 (.ref l)
  refine wpAny_call ?_
  refine codeAny_of_tree ?_
  show wpAny _ _ (callAny (.type "set") _) _ _ _
  refine wpAny_pure ⟨Code.quiet_builtin _ (by decide +kernel), ?_⟩
  refine codeAny_builtin F.entry_type_call ?_
  rw [Around.under_plain (weight_type_call_type "set" [.ref l] []) rfl]
  repeat (any_goals (first | assumption | wp_step))
  refine codeAny_mono (code_set_led1 (.ref l) (E := E) (Q₁ := fun obj s1 => obj = .ref s.heap.objs.size ∧ s1 = { s with heap := s.heap.push (bare w) }) ⟨rfl, rfl⟩) ?_
  intro r s1 hr
  cases r with
  | error e => exact hr
  | ok fl =>
    cases fl with
    | next => exact hr.elim
    | brk => exact hr.elim
    | cont => exact hr.elim
    | ret obj =>
      obtain ⟨rfl, rfl⟩ := hr
      have atS : (s.heap.push (bare w)).get? s.heap.objs.size = some (bare w) := Heap.get?_push_size _ rfl
      have isSet : Shared.TypeIs { s with heap := s.heap.push (bare w) } (.ref s.heap.objs.size) "set" := ⟨_, atS, rfl⟩
      have look := F.called_set.init.lookup
      have bind := F.called_set.init.bind (.ref s.heap.objs.size)
      repeat (any_goals (first | assumption | wp_step))
      refine codeAny_mono (codeAny_call_builtin (R := Filled prog w s xs E) F.called_set.init.plain F.entry_set_init (check_set_init_1 isSet ?_)) ?_
      · obtain ⟨ol, hol, hcl, nl, hdl⟩ := hl
        obtain ⟨ocls, odict, odata, oslots⟩ := ol
        simp only at hcl hdl
        subst hcl hdl
        have there : (s.heap.push (bare w)).get? l = some { cls := .type "tuple", dict := odict, data := .seq items nl, slots := oslots } := Heap.get?_push_of_some _ hol
        have isL : (s.heap.push (bare w)).IsTuple l items := ⟨_, there, rfl, nl, rfl⟩
        have s1 := F.sub_tuple_set
        have s2 := F.sub_tuple_frozenset
        have s3 : (Value.type "tuple" == Value.type "dict") = false := by decide
        unfold Builtin.«set.__init__» noKeywords Builtin.Frozenset.updateFrom
        generalize hit : pyIter = it
        wp_walk
        subst hit
        refine wpAny_pyIter_tuple isL ?_
        refine wpAny_bind ?_
        refine wpAny_runValue ?_
        have below : l < s.heap.objs.size := Heap.lt_size hol
        have calm3 : A.in1.in1.in1.handled = none := by simp [calm]
        have grown : (s.heap.push (bare w)).objs.size = s.heap.objs.size + 1 := Heap.size_push ..
        have ne1 : l ≠ (s.heap.push (bare w)).objs.size := by
          rw [grown]
          exact Nat.ne_of_lt (Nat.lt_succ_of_lt below)
        have apart : s.heap.objs.size ∉ [(s.heap.push (bare w)).objs.size, l] := by
          rw [grown]
          intro z
          rcases List.mem_cons.mp z with z | z
          · exact Nat.ne_of_lt (Nat.lt_succ_self _) z
          · exact Nat.ne_of_gt below (List.mem_singleton.mp z)
        refine tx_loop ((Walks.tuple calm3 _ l ne1 items).toS) s.heap.objs.size apart xs sz (by rw [← sz]; exact few) (fun i v hv => ?val) (items.size - 0) 0 _ (by omega) (Nat.zero_le _) ⟨⟨_, Heap.get?_push_size _ rfl, rfl, rfl⟩, (isL.push _)⟩ ⟨0, Nat.le_refl _, ?start⟩ ?behind
        case val =>
          refine txs_at hi i v ?_
          rw [Array.getElem?_toList]
          exact hv
        case start =>
          refine (tx_fresh ?_).congr (fun q => ?_) rfl
          · exact Heap.get?_push_of_some _ atS
          · unfold has
            simp
        case behind =>
          intro s' m moved r
          obtain ⟨h', g', d', tk', os'⟩ := s'
          obtain rfl : g' = s.gens := moved.gens
          obtain rfl : d' = s.drawn := moved.drawn
          obtain rfl : os' = s.os := moved.os
          show wpAny _ _ _ _ _ _
          refine wpAny_pure ?_
          show wpAny _ _ (ret Value.none) _ _ _
          refine wpAny_pure ⟨rfl, h', tk', m, rfl, r, fun b o e => ?_⟩
          have lt : b < s.heap.objs.size := Heap.lt_size e
          refine moved.heap b o ?_ (Heap.get?_push_of_some _ (Heap.get?_push_of_some _ e))
          rw [grown]
          intro z
          rcases List.mem_cons.mp z with z | z
          · exact Nat.ne_of_lt lt z
          · exact Nat.ne_of_lt (Nat.lt_succ_of_lt lt) (List.mem_singleton.mp z)
      · intro r2 s2 hr2
        cases r2 with
        | error e => exact hr2
        | ok fl2 =>
          cases fl2 with
          | next => exact hr2.elim
          | brk => exact hr2.elim
          | cont => exact hr2.elim
          | ret r =>
            obtain ⟨rfl, h', tk, m, rfl, q1, q2⟩ := hr2
            repeat (any_goals (first | assumption | wp_step))
            exact fin _ _ _ q1 q2
end
theorem call_setTxT {X : Cx} (hc : X.calm = true) : CallR X (.type "set") (fun vs H Q => ∃ (a : Addr) (xs : List Str), vs = [V.ref a] ∧ SqT X.K H a (xs.map V.str) ∧ xs.length ≤ 4000 ∧ ∀ p m, H p = none → Q (.ref p) (upd H p (TxO X.prog X.w p (has xs) m))) := by
  intro pins s σ H vs us Q I r h
  obtain ⟨a, xs, rfl, hs, few, q⟩ := h
  obtain ⟨its, rv, pl, hz⟩ := I.tuple hs
  rw [Vals.ref1 r]
  refine call_set_textsT (I.ok.hd hc) pl (by simpa using strsAre_of rv) (by have : (4001 : Nat) < scanBound := by decide
                                                                            omega) fun h' tk m R keep => ?_
  exact ⟨.ref s.heap.objs.size, upd H s.heap.objs.size (TxO X.prog X.w s.heap.objs.size (has xs) m), I.laid keep (Nat.le_refl _) (tx_new R), rfl, q _ m (I.hok.fresh (Nat.le_refl _))⟩
def rLenTx (P : Program) (w : World) : List V → Hp → VK → Prop := fun vs H Q => ∃ (a : Addr) (S : Str → Bool) (n : Nat), vs = [V.ref a] ∧ H a = some (TxO P w a S n) ∧
  ∀ (ys : List Str), ys.Nodup → (∀ k, S k = true ↔ k ∈ ys) → ys.length = n → Q (.int n) H
theorem call_lenTx {X : Cx} : CallR X (.builtin "len") (rLenTx X.prog X.w) := by
  intro pins s σ H vs us Q I r h
  obtain ⟨a, S, n, rfl, ha, q⟩ := h
  have R : TxR X.prog X.w s.heap a S n := (I.hok a _ ha).1
  rw [Vals.ref1 r]
  obtain ⟨o, es, ep, t, ho, ex, hd, g, nd, hm, hb, hf, hn, _⟩ := R
  have h2 : (scanBound : Nat) < 2 ^ 63 := by decide
  refine PySem.call_len_set ho ex hd hf (by omega) ⟨.int n, H, I.tok _, ⟨_, by rw [hn]⟩, q _ nd hm ?_⟩
  rw [List.length_map, Array.length_toList, hn]
end OwS
namespace Ev
open PySem PySem.Spec PyProof.Rows L2 Ow OwS
def seqW (w : W) (S : Store) : Option (List W) := match w with
  | .tup l => some l
  | .cl l => some l
  | .ref n => match S[n]? with
    | some (.lst l) => some l
    | _ => none
  | _ => none
theorem VRs.strs {K : PySem.W.Frag} {ι : List Addr} {H : Hp} : ∀ {xs : List Str} {vs : List V}, VRs K ι H (xs.map W.str) vs → vs = xs.map V.str
  | [], _, h => h
  | x :: xs, _, ⟨v, r, e, h, t⟩ => by
    rw [e, VRs.strs t, show v = V.str x from h]
    rfl
/-- a value that is walked: where it lies -/
theorem seq_lies {K : PySem.W.Frag} {Tb ι : List Addr} {S : Store} {H : Hp} {w : W} {v : V} {l : List W} (s : Sim K Tb ι S H) (r : VR K ι H w v) (h : seqW w S = some l) : ∃ a vs, v = .ref a ∧ VRs K ι H l vs ∧ (SqL K H a vs ∨ SqT K H a vs) := by
  cases w with
  | tup m =>
    cases h
    obtain ⟨a, vs, rfl, hq, rv⟩ := r
    exact ⟨a, vs, rfl, rv, .inr hq⟩
  | cl m =>
    cases h
    obtain ⟨a, vs, rfl, hq, rv⟩ := r
    exact ⟨a, vs, rfl, rv, .inl hq.sq⟩
  | ref n =>
    obtain ⟨a, ha, rfl⟩ := r
    obtain ⟨o, ho, q⟩ := s.there ha
    unfold seqW at h
    dsimp only at h
    rw [ho] at h
    cases o with
    | lst m =>
      cases h
      obtain ⟨vs, e, rv⟩ := q
      exact ⟨a, vs, rfl, rv, .inl (SqL.of e)⟩
    | _ => cases h
  | _ => cases h
def tmpS (w : W) (S : Store) (k : List Str → Prop) : Prop := ∃ xs : List Str, seqW w S = some (xs.map W.str) ∧ xs.length ≤ 4000 ∧ k xs
/-- len(set(texts)) -/
def mLenSet (m : ME) : ME := fun env S Q => m env S fun w S1 => tmpS w S1 fun xs => ∀ ys : List Str, ys.Nodup → (∀ k, k ∈ ys ↔ k ∈ xs) → Q (.int (ys.length : Nat)) S1
/-- sorted(set(texts)) -/
def mSortSet (m : ME) : ME := fun env S Q => m env S fun w S1 => tmpS w S1 fun xs => ∀ ys : List Str, ys.Nodup → sortedS ys = true → (∀ k, k ∈ ys ↔ k ∈ xs) → Q (.ref S1.length) (S1 ++ [.lst (ys.map W.str)])
theorem VRs.ofStrs {K : PySem.W.Frag} {ι : List Addr} {H : Hp} : ∀ (xs : List Str), VRs K ι H (xs.map W.str) (xs.map V.str)
  | [] => rfl
  | x :: xs => ⟨_, _, rfl, rfl, VRs.ofStrs xs⟩
section
variable {X : Cx} {Tb : List Addr} {e : Expr} {m : ME} {p p2 q pos : Pos}
theorem set_reading {H1 : Hp} {v : V} {xs : List Str} {Qv : VK} (h : ∃ a, v = .ref a ∧ (SqL X.K H1 a (xs.map V.str) ∨ SqT X.K H1 a (xs.map V.str))) (few : xs.length ≤ 4000)
    (k : ∀ p n, H1 p = none → Qv (.ref p) (upd H1 p (TxO X.prog X.w p (has xs) n))) :
    (∃ (a : Addr) (xs : List Str), [v] = [V.ref a] ∧ SqL X.K H1 a (xs.map V.str) ∧ xs.length ≤ 4000 ∧ ∀ p m, H1 p = none → Qv (.ref p) (upd H1 p (TxO X.prog X.w p (has xs) m))) ∨
      ∃ (a : Addr) (xs : List Str), [v] = [V.ref a] ∧ SqT X.K H1 a (xs.map V.str) ∧ xs.length ≤ 4000 ∧ ∀ p m, H1 p = none → Qv (.ref p) (upd H1 p (TxO X.prog X.w p (has xs) m)) := by
  obtain ⟨a, rfl, h | h⟩ := h
  · exact .inl ⟨a, xs, rfl, h, few, k⟩
  · exact .inr ⟨a, xs, rfl, h, few, k⟩
theorem has_iff {xs ys : List Str} (h : ∀ k, has xs k = true ↔ k ∈ ys) (k : Str) : k ∈ ys ↔ k ∈ xs := by
  rw [← h k]
  unfold has
  exact decide_eq_true_iff
theorem e_lenSet (hg : Gl X "len") (hm : X.mg "len" = none) (hg2 : Gl X "set") (hm2 : X.mg "set" = none) (ha : EE X Tb e m) (hc : X.calm = true := by rfl)
    (h1 : starEach [.Call (.Name "set" p2) [e] [] q] X.env = (false, eval (.Call (.Name "set" p2) [e] [] q) X.env) :: starEach [] X.env := by rfl) (h2 : starEach [e] X.env = (false, eval e X.env) :: starEach [] X.env := by rfl) :
    EE X Tb (.Call (.Name "len" p) [.Call (.Name "set" p2) [e] [] q] [] pos) (mLenSet m) := by
  refine ⟨pe_imp (pe_callB call_lenTx hg hm PySem.boot_len (pa_cons (pe_callTy (callR_or (call_setTx hc) (call_setTxT hc)) hg2 hm2 boot_set (pa_cons ha.pe pa_nil h2) (by decide) (by decide) h2 (by rfl)) pa_nil h1) (by decide) (by decide) h1 (by rfl)) fun σ H Q h => ?_, fun env S Q Q' k h => ha.mono _ _ _ _ (fun w S1 ⟨xs, a, b, c⟩ => ⟨xs, a, b, fun ys d e => k _ _ (c ys d e)⟩) h⟩
  obtain ⟨ι, env, S, s, er, h⟩ := h
  refine ⟨ι, env, S, s, er, ha.mono _ _ _ _ (fun w S1 ⟨xs, e1, few, z⟩ ι1 H1 v s1 g1 r1 => ?_) h⟩
  obtain ⟨a, vs, ev, rv, hq⟩ := seq_lies s1 r1 e1
  rw [VRs.strs rv] at hq
  refine set_reading (xs := xs) (Qv := fun x H2 => rLenTx X.prog X.w [x] H2 _) ⟨a, ev, hq⟩ few fun p n hp => ⟨p, has xs, n, rfl, upd_same, fun ys nd mem en => ?_⟩
  subst en
  exact z ys nd (has_iff mem) ι1 _ _ (s1.same (same_upd hp)) (g1.trans (Grow.same (same_upd hp))) rfl
theorem e_sortSet (hg : Gl X "sorted") (hm : X.mg "sorted" = none) (hg2 : Gl X "set") (hm2 : X.mg "set" = none) (ha : EE X Tb e m) (hc : X.calm = true := by rfl)
    (h1 : starEach [.Call (.Name "set" p2) [e] [] q] X.env = (false, eval (.Call (.Name "set" p2) [e] [] q) X.env) :: starEach [] X.env := by rfl) (h2 : starEach [e] X.env = (false, eval e X.env) :: starEach [] X.env := by rfl) :
    EE X Tb (.Call (.Name "sorted" p) [.Call (.Name "set" p2) [e] [] q] [] pos) (mSortSet m) := by
  refine ⟨pe_imp (pe_callB (call_sortTx hc) hg hm (by decide +kernel) (pa_cons (pe_callTy (callR_or (call_setTx hc) (call_setTxT hc)) hg2 hm2 boot_set (pa_cons ha.pe pa_nil h2) (by decide) (by decide) h2 (by rfl)) pa_nil h1) (by decide) (by decide) h1 (by rfl)) fun σ H Q h => ?_, fun env S Q Q' k h => ha.mono _ _ _ _ (fun w S1 ⟨xs, a, b, c⟩ => ⟨xs, a, b, fun ys d e f => k _ _ (c ys d e f)⟩) h⟩
  obtain ⟨ι, env, S, s, er, h⟩ := h
  refine ⟨ι, env, S, s, er, ha.mono _ _ _ _ (fun w S1 ⟨xs, e1, few, z⟩ ι1 H1 v s1 g1 r1 => ?_) h⟩
  obtain ⟨a, vs, ev, rv, hq⟩ := seq_lies s1 r1 e1
  rw [VRs.strs rv] at hq
  refine set_reading (xs := xs) (Qv := fun x H2 => rSortTx X.prog X.w [x] H2 _) ⟨a, ev, hq⟩ few fun p n hp => ⟨p, has xs, n, rfl, upd_same, fun ys p2 nd so mem en hp2 => ?_⟩
  have s2 := s1.same (same_upd (o := TxO X.prog X.w p (has xs) n) hp)
  obtain ⟨ι2, s3, g3, r3⟩ := newL s2 (VRs.ofStrs ys) hp2
  exact z ys nd so (has_iff mem) ι2 _ _ s3 ((g1.trans (Grow.same (same_upd hp))).trans g3) r3
end
end Ev

set_option Elab.async false
set_option linter.all false
set_option maxRecDepth 100000
set_option maxHeartbeats 4000000
/-! More rules: -i, {}, sorted(dict), written dicts, calls of a local name. -/
namespace Ev
open PySem PySem.Spec PyProof.Rows L2 Ow
def blts : List Str := ["len", "range", "max", "min", "abs", "isinstance", "int", "str", "bool", "tuple", "list", "dict", "all", "any", "sorted", "set", "reversed", "enumerate", "zip", "repr", "sum"]
def NoG (mg : Str → Option Value) : Prop := ∀ x ∈ blts, mg x = none
section
variable {X : Cx} {Tb : List Addr} {e a b : Expr} {es : List Expr} {m ma mb : ME} {mr : MA} {p pos : Pos}
def mNeg (m : ME) : ME := fun env S Q => m env S fun w S1 => match w with
  | .int i => Q (.int (-i)) S1
  | _ => False
theorem e_neg (h : EE X Tb e m) : EE X Tb (.UnaryOp .USub e pos) (mNeg m) := by
  refine ⟨pe_imp (pe_un un_neg h.pe) fun σ H Q q => ?_, fun env S Q Q' k q => h.mono _ _ _ _ (fun w S1 z => ?_) q⟩
  · obtain ⟨ι, env, S, s, er, q⟩ := q
    refine ⟨ι, env, S, s, er, h.mono _ _ _ _ (fun w S1 z ι1 H1 v s1 g1 r1 => ?_) q⟩
    cases w with
    | int i => exact ⟨i, r1, z ι1 H1 _ s1 g1 rfl⟩
    | _ => exact z.elim
  · cases w with
    | int i => exact k _ _ z
    | _ => exact z.elim
def mDnew : ME := fun _ S Q => Q (.ref S.length) (S ++ [.dK []])
theorem e_dnew : EE X Tb (.Dict [] [] pos) mDnew := by
  refine ⟨pe_imp pe_dnewK fun σ H Q q => ?_, fun env S Q Q' k q => k _ _ q⟩
  obtain ⟨ι, env, S, s, er, q⟩ := q
  intro p hp
  obtain ⟨s2, g2⟩ := s.new (u := .dK []) (o := .dK []) hp fun ι' H' g e => ⟨[], e, rfl, rfl⟩
  refine q _ _ (.ref p) s2 g2 ⟨p, ?_, rfl⟩
  rw [← s.len, List.getElem?_append_right (Nat.le_refl _), Nat.sub_self]
  rfl
/-- sorted(d), d a dict with text keys -/
def wSortD : RCW := fun ws S Q => match ws with
  | [.ref n] => oD S[n]? fun kvs => ∃ ks : List Str, kvs.map (·.1) = ks.map Sum.inr ∧ ks.length < 64 ∧ ∀ ys : List Str, ys.Perm ks → sortedS ys = true → Q (.ref S.length) (S ++ [.lst (ys.map W.str)])
  | _ => False
theorem mo_sortD : MonoC wSortD := fun x S Q Q' k h => by
  match x, h with
  | [.ref n], h =>
    exact oD_mono (fun kvs ⟨ks, a, b, c⟩ => ⟨ks, a, b, fun ys d e => k _ _ (c ys d e)⟩) h
theorem cl_sortD {K : PySem.W.Frag} : CL K Tb (fun xs H Q => ∃ (a : Addr) (kvs : List (Key × V)) (ks : List Str), xs = [.ref a] ∧ Rd H a (.dK kvs) ∧ kvs.map (·.1) = ks.map Sum.inr ∧ ks.length < 64 ∧
    ∀ ys p, ys.Perm ks → sortedS ys = true → H p = none → Q (.ref p) (upd H p (.lst (ys.map V.str)))) wSortD := fun ι S H ws vs Q Qv s r h k => by
  match ws, h with
  | [.ref n], h =>
    obtain ⟨v, rfl, a, ha, rfl⟩ := one_of r
    have h : oD S[n]? _ := h
    obtain ⟨kvs, e, ks, h1, h2, h3⟩ := oD_some h
    obtain ⟨b, hb, us, eu, ku, ru⟩ := s.obj n _ e
    rw [ha] at hb
    cases hb
    refine ⟨a, us, ks, rfl, .of eu, ku.trans h1, h2, fun ys p pm so hp => ?_⟩
    obtain ⟨ι2, s2, g2, r2⟩ := newL s (VRs.ofStrs ys) hp
    exact k ι2 _ _ _ _ (h3 ys pm so) s2 g2 r2
theorem e_sortD (hg : Gl X "sorted") (hm : X.mg "sorted" = none) (ha : EA X Tb [e] mr) (hc : X.calm = true := by rfl) (he : starEach [e] X.env = (false, eval e X.env) :: starEach [] X.env := by rfl) (hpl : (backTo pos (starEach [] X.env)).any (·.1) = false := by rfl) : EE X Tb (.Call (.Name "sorted" p) [e] [] pos) (mCB wSortD mr) :=
  e_callB (call_sortedD hc) cl_sortD mo_sortD hg hm (by decide +kernel) ha (by decide) (by decide) he hpl
/-! ### written dicts -/
def KD (K : PySem.W.Frag) (w : World) (mg : Str → Option Value) (x : Str) (T : Str → Option Addr) : Prop :=
  ∃ d es n, mg x = some (.ref d) ∧ KDict K w d es n ∧ ∀ z : Str, PySem.W.nsIn K d z = some ((T z).map Value.ref)
def mIxKD (T : Str → Option Addr) (m : ME) : ME := fun env S Q => m env S fun w S1 => match w with
  | .str z => oW (T z) fun a => Q (.adr a) S1
  | _ => False
def mInKD (neg : Bool) (T : Str → Option Addr) (m : ME) : ME := fun env S Q => m env S fun w S1 => match w with
  | .str z => Q (.bl (neg ^^ (T z).isSome)) S1
  | _ => False
theorem mIxKD_mono {T : Str → Option Addr} (h : MonoE m) : MonoE (mIxKD T m) := fun env S Q Q' k q => h _ _ _ _ (fun w S1 z => by
  cases w with
  | str x => exact oW_mono (fun a z => k _ _ z) z
  | _ => exact z.elim) q
theorem mInKD_mono {neg : Bool} {T : Str → Option Addr} (h : MonoE m) : MonoE (mInKD neg T m) := fun env S Q Q' k q => h _ _ _ _ (fun w S1 z => by
  cases w with
  | str x => exact k _ _ z
  | _ => exact z.elim) q
theorem e_ixKD {x : Str} {T : Str → Option Addr} (D : KD X.K X.w X.mg x T) (hg : Gl X x) (h : EE X Tb e m) (hd : (x == ("__debug__" : Str)) = false := by decide) (hs : PlainIx e := by exact fun _ _ => rfl) : EE X Tb (.Subscript (.Name x p) e pos) (mIxKD T m) := by
  obtain ⟨d, es, n, hm, KK, hT⟩ := D
  refine ⟨pe_imp (pe_ix ix_kdict (pe_glob (v := .ref d) hg hm rfl hd) h.pe hs) fun σ H Q q => ?_, mIxKD_mono h.mono⟩
  obtain ⟨ι, env, S, s, er, q⟩ := q
  refine ⟨ι, env, S, s, er, h.mono _ _ _ _ (fun w S1 z ι1 H1 v s1 g1 r1 => ?_) q⟩
  cases w with
  | str y =>
    obtain ⟨a, ea, z⟩ := oW_some z
    obtain rfl : v = .str y := r1
    refine ⟨d, y, .ref a, rfl, rfl, ⟨es, n, .ref a, KK.at_, KK.lit, by rw [hT y, ea]; rfl, rfl⟩, z ι1 H1 _ s1 g1 rfl⟩
  | _ => exact z.elim
theorem kd_read {x : Str} {T : Str → Option Addr} {d : Addr} {neg : Bool} {σ : L2.St} {H : Hp} {Q : VK} (hT : ∀ z : Str, PySem.W.nsIn X.K d z = some ((T z).map Value.ref)) (h : EE X Tb e m) (q : LE X.K Tb (mInKD neg T m) σ H Q) :
    tOp (fun x y H Q => ∃ (z : Str) (r : Option Value), x = .str z ∧ y = .ref d ∧ PySem.W.nsIn X.K d z = some r ∧ Q (.bl (neg ^^ r.isSome)) H) (LE X.K Tb m) (tC (.ref d)) σ H Q := by
  obtain ⟨ι, env, S, s, er, q⟩ := q
  refine ⟨ι, env, S, s, er, h.mono _ _ _ _ (fun w S1 z ι1 H1 v s1 g1 r1 => ?_) q⟩
  cases w with
  | str y =>
    obtain rfl : v = .str y := r1
    refine ⟨y, _, rfl, rfl, hT y, ?_⟩
    have e : ((T y).map Value.ref).isSome = (T y).isSome := by cases T y <;> rfl
    show Q (.bl (neg ^^ ((T y).map Value.ref).isSome)) H1
    rw [e]
    exact z ι1 H1 _ s1 g1 rfl
  | _ => exact z.elim
theorem e_inKD {x : Str} {T : Str → Option Addr} (D : KD X.K X.w X.mg x T) (hg : Gl X x) (h : EE X Tb e m) (hd : (x == ("__debug__" : Str)) = false := by decide) : EE X Tb (.Compare e [.In] [.Name x p] pos) (mInKD false T m) := by
  obtain ⟨d, es, n, hm, KK, hT⟩ := D
  exact ⟨pe_imp (pe_cmpR (op_in_kd KK) h.pe (pe_glob (v := .ref d) hg hm rfl hd) rfl) fun σ H Q q => by
    have := kd_read (x := x) hT h q
    simpa only [Bool.false_xor] using this, mInKD_mono h.mono⟩
theorem e_notinKD {x : Str} {T : Str → Option Addr} (D : KD X.K X.w X.mg x T) (hg : Gl X x) (h : EE X Tb e m) (hd : (x == ("__debug__" : Str)) = false := by decide) : EE X Tb (.Compare e [.NotIn] [.Name x p] pos) (mInKD true T m) := by
  obtain ⟨d, es, n, hm, KK, hT⟩ := D
  exact ⟨pe_imp (pe_cmpR (op_notIn_kd KK) h.pe (pe_glob (v := .ref d) hg hm rfl hd) rfl) fun σ H Q q => by
    have := kd_read (x := x) hT h q
    simpa only [Bool.true_xor] using this, mInKD_mono h.mono⟩
theorem t_inKD {x : Str} {T : Str → Option Addr} (D : KD X.K X.w X.mg x T) (hg : Gl X x) (h : EE X Tb e m) (hd : (x == ("__debug__" : Str)) = false := by decide) : ET X Tb (.Compare e [.In] [.Name x p] pos) (mTest (mInKD false T m)) := by
  obtain ⟨d, es, n, hm, KK, hT⟩ := D
  refine ⟨pt_imp (pt_cmpR (op_in_kd KK) h.pe (pe_glob (v := .ref d) hg hm rfl hd) rfl) fun σ H Q q => ?_, mTest_mono (mInKD_mono h.mono)⟩
  have := kd_read (x := x) (σ := σ) (H := H) (Q := fun v H' => ∃ b, v = .bl b ∧ Q b H') hT h (neg := false) ?_
  · simp only [Bool.false_xor] at this
    exact this
  · obtain ⟨ι, env, S, s, er, q⟩ := q
    refine ⟨ι, env, S, s, er, (mInKD_mono h.mono) _ _ _ _ (fun w S' q ι' H' v s' g' r' => ?_) q⟩
    cases w with
    | bl b =>
      have e : v = .bl b := r'
      exact ⟨b, e, q ι' H' s' g'⟩
    | _ => exact q.elim
theorem t_notinKD {x : Str} {T : Str → Option Addr} (D : KD X.K X.w X.mg x T) (hg : Gl X x) (h : EE X Tb e m) (hd : (x == ("__debug__" : Str)) = false := by decide) : ET X Tb (.Compare e [.NotIn] [.Name x p] pos) (mTest (mInKD true T m)) := by
  obtain ⟨d, es, n, hm, KK, hT⟩ := D
  refine ⟨pt_imp (pt_cmpR (op_notIn_kd KK) h.pe (pe_glob (v := .ref d) hg hm rfl hd) rfl) fun σ H Q q => ?_, mTest_mono (mInKD_mono h.mono)⟩
  have := kd_read (x := x) (σ := σ) (H := H) (Q := fun v H' => ∃ b, v = .bl b ∧ Q b H') hT h (neg := true) ?_
  · simp only [Bool.true_xor] at this
    exact this
  · obtain ⟨ι, env, S, s, er, q⟩ := q
    refine ⟨ι, env, S, s, er, (mInKD_mono h.mono) _ _ _ _ (fun w S' q ι' H' v s' g' r' => ?_) q⟩
    cases w with
    | bl b =>
      have e : v = .bl b := r'
      exact ⟨b, e, q ι' H' s' g'⟩
    | _ => exact q.elim
/-! ### a local name that holds a def -/
def mCallL (i : Nat) (CA : Addr → Option Con) (mr : MA) : ME := fun env S Q => match lk env i with
  | some (.adr f) => ∃ C, CA f = some C ∧ mr env S fun ws S1 => conR C ws S1 Q
  | _ => False
theorem e_callL {i k : Nat} {x : Str} {CA : Addr → Option Con} (HC : ∀ f C, CA f = some C → Held X.prog X.w X.K X.mg X.base k f (spOf X.K Tb C)) (hr : Room k X.A) (ha : EA X Tb (e :: es) mr) (hN : X.N[i]? = some x := by rfl) (hv : Vis X.env.scope x := by first | exact Or.inl rfl | exact Or.inr (Or.inl rfl) | exact Or.inr (Or.inr rfl))
    (hdb : (x == ("__debug__" : Str)) = false := by decide) (hcd : (x == ("__classdict__" : Str)) = false := by decide) (he : starEach (e :: es) X.env = (false, eval e X.env) :: starEach es X.env := by rfl) (hpl : (backTo pos (starEach es X.env)).any (·.1) = false := by rfl) :
    EE X Tb (.Call (.Name x p) (e :: es) [] pos) (mCallL i CA mr) := by
  refine ⟨pe_imp (pe_callA (S := fun f => (CA f).map (spOf X.K Tb)) (fun f sp h => ?_) hr hN hv ha.pa hdb hcd he hpl) fun σ H Q q => ?_, fun env S Q Q' k q => ?_⟩
  · cases hC : CA f with
    | none => rw [hC] at h; cases h
    | some C =>
      rw [hC] at h
      cases h
      exact HC f C hC
  · obtain ⟨ι, env, S, s, er, q⟩ := q
    unfold mCallL at q
    cases el : lk env i with
    | none => rw [el] at q; exact q.elim
    | some w =>
      rw [el] at q
      cases w with
      | adr f =>
        obtain ⟨C, hC, q⟩ := q
        obtain ⟨v, h1, h2⟩ := er.at_ i _ (lk_at el)
        obtain rfl : v = .ref f := h2
        refine ⟨f, spOf X.K Tb C, h1, (by show Option.map (spOf X.K Tb) (CA f) = _; rw [hC]; rfl), ι, env, S, s, er, ha.mono _ _ _ _ (fun ws S1 z ι1 H1 vs s1 g1 r1 => ?_) q⟩
        obtain ⟨a, hp, hq⟩ := z
        exact ⟨ι1, ws, S1, a, s1, r1, hp, fun w S' po ι2 H2 v s2 g2 r2 => hq w S' po ι2 H2 v s2 (g1.trans g2) r2⟩
      | _ => exact q.elim
  · unfold mCallL at q ⊢
    cases el : lk env i with
    | none => rw [el] at q; exact q.elim
    | some w =>
      rw [el] at q
      cases w with
      | adr f =>
        obtain ⟨C, hC, z⟩ := q
        exact ⟨C, hC, ha.mono _ _ _ _ (fun ws S1 y => conR_mono _ _ _ _ k y) z⟩
      | _ => exact q.elim
theorem held_of {P : Program} {w : World} {K : PySem.W.Frag} {mg : Str → Option Value} {base : Heap} {x : Str} {ps : List Str} {k : Nat} {C : Con} {f : Addr} (D : Dn P w K mg base Tb x ps k C) (g : mg x = some (.ref f)) : Held P w K mg base k f (spOf K Tb C) := by
  obtain ⟨f', fd, F, gf, kf, bf⟩ := D.ex
  rw [g] at gf
  cases gf
  exact ⟨fd, ps, F, kf, bf⟩
end
end Ev

set_option Elab.async false
set_option linter.all false
set_option maxRecDepth 100000
set_option maxHeartbeats 1000000
/-! Meanings, read: stores that only grow, pure elements. -/
namespace Ev
open PySem PySem.Spec PyProof.Rows L2 Ow
def Ex (S S' : Store) : Prop := ∃ more, S' = S ++ more
theorem Ex.refl {S : Store} : Ex S S := ⟨[], by simp⟩
theorem Ex.trans {A B C : Store} (a : Ex A B) (b : Ex B C) : Ex A C := by
  obtain ⟨m, rfl⟩ := a
  obtain ⟨n, rfl⟩ := b
  exact ⟨m ++ n, by rw [List.append_assoc]⟩
theorem Ex.one {S : Store} {o : O} : Ex S (S ++ [o]) := ⟨[o], rfl⟩
theorem Ex.at {S S' : Store} (h : Ex S S') {n : Nat} {o : O} (e : S[n]? = some o) : S'[n]? = some o := by
  obtain ⟨m, rfl⟩ := h
  rw [List.getElem?_append_left (List.getElem?_eq_some_iff.mp e).1]
  exact e
theorem Ex.len {S S' : Store} (h : Ex S S') : S.length ≤ S'.length := by
  obtain ⟨m, rfl⟩ := h
  rw [List.length_append]
  omega
theorem new_at (S : Store) (o : O) : (S ++ [o])[S.length]? = some o := by
  rw [List.getElem?_append_right (Nat.le_refl _), Nat.sub_self]
  rfl
theorem new_set (S : Store) (o o' : O) (m : Store) : (S ++ [o] ++ m).set S.length o' = S ++ [o'] ++ m := by
  rw [List.append_assoc, List.append_assoc, List.set_append_right _ _ (Nat.le_refl _), Nat.sub_self]
  rfl
theorem Ex.new {S S' : Store} {o : O} (h : Ex (S ++ [o]) S') : Ex S S' ∧ S'[S.length]? = some o := ⟨Ex.one.trans h, h.at (new_at S o)⟩
/-- the store is as S0 but for what is new, and for the objects ns -/
theorem set_len {S : Store} {n : Nat} {o : O} : (S.set n o).length = S.length := by simp
theorem allL_ex {chk : Store → Prop} {mg : MG} {te : ME} {env : EvS} {Q : WK} {S0 : Store} (p : W → Bool) (E : W → EvS) (hc : ∀ S, Ex S0 S → chk S) :
    ∀ (ws : List W), (∀ w ∈ ws, ∀ (S : Store) (R : EvS → Store → Prop), R (E w) S → mg w env S R) → (∀ w ∈ ws, ∀ (S : Store) (k : WK), Ex S0 S → (∀ S', Ex S S' → k (.bl (p w)) S') → te (E w) S k) →
      (∀ S', Ex S0 S' → Q (.bl (ws.all p)) S') → ∀ S, Ex S0 S → allL chk mg te env Q ws S
  | [], _, _, q, S, h => ⟨hc S h, q S h⟩
  | w :: r, hg, he, q, S, h => ⟨hc S h, hg w List.mem_cons_self _ _ (he w List.mem_cons_self _ _ h fun S' h' => by
    show if p w = true then _ else _
    cases hp : p w with
    | true =>
      refine iteT (allL_ex p E hc r (fun x hx => hg x (List.mem_cons_of_mem _ hx)) (fun x hx => he x (List.mem_cons_of_mem _ hx)) (fun S2 h2 => ?_) S' (h.trans h'))
      have := q S2 h2
      rw [List.all_cons, hp, Bool.true_and] at this
      exact this
    | false =>
      refine iteF ?_
      have := q S' (h.trans h')
      rw [List.all_cons, hp, Bool.false_and] at this
      exact this)⟩
theorem lcL_ex {chk : Store → Prop} {mg : MG} {tt : MT} {te : ME} {env : EvS} {Q : WK} {S0 : Store} (t : W → Bool) (v : W → W) (E : W → EvS) (hc : ∀ S, Ex S0 S → chk S) :
    ∀ (ws : List W) (acc : List W), acc.length + ws.length ≤ sizeLine → (∀ w ∈ ws, ∀ (S : Store) (R : EvS → Store → Prop), R (E w) S → mg w env S R) → (∀ w ∈ ws, ∀ (S : Store) (k : Bool → Store → Prop), Ex S0 S → (∀ S', Ex S S' → k (t w) S') → tt (E w) S k) →
      (∀ w ∈ ws, t w = true → ∀ (S : Store) (k : WK), Ex S0 S → (∀ S', Ex S S' → k (v w) S') → te (E w) S k) →
      (∀ S', Ex (S0 ++ [.lst (acc ++ (ws.filter t).map v)]) S' → Q (.ref S0.length) S') → ∀ S, Ex (S0 ++ [.lst acc]) S → lcL chk mg tt te S0.length env Q ws S
  | [], acc, _, _, _, _, q, S, h => ⟨hc S (Ex.one.trans h), q S (by simpa using h)⟩
  | w :: r, acc, hl, hg, ht, he, q, S, h => ⟨hc S (Ex.one.trans h), hg w List.mem_cons_self _ _ (ht w List.mem_cons_self _ _ (Ex.one.trans h) fun S1 h1 => by
    have hl' : (acc.length + r.length) + 1 ≤ sizeLine := by rw [List.length_cons] at hl; omega
    cases hp : t w with
    | true =>
      refine iteT (he w List.mem_cons_self hp _ _ ((Ex.one.trans h).trans h1) fun S2 h2 => ?_)
      have h3 := (h.trans h1).trans h2
      refine ⟨acc, (h3.new).2, by omega, ?_⟩
      obtain ⟨m, rfl⟩ := h3
      rw [new_set]
      refine lcL_ex t v E hc r (acc ++ [v w]) (by rw [List.length_append, List.length_singleton]; omega) (fun x hx => hg x (List.mem_cons_of_mem _ hx)) (fun x hx => ht x (List.mem_cons_of_mem _ hx)) (fun x hx => he x (List.mem_cons_of_mem _ hx)) (fun S2 h2 => ?_) _ ⟨m, rfl⟩
      refine q S2 ?_
      rw [List.filter_cons_of_pos hp, List.map_cons]
      simpa using h2
    | false =>
      refine iteF (lcL_ex t v E hc r acc (by omega) (fun x hx => hg x (List.mem_cons_of_mem _ hx)) (fun x hx => ht x (List.mem_cons_of_mem _ hx)) (fun x hx => he x (List.mem_cons_of_mem _ hx)) (fun S2 h2 => ?_) _ (h.trans h1))
      refine q S2 ?_
      rw [List.filter_cons_of_neg (by rw [hp]; decide)]
      exact h2)⟩
mutual
/-- data: nothing but values, tuples and lists -/
def dat (S : Store) : W → Prop
  | .non => True
  | .bl _ => True
  | .int _ => True
  | .str z => z.length ≤ sizeLine
  | .tup l => l.length ≤ sizeLine ∧ dats S l
  | .cl _ => True
  | .ref n => ∃ l, S[n]? = some (.lst l)
  | .adr _ => False
  | .ty _ => False
def dats (S : Store) : List W → Prop
  | [] => True
  | w :: r => dat S w ∧ dats S r
end
mutual
theorem dat.ex {S S' : Store} (h : Ex S S') : ∀ {w : W}, dat S w → dat S' w
  | .non, _ => trivial
  | .bl _, _ => trivial
  | .int _, _ => trivial
  | .str _, q => q
  | .tup l, q => ⟨q.1, dats.ex h q.2⟩
  | .cl _, _ => trivial
  | .ref n, ⟨l, e⟩ => ⟨l, h.at e⟩
  | .adr _, q => q.elim
  | .ty _, q => q.elim
theorem dats.ex {S S' : Store} (h : Ex S S') : ∀ {l : List W}, dats S l → dats S' l
  | [], _ => trivial
  | _ :: _, q => ⟨dat.ex h q.1, dats.ex h q.2⟩
end
theorem dats.at {S : Store} : ∀ {l : List W} {i : Nat} {w : W}, dats S l → l[i]? = some w → dat S w
  | _ :: _, 0, _, q, e => by cases e; exact q.1
  | _ :: _, i + 1, w, q, e => dats.at (i := i) (w := w) q.2 e
theorem dats.mem {S : Store} {l : List W} {w : W} (q : dats S l) (h : w ∈ l) : dat S w := by
  obtain ⟨i, e⟩ := List.getElem?_of_mem h
  exact q.at e
def isTup : W → Bool
  | .tup _ => true
  | _ => false
def isStr : W → Bool
  | .str _ => true
  | _ => false
def isInt : W → Bool
  | .int _ => true
  | .bl _ => true
  | _ => false
def isBl : W → Bool
  | .bl _ => true
  | _ => false
theorem ty_dat {S : Store} {w : W} (h : dat S w) : ∃ t, tyW S w = some t ∧ subTy t "tuple" = isTup w ∧ subTy t "str" = isStr w ∧ subTy t "int" = isInt w ∧ subTy t "bool" = isBl w := by
  cases w with
  | non => exact ⟨_, rfl, by (first | (show subTy _ _ = true; decide) | (show subTy _ _ = false; decide)), by (first | (show subTy _ _ = true; decide) | (show subTy _ _ = false; decide)), by (first | (show subTy _ _ = true; decide) | (show subTy _ _ = false; decide)), by (first | (show subTy _ _ = true; decide) | (show subTy _ _ = false; decide))⟩
  | bl b => exact ⟨_, rfl, by (first | (show subTy _ _ = true; decide) | (show subTy _ _ = false; decide)), by (first | (show subTy _ _ = true; decide) | (show subTy _ _ = false; decide)), by (first | (show subTy _ _ = true; decide) | (show subTy _ _ = false; decide)), by (first | (show subTy _ _ = true; decide) | (show subTy _ _ = false; decide))⟩
  | int i => exact ⟨_, rfl, by (first | (show subTy _ _ = true; decide) | (show subTy _ _ = false; decide)), by (first | (show subTy _ _ = true; decide) | (show subTy _ _ = false; decide)), by (first | (show subTy _ _ = true; decide) | (show subTy _ _ = false; decide)), by (first | (show subTy _ _ = true; decide) | (show subTy _ _ = false; decide))⟩
  | str x => exact ⟨_, rfl, by (first | (show subTy _ _ = true; decide) | (show subTy _ _ = false; decide)), by (first | (show subTy _ _ = true; decide) | (show subTy _ _ = false; decide)), by (first | (show subTy _ _ = true; decide) | (show subTy _ _ = false; decide)), by (first | (show subTy _ _ = true; decide) | (show subTy _ _ = false; decide))⟩
  | tup l => exact ⟨_, rfl, by (first | (show subTy _ _ = true; decide) | (show subTy _ _ = false; decide)), by (first | (show subTy _ _ = true; decide) | (show subTy _ _ = false; decide)), by (first | (show subTy _ _ = true; decide) | (show subTy _ _ = false; decide)), by (first | (show subTy _ _ = true; decide) | (show subTy _ _ = false; decide))⟩
  | cl l => exact ⟨_, rfl, by (first | (show subTy _ _ = true; decide) | (show subTy _ _ = false; decide)), by (first | (show subTy _ _ = true; decide) | (show subTy _ _ = false; decide)), by (first | (show subTy _ _ = true; decide) | (show subTy _ _ = false; decide)), by (first | (show subTy _ _ = true; decide) | (show subTy _ _ = false; decide))⟩
  | ref n =>
    obtain ⟨l, e⟩ := h
    refine ⟨"list", ?_, by (first | (show subTy _ _ = true; decide) | (show subTy _ _ = false; decide)), by (first | (show subTy _ _ = true; decide) | (show subTy _ _ = false; decide)), by (first | (show subTy _ _ = true; decide) | (show subTy _ _ = false; decide)), by (first | (show subTy _ _ = true; decide) | (show subTy _ _ = false; decide))⟩
    show tyO S[n]? = _
    rw [e]
    rfl
  | adr a => exact h.elim
  | ty n => exact h.elim
/-- isinstance(x, c) -/
theorem isi_tup {S : Store} {w : W} {Q : WK} (h : dat S w) (q : Q (.bl (isTup w)) S) : wIsi [w, .ty "tuple"] S Q := by
  obtain ⟨t, e, a, b, c, d⟩ := ty_dat h
  refine ⟨by decide, ?_⟩
  rw [e]
  show Q (.bl (subTy t "tuple")) S
  rw [a]
  exact q
theorem isi_str {S : Store} {w : W} {Q : WK} (h : dat S w) (q : Q (.bl (isStr w)) S) : wIsi [w, .ty "str"] S Q := by
  obtain ⟨t, e, a, b, c, d⟩ := ty_dat h
  refine ⟨by decide, ?_⟩
  rw [e]
  show Q (.bl (subTy t "str")) S
  rw [b]
  exact q
theorem isi_int {S : Store} {w : W} {Q : WK} (h : dat S w) (q : Q (.bl (isInt w)) S) : wIsi [w, .ty "int"] S Q := by
  obtain ⟨t, e, a, b, c, d⟩ := ty_dat h
  refine ⟨by decide, ?_⟩
  rw [e]
  show Q (.bl (subTy t "int")) S
  rw [c]
  exact q
theorem isi_bl {S : Store} {w : W} {Q : WK} (h : dat S w) (q : Q (.bl (isBl w)) S) : wIsi [w, .ty "bool"] S Q := by
  obtain ⟨t, e, a, b, c, d⟩ := ty_dat h
  refine ⟨by decide, ?_⟩
  rw [e]
  show Q (.bl (subTy t "bool")) S
  rw [d]
  exact q
/-- a def that tells f of data: the store may have grown -/
def Pur (n : Nat) (dom : List W → Prop) (f : List W → W) : Con := ⟨List W, fun a ws S => ws = a ∧ a.length = n ∧ dom a ∧ dats S a, fun a S w S' => w = f a ∧ Ex S S'⟩
theorem pur_call {n : Nat} {dom : List W → Prop} {f : List W → W} {ws : List W} {S : Store} {Q : WK} (hn : ws.length = n) (hd : dom ws) (hs : dats S ws) (q : ∀ S', Ex S S' → Q (f ws) S') : conR (Pur n dom f) ws S Q :=
  ⟨ws, ⟨rfl, hn, hd, hs⟩, fun w S' ⟨e, x⟩ => by rw [e]; exact q S' x⟩
end Ev

set_option Elab.async false
set_option linter.all false
set_option maxRecDepth 100000
set_option maxHeartbeats 2000000
/-! The end of a law: the head's facts by one run, defs with tables, the walk. -/
namespace Ev
open PySem PySem.Spec PyProof.Rows L2 Ow
/-- no empty table of a code object -/
def noTab (g : Addr → Option Obj) (a : Addr) : Bool := match g a with
  | some ⟨.none, none, .fields vs, sl⟩ => !(vs.isEmpty && sl.isEmpty)
  | _ => true
def frZ (n : Nat) (g : Addr → Option Obj) : PySem.W.Frag := He.frG g ((He.asD g n).filter (noTab g))
structure Hd where
  n : Nat
  fa : List He.Fa
  fn : List He.DefD
  ts : List He.Tab
  ex : PySem.W.Frag → Bool
abbrev AlZ : Type := He.AlT × Bool
def Hd.obs (d : Hd) (K : PySem.W.Frag) : AlZ := (He.obsT d.fa d.fn d.ts K, d.ex K)
def Hd.val (d : Hd) (w : World) : AlZ := (He.valT d.fn d.ts w, true)
def Hd.obsG (d : Hd) (g : Addr → Option Obj) : AlZ := d.obs (frZ d.n g)
def Hd.says (d : Hd) (w : World) (K : PySem.W.Frag) : Prop := d.obs K = d.val w
def Hd.hook (d : Hd) : PySem.W.Hook where
  α := AlZ
  obs := fun s => d.obsG s.heap.get?
  val := fun w => d.val w
  says := fun w h => ∃ K : PySem.W.Frag, K.In h ∧ d.says w K
  of := fun _ _ e => ⟨_, He.frG_in, e⟩
  keeps := fun _ _ _ ⟨K, hK, c⟩ k => ⟨K, PySem.W.Frag.In.keeps hK k, c⟩
theorem Hd.obs_eq {d : Hd} {g : Addr → Option Obj} {s : Shared} (h : ∀ a, g a = s.heap.get? a) : d.obsG g = d.hook.obs s := by
  have e : g = s.heap.get? := funext h
  rw [e] <;> rfl
section
variable {d : Hd} {w : World} {K : PySem.W.Frag}
theorem Hd.says.t (c : d.says w K) : He.SaysT d.fa d.fn d.ts w K := congrArg (fun z : AlZ => z.1) c
theorem Hd.says.x (c : d.says w K) : d.ex K = true := congrArg (fun z : AlZ => z.2) c
theorem Hd.says.fact (c : d.says w K) (i : Nat) {f : He.Fa} (h : d.fa[i]? = some f := by rfl) : f.ok K = true := c.t.d.fact i h
theorem Hd.says.def_ (c : d.says w K) (i : Nat) {e : He.DefD} (h : d.fn[i]? = some e := by rfl) : ∃ fd, FunD K e.name e.qual e.params e.body e.scope (e.dvs K) (e.kws K) (He.fAd K e.at_) fd := c.t.d.def_ i h
end
/-! ### a written dict from texts to defs -/
def lkS : List (Str × Addr) → Str → Option Addr
  | [], _ => none
  | (k, a) :: r, z => if z = k then some a else lkS r z
theorem lkS_some : ∀ {l : List (Str × Addr)} {z : Str} {a : Addr}, lkS l z = some a → (z, a) ∈ l
  | (k, b) :: r, z, a, h => by
    unfold lkS at h
    by_cases e : z = k
    · rw [if_pos e] at h
      cases h
      rw [e]
      exact List.mem_cons_self
    · rw [if_neg e] at h
      exact List.mem_cons_of_mem _ (lkS_some h)
theorem lkS_none : ∀ {l : List (Str × Addr)} {z : Str}, lkS l z = none → ∀ p ∈ l, p.1 ≠ z
  | (k, b) :: r, z, h, p, hp => by
    unfold lkS at h
    by_cases e : z = k
    · rw [if_pos e] at h
      cases h
    · rw [if_neg e] at h
      rcases List.mem_cons.mp hp with rfl | hp
      · exact Ne.symm e
      · exact lkS_none h p hp
theorem find_no {z : Str} {P : Params} : ∀ {l : List DictEntry} {ks : List Str}, l.map He.keyOf = He.keysIn P ks → z ∉ ks → l.find? (·.key.isStr z) = none ∧ l.any (·.refKey) = false
  | [], _, _, _ => ⟨rfl, rfl⟩
  | e :: r, [], h, _ => by cases h
  | e :: r, k :: ks, h, hz => by
    have h1 : He.keyOf e :: r.map He.keyOf = some (k, PyData.keyHash P k) :: He.keysIn P ks := h
    injection h1 with h2 h3
    obtain ⟨a, b⟩ := find_no h3 fun q => hz (List.mem_cons_of_mem _ q)
    unfold He.keyOf at h2
    cases ek : e.key with
    | str x t =>
      rw [ek] at h2
      have h4 := (Prod.mk.inj (Option.some.inj h2)).1
      have nx : x ≠ z := fun q => hz (by rw [← q, h4]; exact List.mem_cons_self)
      refine ⟨?_, ?_⟩
      · rw [List.find?_cons_of_neg, a]
        rw [ek]
        show ¬ (x == z) = true
        simpa using nx
      · rw [List.any_cons, b, Bool.or_false]
        unfold DictEntry.refKey
        rw [ek]
    | _ => rw [ek] at h2; cases h2
theorem kd_of {w : World} {K : PySem.W.Frag} {h : Heap} {mg : Str → Option Value} {x : Str} {kvs : List (Str × Str)} (X : K.In h) (G : h.Ns mainGlobals mg) (hg : (He.Fa.glo x).ok K = true) (hd : He.dicW K (He.ga K x) = some (He.keysIn w.params (kvs.map (·.1)))) (hv : He.valsB K (He.ga K x) (kvs.map fun q => (q.1, He.Dv.glo q.2)) = true) :
    KD K w mg x (lkS (kvs.map fun q => (q.1, He.ga K q.2))) := by
  obtain ⟨es, n, D⟩ := He.dicW_ok hd
  refine ⟨He.ga K x, es, n, He.glo_ok X G hg, D, fun z => ?_⟩
  cases e : lkS (kvs.map fun q => (q.1, He.ga K q.2)) z with
  | some a =>
    obtain ⟨q, hq, e2⟩ := List.mem_map.mp (lkS_some e)
    have := He.valsB_ok hv (q := (q.1, He.Dv.glo q.2)) (List.mem_map.mpr ⟨q, hq, rfl⟩)
    obtain ⟨u, h1, h2⟩ := this
    cases e2
    rw [h1]
    have h3 : RelV (.ref (He.ga K q.2)) u := h2
    cases u <;> first | cases h3 | skip
    rfl
  | none =>
    have nz : z ∉ kvs.map (·.1) := fun hz => by
      obtain ⟨q, hq, e2⟩ := List.mem_map.mp hz
      exact lkS_none e (q.1, He.ga K q.2) (List.mem_map.mpr ⟨q, hq, rfl⟩) e2
    have l2 : es.toList.map He.keyOf = He.keysIn w.params (kvs.map (·.1)) := by
      unfold He.dicW at hd
      rw [D.at_] at hd
      have : (match decide ("dict" = "dict") && ((#[] : Array (Option Value)).isEmpty && !(He.ga K x == sysModules)) with
        | true => some (es.toList.map He.keyOf)
        | false => none) = some (He.keysIn w.params (kvs.map (·.1))) := hd
      rw [D.low] at this
      exact Option.some.inj this
    obtain ⟨f1, f2⟩ := find_no l2 nz
    unfold PySem.W.nsIn
    rw [D.at_]
    show (match es.toList.find? (·.key.isStr z) with
      | some e => some (some e.val)
      | none => if es.toList.any (·.refKey) then none else some none) = _
    rw [f1, f2]
    rfl
/-! ### the table of a def's code -/
def tabAt (K : PySem.W.Frag) (x : Str) : Addr × Addr := match PySem.W.tabIn K x with
  | some p => p
  | none => (0, 0)
/-- the def x has code with a table, which K doesn't hold -/
def tabOk (K : PySem.W.Frag) (x : Str) : Bool := match PySem.W.tabIn K x with
  | some p => (K.lookup p.2).isNone
  | none => false
theorem tabOk_in {K : PySem.W.Frag} {x : Str} (h : tabOk K x = true) : PySem.W.tabIn K x = some (tabAt K x) ∧ K.lookup (tabAt K x).2 = none := by
  unfold tabOk at h
  unfold tabAt
  cases e : PySem.W.tabIn K x with
  | none => rw [e] at h; cases h
  | some p =>
    rw [e] at h
    exact ⟨rfl, Option.isNone_iff_eq_none.mp h⟩
section
variable {P : Program} {w : World} {K : PySem.W.Frag} {mg : Str → Option Value} {base : Heap} {Tb : List Addr} {x qual : Str} {st : Stmt} {f : Addr} {fd : FuncData} {N ps : List Str} {k : Nat} {C : Con} {m : MS}
abbrev FnP (K : PySem.W.Frag) (x : Str) (st : Stmt) (f : Addr) (fd : FuncData) : Prop := FunD K x x (defArgs st) (defBody st) (defScope st) [] [] f fd
theorem fz_of (F : FnP K x st f fd) (Sc : FnScope N ps (defScope st)) (len : ∀ a ws S, C.pre a ws S → ws.length = ps.length)
    (hm : ∀ (cdv : Value) (A : Around) (outer : List Env) (s : Shared) (H : Hp) (E : XK), Room k (A.deeper (envOfC x (defScope st) s.heap.objs.size f cdv)) → ESs (cxOf CX0 P w K mg base N x (defScope st) f cdv A outer s H E).nox Tb (defBody st) m)
    (vc : ∀ a ws S, C.pre a ws S → m { nx := fun _ S' => C.post a S .non S', rt := fun w S' => C.post a S w S' } (stE N.length ws) S) : FnOk P w K mg base CX0 (k + 1) f fd ps (spOf K Tb C) := by
  refine F.ok Sc (fun vs H Q E h => ?_) (fun cdv A outer s H vs Q E hr h => ?_)
  · obtain ⟨ι, ws, S, a, s, r, hp, _⟩ := h
    rw [r.len, len a ws S hp]
  · obtain ⟨ι, ws, S, a, si, r, hp, q⟩ := h
    have hm' := hm cdv A outer s H E hr
    exact ⟨_, hm'.ps.nox, sp_body (X := (cxOf CX0 P w K mg base N x (defScope st) f cdv A outer s H E).nox) hm' rfl si r hp q vc⟩
theorem dz_of (F : FnP K x st f fd) (g : mg x = some (.ref f)) (b : Binds K fd ps []) (Sc : FnScope N ps (defScope st)) (len : ∀ a ws S, C.pre a ws S → ws.length = ps.length)
    (hm : ∀ (cdv : Value) (A : Around) (outer : List Env) (s : Shared) (H : Hp) (E : XK), Room k (A.deeper (envOfC x (defScope st) s.heap.objs.size f cdv)) → ESs (cxOf CX0 P w K mg base N x (defScope st) f cdv A outer s H E).nox Tb (defBody st) m)
    (vc : ∀ a ws S, C.pre a ws S → m { nx := fun _ S' => C.post a S .non S', rt := fun w S' => C.post a S w S' } (stE N.length ws) S) : Dn P w K mg base Tb x ps (k + 1) C :=
  ⟨f, fd, fz_of F Sc len hm vc, g, F.kp, b⟩
/-- a contract that asks what never is -/
def NoC : Con := ⟨Unit, fun _ _ _ => False, fun _ _ _ _ => True⟩
theorem dz_no (F : FnP K x st f fd) (g : mg x = some (.ref f)) (b : Binds K fd ps []) (Sc : FnScope N ps (defScope st)) (C : Con) (h : ∀ a ws S, ¬ C.pre a ws S) : Dn P w K mg base Tb x ps (k + 1) C :=
  ⟨f, fd, F.ok Sc (fun vs H Q E z => by
    obtain ⟨ι, ws, S, a, s, r, hp, _⟩ := z
    exact (h a ws S hp).elim) (fun cdv A outer s H vs Q E hr z => by
    obtain ⟨ι, ws, S, a, s, r, hp, _⟩ := z
    exact (h a ws S hp).elim), g, F.kp, b⟩
/-- .. whose code is at c -/
theorem dz_ofC {c T : Addr} (F : FnP K x st f fd) (g : mg x = some (.ref f)) (ht : PySem.W.tabIn K x = some (c, T)) (ga : PySem.W.nsIn K mainGlobals x = some (some (.ref f))) (b : Binds K fd ps []) (Sc : FnScope N ps (defScope st)) (len : ∀ a ws S, C.pre a ws S → ws.length = ps.length)
    (hm : ∀ (A : Around) (outer : List Env) (s : Shared) (H : Hp) (E : XK), Room k (A.deeper (envOfC x (defScope st) s.heap.objs.size f (.ref c))) → ESs (cxOf CX0 P w K mg base N x (defScope st) f (.ref c) A outer s H E).nox Tb (defBody st) m)
    (vc : ∀ a ws S, C.pre a ws S → m { nx := fun _ S' => C.post a S .non S', rt := fun w S' => C.post a S w S' } (stE N.length ws) S) : Dn P w K mg base Tb x ps (k + 1) C := by
  obtain ⟨oc, od, dV, kV, doc, pm, an, cdv, ct, osl, rfl, lk, hcd, hD, hK⟩ := F.ex
  have e : cdv = .ref c := by
    unfold PySem.W.tabIn at ht
    rw [ga] at ht
    simp only [lk] at ht
    cases cdv with
    | ref a =>
      have ht : (match K.lookup a with
        | some ⟨_, _, .fields vs, _⟩ => (match (vs[11]? : Option Value) with
          | some (.ref P) => some (a, P)
          | _ => none)
        | _ => none) = some (c, T) := ht
      split at ht
      · split at ht
        · cases ht; rfl
        · cases ht
      · cases ht
    | _ => cases ht
  subst e
  refine ⟨f, _, fn_of lk hcd Sc (fun vs H Q E h => ?_) (fun A outer s H vs Q E hr h => ?_), g, F.kp, b⟩
  · obtain ⟨ι, ws, S, a, s, r, hp, _⟩ := h
    rw [r.len, len a ws S hp]
  · obtain ⟨ι, ws, S, a, si, r, hp, q⟩ := h
    have hm' := hm A outer s H E hr
    exact ⟨_, hm'.ps.nox, sp_body (X := (cxOf CX0 P w K mg base N x (defScope st) f (.ref c) A outer s H E).nox) hm' rfl si r hp q vc⟩
end
/-- a law's contract at the start: the script in a list of numbers -/
def LawC : Con := ⟨W × List Int, fun (x, l) ws S => ws = [x] ∧ seqW x S = some (l.map W.int) ∧ l.length ≤ 63 ∧ ∀ z ∈ l, Builtin.Int.intBits z ≤ 1048576, fun _ _ w _ => w = .bl true⟩
theorem vrs_ints {K : PySem.W.Frag} {ι : List Addr} {H : Hp} : ∀ ns : List Int, VRs K ι H (ns.map W.int) (ns.map V.int)
  | [] => rfl
  | n :: ns => ⟨_, _, rfl, rfl, vrs_ints ns⟩
/-- the law's promise at the start -/
theorem start_law {K : PySem.W.Frag} {H : Hp} {a : Addr} {ns : List Int} {tabs : List Str} (hH : ∀ p ∈ tabs.map fun x => tabAt K x, H p.2 = some (.tbl #[])) (hS : SqL K H a (ns.map V.int)) (hlen : ns.length ≤ 63) (hbits : ∀ z ∈ ns, Builtin.Int.intBits z ≤ 1048576) :
    spOf K (tabs.map fun x => (tabAt K x).2) LawC [.ref a] H (fun v _ => v = .bl true) fun _ _ _ => False := by
  have tg : ∀ T ∈ tabs.map fun x => (tabAt K x).2, GxR.TabG H T := fun T hT => by
    obtain ⟨x, hx', rfl⟩ := List.mem_map.mp hT
    exact ⟨#[], hH _ (List.mem_map.mpr ⟨x, hx', rfl⟩), trivial⟩
  have fz : FzL K H a (ns.map V.int) → spOf K (tabs.map fun x => (tabAt K x).2) LawC [.ref a] H (fun v _ => v = .bl true) fun _ _ _ => False := fun h =>
    ⟨[], [.cl (ns.map W.int)], [], (.cl (ns.map W.int), ns), ⟨rfl, List.nodup_nil, fun n o e => by simp at e, tg⟩, ⟨.ref a, [], rfl, ⟨a, _, rfl, h, vrs_ints ns⟩, rfl⟩, ⟨rfl, rfl, hlen, hbits⟩, fun w S' e ι' H' v _ _ r => by
      have e : w = .bl true := e
      subst e
      exact r⟩
  rcases hS with (h | ⟨o, h⟩) | h
  · exact ⟨[a], [.ref 0], [.lst (ns.map W.int)], (.ref 0, ns), ⟨rfl, by simp, fun n o e => by
      cases n with
      | zero => cases e; exact ⟨a, rfl, _, h, vrs_ints ns⟩
      | succ n => simp at e, tg⟩, ⟨.ref a, [], rfl, ⟨a, rfl, rfl⟩, rfl⟩, ⟨rfl, rfl, hlen, hbits⟩, fun w S' e ι' H' v _ _ r => by
      have e : w = .bl true := e
      subst e
      exact r⟩
  · exact fz (.inl ⟨o, h⟩)
  · exact fz (.inr h)
open LamX in
theorem walk_z {l : PySem.W.OpenLaw} {k : Nat} {q : Program} {loose : List Str} {XP : (Str → Option Value) → Heap → Prop} {d : DefRec} {hd : Hd} (tabs : List Str) (tr : List DefRec) (hT : ∀ x ∈ tabs, ∃ d', (recsOf q).find? (fun e => e.name == x) = some d')
    (hn : l.most = some 63) (hdf : d.params.defaults = []) (hr : Room k callerA) (hx : ∀ K, hd.ex K = true → ∀ x ∈ tabs, tabOk K x = true)
    (F : ∀ (w : World) (mg : Str → Option Value) (fa : Addr) (h : Heap) (K : PySem.W.Frag), K.In h → hd.says w K → h.Ns mainGlobals mg → mg d.name = some (.ref fa) →
      ∃ fd : FuncData, (∀ (s : Shared) (u : Value), BindsTo s fd ⟨[u], []⟩ [("script", u)]) ∧ ∀ base : Heap, K.In base → base.Ns mainGlobals mg → (∀ x ∈ tabs, GxR.TabB base mg (tabAt K x).1 (tabAt K x).2) →
        FnOk l.prog w K mg base CX0 k fa fd ["script"] (spOf K (tabs.map fun x => (tabAt K x).2) LawC)) :
    PySem.W.WalkO q loose XP hd.hook.says l.row.toRowW d [] (fun f vs => PySem.call f vs) := by
  refine Att.attach_callB hn hdf fun w s₀ s₁ mg mb fa o pm cd doc a vs ns G Y ho hd' hcd hmg hobj hints hlen hbits hg => ?_
  obtain ⟨K, KX, c⟩ := Y
  have hx := hx K c.x
  obtain ⟨fd, hb, hF⟩ := F w mg fa _ K KX c G.T.g hmg
  have tab : ∀ x ∈ tabs, PySem.W.CodeHd s₁.heap (tabAt K x).1 (tabAt K x).2 ∧ s₁.heap.get? (tabAt K x).2 = some { cls := .none, data := .fields #[] } := fun x h => by
    obtain ⟨d', e⟩ := hT x h
    exact PySem.W.tab_of G.T KX e (tabOk_in (hx x h)).1
  refine law_callTs (CX := CX0) (cs := tabs.map fun x => tabAt K x) (sp := spOf K (tabs.map fun x => (tabAt K x).2) LawC) KX G.T.g G.T.b G.T.builtins G.T.nolimit hg (fun p hp => ?_) (fun p hp => ?_) (fun p hp => ?_) G.T.bmain hobj hints (Nat.le_trans hlen (by decide)) hr (fun base kb nb tb => ?_) hb (fun H hH hS => ?_) fun H e s' z => z
  · obtain ⟨x, hx', rfl⟩ := List.mem_map.mp hp
    exact (tab x hx').2
  · obtain ⟨x, hx', rfl⟩ := List.mem_map.mp hp
    exact (tabOk_in (hx x hx')).2
  · obtain ⟨x, hx', rfl⟩ := List.mem_map.mp hp
    exact (tab x hx').1
  · exact hF base kb nb fun x h => tabB (tb _ (List.mem_map.mpr ⟨x, h, rfl⟩))
  · exact start_law hH hS hlen hbits
/-! .. over a head that was walked -/
open LamX in
theorem walk_y {l : PySem.W.OpenLaw} {k : Nat} {q : Program} {loose : List Str} {XP : (Str → Option Value) → Heap → Prop} {YP : World → Heap → Prop} {d : DefRec} {hd : Hd} {KF : Params → PySem.W.Frag} (hY : ∀ (w : World) (h : Heap), YP w h → (KF w.params).In h) (hS : ∀ w : World, hd.says w (KF w.params)) (tabs : List Str) (tr : List DefRec) (hT : ∀ x ∈ tabs, ∃ d', (recsOf q).find? (fun e => e.name == x) = some d')
    (hn : l.most = some 63) (hdf : d.params.defaults = []) (hr : Room k callerA) (hx : ∀ K, hd.ex K = true → ∀ x ∈ tabs, tabOk K x = true)
    (F : ∀ (w : World) (mg : Str → Option Value) (fa : Addr) (h : Heap) (K : PySem.W.Frag), K.In h → hd.says w K → h.Ns mainGlobals mg → mg d.name = some (.ref fa) →
      ∃ fd : FuncData, (∀ (s : Shared) (u : Value), BindsTo s fd ⟨[u], []⟩ [("script", u)]) ∧ ∀ base : Heap, K.In base → base.Ns mainGlobals mg → (∀ x ∈ tabs, GxR.TabB base mg (tabAt K x).1 (tabAt K x).2) →
        FnOk l.prog w K mg base CX0 k fa fd ["script"] (spOf K (tabs.map fun x => (tabAt K x).2) LawC)) :
    PySem.W.WalkO q loose XP YP l.row.toRowW d [] (fun f vs => PySem.call f vs) := by
  refine Att.attach_callB hn hdf fun w s₀ s₁ mg mb fa o pm cd doc a vs ns G Y ho hd' hcd hmg hobj hints hlen hbits hg => ?_
  have KX := hY w _ Y
  have c := hS w
  generalize KF w.params = K at KX c
  have hx := hx K c.x
  obtain ⟨fd, hb, hF⟩ := F w mg fa _ K KX c G.T.g hmg
  have tab : ∀ x ∈ tabs, PySem.W.CodeHd s₁.heap (tabAt K x).1 (tabAt K x).2 ∧ s₁.heap.get? (tabAt K x).2 = some { cls := .none, data := .fields #[] } := fun x h => by
    obtain ⟨d', e⟩ := hT x h
    exact PySem.W.tab_of G.T KX e (tabOk_in (hx x h)).1
  refine law_callTs (CX := CX0) (cs := tabs.map fun x => tabAt K x) (sp := spOf K (tabs.map fun x => (tabAt K x).2) LawC) KX G.T.g G.T.b G.T.builtins G.T.nolimit hg (fun p hp => ?_) (fun p hp => ?_) (fun p hp => ?_) G.T.bmain hobj hints (Nat.le_trans hlen (by decide)) hr (fun base kb nb tb => ?_) hb (fun H hH hS => ?_) fun H e s' z => z
  · obtain ⟨x, hx', rfl⟩ := List.mem_map.mp hp
    exact (tab x hx').2
  · obtain ⟨x, hx', rfl⟩ := List.mem_map.mp hp
    exact (tabOk_in (hx x hx')).2
  · obtain ⟨x, hx', rfl⟩ := List.mem_map.mp hp
    exact (tab x hx').1
  · exact hF base kb nb fun x h => tabB (tb _ (List.mem_map.mpr ⟨x, h, rfl⟩))
  · exact start_law hH hS hlen hbits
end Ev

set_option Elab.async false
set_option linter.all false
set_option maxRecDepth 100000
set_option maxHeartbeats 1000000
namespace EvT
open PySem PySem.Spec PyProof.Rows L2 Ow Ev
def m_is_name  : MS :=
  (mSeq (mIfS (mOr (mNot (mTru (mCB wIsi (mCons (mVar 0) (mCons (mC (.ty "str")) mNil))))) (mNot (mTest (mChain wLe wLe (mC (.int 1)) (mCB wLen (mCons (mVar 0) mNil)) (mC (.int (8)))))))
  (mRet (mC (.bl false)))
  mNext)
  (mRet (mAll (mIt (mVar 0)) (mgName 1) (mChain wLe wLe (mC (.str "a")) (mVar 1) (mC (.str "z"))) [1])))
def m_x_is_tuple  : MS :=
  (mRet (mAndV (mCB wIsi (mCons (mVar 0) (mCons (mC (.ty "tuple")) mNil))) (mChain wLe wLe (mVar 1) (mCB wLen (mCons (mVar 0) mNil)) (mVar 2))))
def m_x_are_names (C_x_is_tuple : Con) (C_is_name : Con) : MS :=
  (mRet (mAndV (mCB (conR C_x_is_tuple) (mCons (mVar 0) (mCons (mC (.int 0)) (mCons (mC (.int (3))) mNil)))) (mAll (mIt (mVar 0)) (mgName 1) (mCB (conR C_is_name) (mCons (mVar 1) mNil)) [1])))
def m_x_are_unlike  : MS :=
  (mRet (mBin wEq (mLenSet (mVar 0)) (mCB wLen (mCons (mVar 0) mNil))))
def m_x_is_num  : MS :=
  (mSeq (mIfS (mOr (mTest (mBin wNe (mCB wLen (mCons (mVar 0) mNil)) (mC (.int 2)))) (mOr (mTru (mCB wIsi (mCons (mBin wIx (mVar 0) (mC (.int 1))) (mCons (mC (.ty "bool")) mNil)))) (mNot (mTru (mCB wIsi (mCons (mBin wIx (mVar 0) (mC (.int 1))) (mCons (mC (.ty "int")) mNil)))))))
  (mRet (mC (.bl false)))
  mNext)
  (mRet (mChain wLe wLe (mC (.int (-1000000000000000000))) (mBin wIx (mVar 0) (mC (.int 1))) (mC (.int (1000000000000000000))))))
def m_x_is_asking (C_is_name : Con) : MS :=
  (mRet (mAndV (mBin wEq (mCB wLen (mCons (mVar 0) mNil)) (mC (.int 2))) (mCB (conR C_is_name) (mCons (mBin wIx (mVar 0) (mC (.int 1))) mNil))))
def m_x_is_fun (C_is_name : Con) : MS :=
  (mRet (mAndV (mBin wEq (mCB wLen (mCons (mVar 0) mNil)) (mC (.int 3))) (mCB (conR C_is_name) (mCons (mBin wIx (mVar 0) (mC (.int 1))) mNil))))
def m_x_is_of_two_names (C_is_name : Con) : MS :=
  (mRet (mAndV (mBin wEq (mCB wLen (mCons (mVar 0) mNil)) (mC (.int 3))) (mAndV (mCB (conR C_is_name) (mCons (mBin wIx (mVar 0) (mC (.int 1))) mNil)) (mCB (conR C_is_name) (mCons (mBin wIx (mVar 0) (mC (.int 2))) mNil)))))
def m_x_is_put_by (C_is_name : Con) : MS :=
  (mRet (mAndV (mBin wEq (mCB wLen (mCons (mVar 0) mNil)) (mC (.int 4))) (mCB (conR C_is_name) (mCons (mBin wIx (mVar 0) (mC (.int 1))) mNil))))
def m_x_is_pair (C_x_is_tuple : Con) (C_is_name : Con) : MS :=
  (mSeq (mIfS (mOr (mNot (mTru (mCB (conR C_x_is_tuple) (mCons (mVar 0) (mCons (mC (.int 2)) (mCons (mC (.int 2)) mNil)))))) (mNot (mTru (mCB (conR C_is_name) (mCons (mBin wIx (mVar 0) (mC (.int 0))) mNil)))))
  (mRet (mC (.bl false)))
  mNext)
  (mSeq (mAsg (mBin wIx (mVar 0) (mC (.int 1))) (mgName 1))
  (mSeq (mIfS (mOr (mNot (mTru (mCB wIsi (mCons (mVar 1) (mCons (mC (.ty "tuple")) mNil))))) (mOr (mTest (mBin wEq (mCB wLen (mCons (mVar 1) mNil)) (mC (.int 0)))) (mNot (mTru (mCB wIsi (mCons (mBin wIx (mVar 1) (mC (.int 0))) (mCons (mC (.ty "str")) mNil)))))))
  (mRet (mC (.bl false)))
  mNext)
  (mRet (mBin wIn (mBin wIx (mVar 1) (mC (.int 0))) (mTup (mCons (mC (.str "fun")) (mCons (mC (.str "made")) mNil))))))))
def m_x_is_letall (C_x_is_tuple : Con) (C_x_is_pair : Con) (C_x_are_unlike : Con) : MS :=
  (mSeq (mIfS (mOr (mTest (mBin wNe (mCB wLen (mCons (mVar 0) mNil)) (mC (.int 3)))) (mNot (mTru (mCB (conR C_x_is_tuple) (mCons (mBin wIx (mVar 0) (mC (.int 1))) (mCons (mC (.int 1)) (mCons (mC (.int (6))) mNil)))))))
  (mRet (mC (.bl false)))
  mNext)
  (mRet (mAndV (mAll (mIt (mBin wIx (mVar 0) (mC (.int 1)))) (mgName 1) (mCB (conR C_x_is_pair) (mCons (mVar 1) mNil)) [1]) (mCB (conR C_x_are_unlike) (mCons (mLc (mIt (mBin wIx (mVar 0) (mC (.int 1)))) (mgName 1) mYes (mBin wIx (mVar 1) (mC (.int 0))) [1]) mNil)))))
def m_x_is_made (C_is_name : Con) (C_x_are_names : Con) : MS :=
  (mRet (mAndV (mBin wEq (mCB wLen (mCons (mVar 0) mNil)) (mC (.int 3))) (mAndV (mCB (conR C_is_name) (mCons (mBin wIx (mVar 0) (mC (.int 1))) mNil)) (mCB (conR C_x_are_names) (mCons (mBin wIx (mVar 0) (mC (.int 2))) mNil)))))
def m_x_is_branch (C_x_is_tuple : Con) (C_is_name : Con) (C_x_are_names : Con) (C_x_are_unlike : Con) : MS :=
  (mSeq (mIfS (mOr (mNot (mTru (mCB (conR C_x_is_tuple) (mCons (mVar 0) (mCons (mC (.int 3)) (mCons (mC (.int 3)) mNil)))))) (mNot (mTru (mCB (conR C_is_name) (mCons (mBin wIx (mVar 0) (mC (.int 0))) mNil)))))
  (mRet (mC (.bl false)))
  mNext)
  (mRet (mAndV (mCB (conR C_x_are_names) (mCons (mBin wIx (mVar 0) (mC (.int 1))) mNil)) (mCB (conR C_x_are_unlike) (mCons (mBin wIx (mVar 0) (mC (.int 1))) mNil)))))
def m_x_is_by (C_is_name : Con) (C_x_is_tuple : Con) (C_x_is_branch : Con) (C_x_are_unlike : Con) : MS :=
  (mSeq (mIfS (mOr (mTest (mBin wNe (mCB wLen (mCons (mVar 0) mNil)) (mC (.int 3)))) (mOr (mNot (mTru (mCB (conR C_is_name) (mCons (mBin wIx (mVar 0) (mC (.int 1))) mNil)))) (mNot (mTru (mCB (conR C_x_is_tuple) (mCons (mBin wIx (mVar 0) (mC (.int 2))) (mCons (mC (.int 1)) (mCons (mC (.int (6))) mNil))))))))
  (mRet (mC (.bl false)))
  mNext)
  (mRet (mAndV (mAll (mIt (mBin wIx (mVar 0) (mC (.int 2)))) (mgName 1) (mCB (conR C_x_is_branch) (mCons (mVar 1) mNil)) [1]) (mCB (conR C_x_are_unlike) (mCons (mLc (mIt (mBin wIx (mVar 0) (mC (.int 2)))) (mgName 1) mYes (mBin wIx (mVar 1) (mC (.int 0))) [1]) mNil)))))
def m_x_is_shaped (T_SORTS : Str → Option Addr) (CA : Addr → Option Con) : MS :=
  (mSeq (mIfS (mOr (mNot (mTru (mCB wIsi (mCons (mVar 0) (mCons (mC (.ty "tuple")) mNil))))) (mOr (mTest (mBin wEq (mCB wLen (mCons (mVar 0) mNil)) (mC (.int 0)))) (mNot (mTru (mCB wIsi (mCons (mBin wIx (mVar 0) (mC (.int 0))) (mCons (mC (.ty "str")) mNil)))))))
  (mRet (mC (.bl false)))
  mNext)
  (mSeq (mIfS (mTest (mInKD true T_SORTS (mBin wIx (mVar 0) (mC (.int 0)))))
  (mRet (mC (.bl false)))
  mNext)
  (mSeq (mAsg (mIxKD T_SORTS (mBin wIx (mVar 0) (mC (.int 0)))) (mgName 1))
  (mRet (mCallL 1 CA (mCons (mVar 0) mNil))))))
def m_named  : MS :=
  (mSeq (mAsg (mBin wIx (mVar 0) (mC (.int 0))) (mgName 1))
  (mSeq (mIfS (mTest (mBin wEq (mVar 1) (mC (.str "made"))))
  (mRet (mBin wIx (mVar 0) (mC (.int 2))))
  mNext)
  (mSeq (mIfS (mTest (mBin wIn (mVar 1) (mTup (mCons (mC (.str "name")) (mCons (mC (.str "by")) mNil)))))
  (mRet (mSl (mVar 0) (mP (mC (.int 1))) (mP (mC (.int 2)))))
  mNext)
  (mSeq (mIfS (mTest (mBin wIn (mVar 1) (mTup (mCons (mC (.str "call")) (mCons (mC (.str "sum")) (mCons (mC (.str "minus")) (mCons (mC (.str "less")) (mCons (mC (.str "same")) mNil))))))))
  (mRet (mSl (mVar 0) (mP (mC (.int 1))) (mP (mC (.int 3)))))
  mNext)
  (mRet (mTup mNil))))))
def m_within  : MS :=
  (mSeq (mAsg (mBin wIx (mVar 0) (mC (.int 0))) (mgName 1))
  (mSeq (mIfS (mTest (mBin wEq (mVar 1) (mC (.str "fun"))))
  (mRet (mLst (mCons (mTup (mCons (mBin wIx (mVar 0) (mC (.int 2))) (mCons (mTup (mCons (mBin wIx (mVar 0) (mC (.int 1))) mNil)) mNil))) mNil)))
  mNext)
  (mSeq (mIfS (mTest (mBin wIn (mVar 1) (mTup (mCons (mC (.str "let")) (mCons (mC (.str "now")) mNil)))))
  (mRet (mLst (mCons (mTup (mCons (mBin wIx (mVar 0) (mC (.int 2))) (mCons (mTup mNil) mNil))) (mCons (mTup (mCons (mBin wIx (mVar 0) (mC (.int 3))) (mCons (mTup (mCons (mBin wIx (mVar 0) (mC (.int 1))) mNil)) mNil))) mNil))))
  mNext)
  (mSeq (mIfS (mTest (mBin wEq (mVar 1) (mC (.str "letall"))))
  (mSeq (mAsg (mCB wTuple (mCons (mLc (mIt (mBin wIx (mVar 0) (mC (.int 1)))) (mgName 3) mYes (mBin wIx (mVar 3) (mC (.int 0))) [3]) mNil)) (mgName 2))
  (mRet (mBin wAdd (mLc (mIt (mBin wIx (mVar 0) (mC (.int 1)))) (mgName 3) mYes (mTup (mCons (mBin wIx (mVar 3) (mC (.int 1))) (mCons (mVar 2) mNil))) [3]) (mLst (mCons (mTup (mCons (mBin wIx (mVar 0) (mC (.int 2))) (mCons (mVar 2) mNil))) mNil)))))
  mNext)
  (mSeq (mIfS (mTest (mBin wEq (mVar 1) (mC (.str "by"))))
  (mRet (mLc (mIt (mBin wIx (mVar 0) (mC (.int 2)))) (mgName 4) mYes (mTup (mCons (mBin wIx (mVar 4) (mC (.int 2))) (mCons (mBin wIx (mVar 4) (mC (.int 1))) mNil))) [4]))
  mNext)
  (mRet (mLst mNil)))))))
def m_is_term (C_x_is_shaped : Con) (C_within : Con) : MS :=
  (mSeq (mAsg (mLst (mCons (mTup (mCons (mVar 0) (mCons (mC (.int 1)) mNil))) mNil)) (mgName 1))
  (mSeq (mAsg (mC (.int 0)) (mgName 2))
  (mSeq (mWh (mTru (mVar 1))
  (mSeq (mAsg (mBM0 wPop (mVar 1)) (mgTup 2 (mgCons (mgName 3) (mgCons (mgName 4) mgNil))))
  (mSeq (mAug 2 (wInt (fun i j => i + j) fun _ _ => True) (mC (.int 1)))
  (mSeq (mIfS (mOr (mTest (mBin wGt (mVar 2) (mC (.int (300))))) (mOr (mTest (mBin wGt (mVar 4) (mC (.int (60))))) (mNot (mTru (mCB (conR C_x_is_shaped) (mCons (mVar 3) mNil))))))
  (mRet (mC (.bl false)))
  mNext)
  (mFor (mIt (mCB (conR C_within) (mCons (mVar 3) mNil))) (mgTup 2 (mgCons (mgName 5) (mgCons (mgName 6) mgNil)))
  (mDrop (mBM wAppend (mVar 1) (mCons (mTup (mCons (mVar 5) (mCons (mBin wAdd (mVar 4) (mC (.int 1))) mNil))) mNil))))))))
  (mRet (mC (.bl true))))))
def m_free_names (C_named : Con) (C_within : Con) : MS :=
  (mSeq (mAsg mDnew (mgName 1))
  (mSeq (mAsg (mLst (mCons (mTup (mCons (mVar 0) (mCons (mTup mNil) mNil))) mNil)) (mgName 2))
  (mSeq (mWh (mTru (mVar 2))
  (mSeq (mAsg (mBM0 wPop (mVar 2)) (mgTup 2 (mgCons (mgName 3) (mgCons (mgName 4) mgNil))))
  (mSeq (mFor (mIt (mCB (conR C_named) (mCons (mVar 3) mNil))) (mgName 5)
  (mIfS (mTest (mBin wNotIn (mVar 5) (mVar 4)))
  (mAsg (mC (.bl true)) (mgSub (mVar 1) (mVar 5)))
  mNext))
  (mFor (mIt (mCB (conR C_within) (mCons (mVar 3) mNil))) (mgTup 2 (mgCons (mgName 6) (mgCons (mgName 7) mgNil)))
  (mDrop (mBM wAppend (mVar 2) (mCons (mTup (mCons (mVar 6) (mCons (mBin wAdd (mVar 4) (mVar 7)) mNil))) mNil)))))))
  (mRet (mCB wSortD (mCons (mVar 1) mNil))))))
def m_is_program (C_is_term : Con) (C_free_names : Con) : MS :=
  (mRet (mAndV (mCB (conR C_is_term) (mCons (mVar 0) mNil)) (mBin wEq (mCB wLen (mCons (mCB (conR C_free_names) (mCons (mVar 0) mNil)) mNil)) (mC (.int 0)))))
end EvT

set_option Elab.async false
set_option linter.all false
set_option maxRecDepth 100000
set_option maxHeartbeats 1000000
namespace EvT
open PySem PySem.Spec PyProof.Rows L2 Ow Ev
theorem ifT {p q : Prop} (h : p) : if True then p else q := by simpa using h
theorem ifF {p q : Prop} (h : q) : if False then p else q := by simpa using h
/-- a test by a bool -/
theorem ifB {b : Bool} {p q : Prop} (ht : b = true → p) (hf : b = false → q) : if b = true then p else q := by
  cases b with
  | true => exact iteT (ht rfl)
  | false => exact iteF (hf rfl)
theorem ifNB {b : Bool} {p q : Prop} (ht : b = false → p) (hf : b = true → q) : if (!b) = true then p else q := by
  cases b with
  | true => exact iteF (hf rfl)
  | false => exact iteT (ht rfl)
def nameB : W → Bool
  | .str z => isNm z
  | _ => false
theorem isStr_name {x : W} (h : isStr x = false) : nameB x = false := by
  cases x <;> first | rfl | cases h
theorem isStr_str {x : W} (h : isStr x = true) : ∃ z, x = .str z := by
  cases x <;> first | exact ⟨_, rfl⟩ | cases h
theorem isTup_tup {x : W} (h : isTup x = true) : ∃ z, x = .tup z := by
  cases x <;> first | exact ⟨_, rfl⟩ | cases h
theorem all_map {α β : Type} (f : α → β) (p : β → Bool) (q : α → Bool) (h : ∀ a, p (f a) = q a) : ∀ l : List α, (l.map f).all p = l.all q
  | [] => rfl
  | a :: l => by rw [List.map_cons, List.all_cons, List.all_cons, h, all_map f p q h l]
def az (w : W) : Bool := match w with
  | .str z => !decide (z.cps.toList < (Str.ofString "a").cps.toList) && !decide ((Str.ofString "z").cps.toList < z.cps.toList)
  | _ => false
theorem vc_is_name {x : W} {S : Store} {D : MD} (h : dat S x) (k : ∀ S', Ex S S' → D.rt (.bl (nameB x)) S') : m_is_name D [some x, none] S := by
  unfold m_is_name
  simp only [mSeq, mIfS, mRet, mRetN, mAsg, mDrop, mTest, mBin, mChain, mTru, mAnd, mOr, mNot, mAndV, mOrV, mNotV, mIf, mVar, mC, mCons, mNil, mTup, mLst, mCB, mgName, mNext, mIt, mPar, mAug, lk]
  refine isi_str h ?_
  refine ifNB (fun e => ?_) fun e => ?_
  · have := k S Ex.refl
    rw [isStr_name e] at this
    exact ifT this
  · obtain ⟨z, rfl⟩ := isStr_str e
    refine ⟨h, ?_⟩
    have out : nameB (.str z) = false → D.rt (.bl false) S := fun e => e ▸ k S Ex.refl
    show if decide ((1 : Int) ≤ z.length) = true then _ else _
    refine ifB (fun e1 => ?_) fun e1 => iteT (out ?_)
    · show if (!decide ((z.length : Int) ≤ 8)) = true then _ else _
      refine ifNB (fun e2 => out ?_) fun e2 => ?_
      · show isNm z = false
        unfold isNm
        rw [decide_eq_false (show ¬ (1 ≤ z.length ∧ z.length ≤ 8) by have := of_decide_eq_false e2; omega), Bool.false_and]
      · refine allL_ex (S0 := S) az (fun w => [some (.str z), some w]) (fun _ _ => trivial) _ (fun w _ S2 R r => r) (fun w hw S2 k2 _ q => ?_) (fun S2 h2 => ?_) S Ex.refl
        · obtain ⟨c, hc, rfl⟩ := List.mem_map.mp hw
          show if (!decide ((⟨#[c]⟩ : Str).cps.toList < (Str.ofString "a").cps.toList)) = true then k2 (.bl (!decide ((Str.ofString "z").cps.toList < (⟨#[c]⟩ : Str).cps.toList))) S2 else k2 (.bl false) S2
          have q0 := q S2 Ex.refl
          unfold az signW at q0
          refine ifB (fun e => ?_) fun e => ?_
          · dsimp only at q0
            rw [e, Bool.true_and] at q0
            exact q0
          · dsimp only at q0
            rw [e, Bool.false_and] at q0
            exact q0
        · have := k S2 h2
          have e3 : nameB (.str z) = (z.cps.toList.map signW).all az := by
            rw [all_map signW az (fun c => decide (97 ≤ c ∧ c ≤ 122)) fun c => az_eq c]
            show isNm z = _
            unfold isNm
            rw [decide_eq_true (show 1 ≤ z.length ∧ z.length ≤ 8 by have := of_decide_eq_true e1; have := of_decide_eq_true e2; omega), Bool.true_and]
          rw [e3] at this
          exact this
    · show isNm z = false
      unfold isNm
      rw [decide_eq_false (show ¬ (1 ≤ z.length ∧ z.length ≤ 8) by have := of_decide_eq_false e1; omega), Bool.false_and]
end EvT

set_option Elab.async false
set_option linter.all false
set_option maxRecDepth 100000
set_option maxHeartbeats 1000000
namespace EvT
open PySem PySem.Spec PyProof.Rows L2 Ow Ev
section
variable {S : Store} {Q : WK} {l : List W} {a b c d : W} {i j : Int}
theorem wLen_tup : wLen [.tup l] S Q = Q (.int l.length) S := rfl
theorem wLe_int : wLe (.int i) (.int j) S Q = Q (.bl (decide (i ≤ j))) S := rfl
theorem wLt_int : wLt (.int i) (.int j) S Q = Q (.bl (decide (i < j))) S := rfl
theorem wGt_int : wGt (.int i) (.int j) S Q = Q (.bl (decide (j < i))) S := rfl
theorem wEq_int : wEq (.int i) (.int j) S Q = Q (.bl (decide (i = j))) S := congrArg (fun x => Q (.bl x) S) (Bool.false_xor _)
theorem wNe_int : wNe (.int i) (.int j) S Q = Q (.bl (!decide (i = j))) S := congrArg (fun x => Q (.bl x) S) (Bool.true_xor _)
theorem wEq_str {x y : Str} : wEq (.str x) (.str y) S Q = Q (.bl (decide (x = y))) S := congrArg (fun x => Q (.bl x) S) (Bool.false_xor _)
theorem wNe_str {x y : Str} : wNe (.str x) (.str y) S Q = Q (.bl (!decide (x = y))) S := congrArg (fun x => Q (.bl x) S) (Bool.true_xor _)
theorem wIx_tup : wIx (.tup l) (.int i) S Q = oW (wAt l i) (fun w => Q w S) := rfl
theorem wAt0 {α : Type} {a : α} {r : List α} : wAt (a :: r) 0 = some a := rfl
theorem wAt1 {α : Type} {a b : α} {r : List α} : wAt (a :: b :: r) 1 = some b := rfl
theorem wAt2 {α : Type} {a b c : α} {r : List α} : wAt (a :: b :: c :: r) 2 = some c := rfl
theorem wAt3 {α : Type} {a b c d : α} {r : List α} : wAt (a :: b :: c :: d :: r) 3 = some d := rfl
theorem oW_s {α : Type} {a : α} {k : α → Prop} : oW (some a) k = k a := rfl
theorem tru_bl {b : Bool} {k : Bool → Store → Prop} : Ev.wTru (.bl b) S k = k b S := rfl
end
theorem iteB {b c : Bool} {p : Bool → Prop} (h : p (b && c)) : if b = true then p c else p false := by
  cases b with
  | true => exact iteT (by simpa using h)
  | false => exact iteF (by simpa using h)
theorem of_len1 : ∀ {l : List W}, l.length = 1 → ∃ a, l = [a]
  | [a], _ => ⟨a, rfl⟩
theorem of_len2 : ∀ {l : List W}, l.length = 2 → ∃ a b, l = [a, b]
  | [a, b], _ => ⟨a, b, rfl⟩
theorem of_len3 : ∀ {l : List W}, l.length = 3 → ∃ a b c, l = [a, b, c]
  | [a, b, c], _ => ⟨a, b, c, rfl⟩
theorem of_len4 : ∀ {l : List W}, l.length = 4 → ∃ a b c d, l = [a, b, c, d]
  | [a, b, c, d], _ => ⟨a, b, c, d, rfl⟩
def tupB (x : W) (lo hi : Int) : Bool := match x with
  | .tup l => decide (lo ≤ l.length) && decide ((l.length : Int) ≤ hi)
  | _ => false
theorem tupB_no {x : W} {lo hi : Int} (h : isTup x = false) : tupB x lo hi = false := by
  cases x <;> first | rfl | cases h
abbrev NameC : Con := Pur 1 (fun _ => True) fun a => match a with
  | [x] => .bl (nameB x)
  | _ => .non
abbrev TupC : Con := Pur 3 (fun a => ∃ x lo hi, a = [x, .int lo, .int hi]) fun a => match a with
  | [x, .int lo, .int hi] => .bl (tupB x lo hi)
  | _ => .non
theorem vc_is_tuple {x : W} {lo hi : Int} {S : Store} {D : MD} (h : dat S x) (k : ∀ S', Ex S S' → D.rt (.bl (tupB x lo hi)) S') : m_x_is_tuple D [some x, some (.int lo), some (.int hi)] S := by
  unfold m_x_is_tuple
  simp only [mSeq, mIfS, mRet, mRetN, mAsg, mDrop, mTest, mBin, mChain, mTru, mAnd, mOr, mNot, mAndV, mOrV, mNotV, mIf, mVar, mC, mCons, mNil, mTup, mLst, mCB, mgName, mNext, mIt, mPar, mAug, lk, wLen_tup, wLe_int, wLt_int, wGt_int, wEq_int, wNe_int, wEq_str, wNe_str, wIx_tup, wAt0, wAt1, wAt2, wAt3, oW_s, tru_bl, List.set]
  refine isi_tup h ?_
  refine ifB (fun e => ?_) fun e => ?_
  · obtain ⟨l, rfl⟩ := isTup_tup e
    simp only [mSeq, mIfS, mRet, mRetN, mAsg, mDrop, mTest, mBin, mChain, mTru, mAnd, mOr, mNot, mAndV, mOrV, mNotV, mIf, mVar, mC, mCons, mNil, mTup, mLst, mCB, mgName, mNext, mIt, mPar, mAug, lk, wLen_tup, wLe_int, wLt_int, wGt_int, wEq_int, wNe_int, wEq_str, wNe_str, wIx_tup, wAt0, wAt1, wAt2, wAt3, oW_s, tru_bl, List.set]
    have := k S Ex.refl
    unfold tupB at this
    refine iteB (p := fun b => D.rt (.bl b) S) ?_
    exact this
  · have := k S Ex.refl
    rw [tupB_no e] at this
    exact this
theorem pur_name {x : W} {S : Store} {Q : WK} (h : dat S x) (q : ∀ S', Ex S S' → Q (.bl (nameB x)) S') : conR NameC [x] S Q := pur_call rfl trivial ⟨h, trivial⟩ q
theorem pur_tup {x : W} {lo hi : Int} {S : Store} {Q : WK} (h : dat S x) (q : ∀ S', Ex S S' → Q (.bl (tupB x lo hi)) S') : conR TupC [x, .int lo, .int hi] S Q := pur_call rfl ⟨_, _, _, rfl⟩ ⟨h, trivial, trivial, trivial⟩ q
def namesB (x : W) : Bool := match x with
  | .tup l => tupB x 0 3 && l.all nameB
  | _ => false
abbrev NamesC : Con := Pur 1 (fun _ => True) fun a => match a with
  | [x] => .bl (namesB x)
  | _ => .non
theorem vc_are_names {x : W} {S : Store} {D : MD} (h : dat S x) (k : ∀ S', Ex S S' → D.rt (.bl (namesB x)) S') : m_x_are_names TupC NameC D [some x, none] S := by
  unfold m_x_are_names
  simp only [mSeq, mIfS, mRet, mRetN, mAsg, mDrop, mTest, mBin, mChain, mTru, mAnd, mOr, mNot, mAndV, mOrV, mNotV, mIf, mVar, mC, mCons, mNil, mTup, mLst, mCB, mgName, mNext, mIt, mPar, mAug, lk, wLen_tup, wLe_int, wLt_int, wGt_int, wEq_int, wNe_int, wEq_str, wNe_str, wIx_tup, wAt0, wAt1, wAt2, wAt3, oW_s, tru_bl, List.set]
  refine pur_tup h fun S1 h1 => ?_
  refine ifB (fun e => ?_) fun e => ?_
  · cases x with
    | tup l =>
      refine allL_ex (S0 := S1) nameB (fun w => [some (.tup l), some w]) (fun _ _ => trivial) l (fun w _ S2 R r => r) (fun w hw S2 k2 hx q => pur_name ((h.2.mem hw).ex (h1.trans hx)) q) (fun S2 h2 => ?_) S1 Ex.refl
      have := k S2 (h1.trans h2)
      have e5 : namesB (.tup l) = l.all nameB := by
        show (tupB (.tup l) 0 3 && l.all nameB) = _
        rw [e, Bool.true_and]
      rw [e5] at this
      exact this
    | _ => cases e
  · have := k S1 h1
    have e2 : namesB x = false := by
      cases x with
      | tup l =>
        show (tupB (.tup l) 0 3 && l.all nameB) = false
        rw [e, Bool.false_and]
      | _ => rfl
    rw [e2] at this
    exact this
theorem pur_names {x : W} {S : Store} {Q : WK} (h : dat S x) (q : ∀ S', Ex S S' → Q (.bl (namesB x)) S') : conR NamesC [x] S Q := pur_call rfl trivial ⟨h, trivial⟩ q
def UnlikeC : Con := ⟨List Str, fun xs ws S => ∃ w, ws = [w] ∧ seqW w S = some (xs.map W.str) ∧ xs.length ≤ 4000, fun xs S w S' => w = .bl (decide xs.Nodup) ∧ Ex S S'⟩
theorem dup_split : ∀ {xs : List Str}, ¬ xs.Nodup → ∃ p x q, xs = p ++ x :: q ∧ x ∈ q
  | [], h => absurd List.nodup_nil h
  | x :: xs, h => by
    by_cases hx : x ∈ xs
    · exact ⟨[], x, xs, rfl, hx⟩
    · obtain ⟨p, y, q, e, hy⟩ := dup_split fun z => h (List.nodup_cons.mpr ⟨hx, z⟩)
      exact ⟨x :: p, y, q, by rw [e]; rfl, hy⟩
theorem nodup_len {xs ys : List Str} (hn : ys.Nodup) (hm : ∀ k, k ∈ ys ↔ k ∈ xs) : decide (ys.length = xs.length) = decide xs.Nodup := by
  rw [decide_eq_decide]
  constructor
  · intro e
    by_cases hx : xs.Nodup
    · exact hx
    · obtain ⟨p, x, q, rfl, hq⟩ := dup_split hx
      have := PySem.length_le_of_nodup_of_subset ys (p ++ q) hn fun z hz => by
        have := (hm z).mp hz
        rcases List.mem_append.mp this with h | h
        · exact List.mem_append_left _ h
        · rcases List.mem_cons.mp h with h | h
          · rw [h]
            exact List.mem_append_right _ hq
          · exact List.mem_append_right _ h
      rw [List.length_append] at this
      rw [List.length_append, List.length_cons] at e
      omega
  · intro hx
    have a := PySem.length_le_of_nodup_of_subset ys xs hn fun z hz => (hm z).mp hz
    have b := PySem.length_le_of_nodup_of_subset xs ys hx fun z hz => (hm z).mpr hz
    omega
theorem len_seq {w : W} {S : Store} {l : List W} {Q : WK} (h : seqW w S = some l) (q : Q (.int l.length) S) : wLen [w] S Q := by
  cases w with
  | tup m => cases h; exact q
  | cl m => cases h; exact q
  | ref n =>
    unfold seqW at h
    dsimp only at h
    show oLen S[n]? fun k => Q (.int k) S
    cases e : S[n]? with
    | none => rw [e] at h; cases h
    | some o =>
      rw [e] at h
      cases o with
      | lst m => cases h; exact q
      | _ => cases h
  | _ => cases h
theorem vc_are_unlike {w : W} {xs : List Str} {S : Store} {D : MD} (h : seqW w S = some (xs.map W.str)) (few : xs.length ≤ 4000) (k : ∀ S', Ex S S' → D.rt (.bl (decide xs.Nodup)) S') : m_x_are_unlike D [some w] S := by
  unfold m_x_are_unlike
  simp only [mSeq, mIfS, mRet, mRetN, mAsg, mDrop, mTest, mBin, mChain, mTru, mAnd, mOr, mNot, mAndV, mOrV, mNotV, mIf, mVar, mC, mCons, mNil, mTup, mLst, mCB, mgName, mNext, mIt, mPar, mAug, lk, wLen_tup, wLe_int, wLt_int, wGt_int, wEq_int, wNe_int, wEq_str, wNe_str, wIx_tup, wAt0, wAt1, wAt2, wAt3, oW_s, tru_bl, List.set]
  refine ⟨xs, h, few, fun ys nd mem => ?_⟩
  refine len_seq h ?_
  rw [wEq_int, List.length_map]
  have := k S Ex.refl
  rw [← nodup_len nd mem] at this
  have e : decide ((ys.length : Int) = (xs.length : Int)) = decide (ys.length = xs.length) := by
    rw [decide_eq_decide]
    omega
  rw [e]
  exact this
theorem un_call {w : W} {xs : List Str} {S : Store} {Q : WK} (h : seqW w S = some (xs.map W.str)) (few : xs.length ≤ 4000) (q : ∀ S', Ex S S' → Q (.bl (decide xs.Nodup)) S') : conR UnlikeC [w] S Q :=
  ⟨xs, ⟨w, rfl, h, few⟩, fun w S' ⟨e, x⟩ => by rw [e]; exact q S' x⟩
end EvT

set_option Elab.async false
set_option linter.all false
set_option maxRecDepth 100000
set_option maxHeartbeats 1000000
namespace EvT
open PySem PySem.Spec PyProof.Rows L2 Ow Ev
def intB (x : W) : Bool := match x with
  | .int i => decide (-(10 ^ 18) ≤ i) && decide (i ≤ 10 ^ 18)
  | _ => false
/-- what a term's tuple must be, by its sort -/
def numB (l : List W) : Bool := match l with
  | [_, x] => intB x
  | _ => false
def askB (l : List W) : Bool := match l with
  | [_, x] => nameB x
  | _ => false
def funB (l : List W) : Bool := match l with
  | [_, x, _] => nameB x
  | _ => false
def twoB (l : List W) : Bool := match l with
  | [_, x, y] => nameB x && nameB y
  | _ => false
def putB (l : List W) : Bool := match l with
  | [_, x, _, _] => nameB x
  | _ => false
def worthB (x : W) : Bool := match x with
  | .tup (.str z :: _) => decide (z = "fun") || decide (z = "made")
  | _ => false
def pairB (x : W) : Bool := match x with
  | .tup [n, v] => nameB n && worthB v
  | _ => false
def fstS (x : W) : Str := match x with
  | .tup (.str z :: _) => z
  | _ => Str.empty
def letallB (l : List W) : Bool := match l with
  | [_, x, _] => tupB x 1 6 && match x with
    | .tup ps => ps.all pairB && decide ((ps.map fstS).Nodup)
    | _ => false
  | _ => false
def madeB (l : List W) : Bool := match l with
  | [_, x, y] => nameB x && namesB y
  | _ => false
def strS (x : W) : Str := match x with
  | .str z => z
  | _ => Str.empty
def unlikeB (x : W) : Bool := match x with
  | .tup l => decide ((l.map strS).Nodup)
  | _ => false
def branchB (x : W) : Bool := match x with
  | .tup [n, ns, _] => nameB n && (namesB ns && unlikeB ns)
  | _ => false
def byB (l : List W) : Bool := match l with
  | [_, x, y] => nameB x && (tupB y 1 6 && match y with
    | .tup bs => bs.all branchB && decide ((bs.map fstS).Nodup)
    | _ => false)
  | _ => false
abbrev TC (f : List W → Bool) : Con := Pur 1 (fun a => ∃ l, a = [.tup l]) fun a => match a with
  | [.tup l] => .bl (f l)
  | _ => .non
theorem dec_len {l : List W} {n : Nat} : decide ((l.length : Int) = (n : Int)) = decide (l.length = n) := by
  rw [decide_eq_decide]
  omega
section
variable {S : Store} {D : MD} {l : List W}
theorem vc_is_num (h : dat S (.tup l)) (k : ∀ S', Ex S S' → D.rt (.bl (numB l)) S') : m_x_is_num D [some (.tup l)] S := by
  unfold m_x_is_num
  simp only [mSeq, mIfS, mRet, mRetN, mAsg, mDrop, mTest, mBin, mChain, mTru, mAnd, mOr, mNot, mAndV, mOrV, mNotV, mIf, mVar, mC, mCons, mNil, mTup, mLst, mCB, mgName, mNext, mIt, mPar, mAug, lk, wLen_tup, wLe_int, wLt_int, wGt_int, wEq_int, wNe_int, wEq_str, wNe_str, wIx_tup, wAt0, wAt1, wAt2, wAt3, oW_s, tru_bl, List.set]
  have out : numB l = false → D.rt (.bl false) S := fun e => e ▸ k S Ex.refl
  refine ifNB (fun e => ?_) fun e => ?_
  · refine ifT (out ?_)
    have hn : ¬ l.length = 2 := fun z => by simp [z] at e
    unfold numB
    split
    · exact absurd rfl hn
    · rfl
  · have h2 : l.length = 2 := by
      have := of_decide_eq_true e
      omega
    obtain ⟨a, x, rfl⟩ := of_len2 h2
    simp only [mSeq, mIfS, mRet, mRetN, mAsg, mDrop, mTest, mBin, mChain, mTru, mAnd, mOr, mNot, mAndV, mOrV, mNotV, mIf, mVar, mC, mCons, mNil, mTup, mLst, mCB, mgName, mNext, mIt, mPar, mAug, lk, wLen_tup, wLe_int, wLt_int, wGt_int, wEq_int, wNe_int, wEq_str, wNe_str, wIx_tup, wAt0, wAt1, wAt2, wAt3, oW_s, tru_bl, List.set]
    have hx : dat S x := h.2.2.1
    refine isi_bl hx ?_
    simp only [mSeq, mIfS, mRet, mRetN, mAsg, mDrop, mTest, mBin, mChain, mTru, mAnd, mOr, mNot, mAndV, mOrV, mNotV, mIf, mVar, mC, mCons, mNil, mTup, mLst, mCB, mgName, mNext, mIt, mPar, mAug, lk, wLen_tup, wLe_int, wLt_int, wGt_int, wEq_int, wNe_int, wEq_str, wNe_str, wIx_tup, wAt0, wAt1, wAt2, wAt3, oW_s, tru_bl, List.set]
    cases hb : isBl x with
    | true =>
      refine iteT (ifT (out ?_))
      cases x <;> first | rfl | cases hb
    | false =>
      refine iteF ?_
      refine isi_int hx ?_
      simp only [mSeq, mIfS, mRet, mRetN, mAsg, mDrop, mTest, mBin, mChain, mTru, mAnd, mOr, mNot, mAndV, mOrV, mNotV, mIf, mVar, mC, mCons, mNil, mTup, mLst, mCB, mgName, mNext, mIt, mPar, mAug, lk, wLen_tup, wLe_int, wLt_int, wGt_int, wEq_int, wNe_int, wEq_str, wNe_str, wIx_tup, wAt0, wAt1, wAt2, wAt3, oW_s, tru_bl, List.set]
      refine ifNB (fun e3 => out ?_) fun e3 => ?_
      · cases x <;> first | rfl | cases e3
      cases x with
      | int i =>
        have := k S Ex.refl
        refine iteB (p := fun b => D.rt (.bl b) S) ?_
        exact this
      | bl b => cases hb
      | _ => cases e3
theorem vc_is_asking (h : dat S (.tup l)) (k : ∀ S', Ex S S' → D.rt (.bl (askB l)) S') : m_x_is_asking NameC D [some (.tup l)] S := by
  unfold m_x_is_asking
  simp only [mSeq, mIfS, mRet, mRetN, mAsg, mDrop, mTest, mBin, mChain, mTru, mAnd, mOr, mNot, mAndV, mOrV, mNotV, mIf, mVar, mC, mCons, mNil, mTup, mLst, mCB, mgName, mNext, mIt, mPar, mAug, lk, wLen_tup, wLe_int, wLt_int, wGt_int, wEq_int, wNe_int, wEq_str, wNe_str, wIx_tup, wAt0, wAt1, wAt2, wAt3, oW_s, tru_bl, List.set]
  refine ifB (fun e => ?_) fun e => ?_
  · obtain ⟨a, x, rfl⟩ := of_len2 (l := l) (by have := of_decide_eq_true e; omega)
    simp only [mSeq, mIfS, mRet, mRetN, mAsg, mDrop, mTest, mBin, mChain, mTru, mAnd, mOr, mNot, mAndV, mOrV, mNotV, mIf, mVar, mC, mCons, mNil, mTup, mLst, mCB, mgName, mNext, mIt, mPar, mAug, lk, wLen_tup, wLe_int, wLt_int, wGt_int, wEq_int, wNe_int, wEq_str, wNe_str, wIx_tup, wAt0, wAt1, wAt2, wAt3, oW_s, tru_bl, List.set]
    exact pur_name h.2.2.1 k
  · have e2 : askB l = false := by
      have := of_decide_eq_false e
      unfold askB
      split
      · exact absurd rfl this
      · rfl
    exact e2 ▸ k S Ex.refl
theorem vc_is_fun (h : dat S (.tup l)) (k : ∀ S', Ex S S' → D.rt (.bl (funB l)) S') : m_x_is_fun NameC D [some (.tup l)] S := by
  unfold m_x_is_fun
  simp only [mSeq, mIfS, mRet, mRetN, mAsg, mDrop, mTest, mBin, mChain, mTru, mAnd, mOr, mNot, mAndV, mOrV, mNotV, mIf, mVar, mC, mCons, mNil, mTup, mLst, mCB, mgName, mNext, mIt, mPar, mAug, lk, wLen_tup, wLe_int, wLt_int, wGt_int, wEq_int, wNe_int, wEq_str, wNe_str, wIx_tup, wAt0, wAt1, wAt2, wAt3, oW_s, tru_bl, List.set]
  refine ifB (fun e => ?_) fun e => ?_
  · obtain ⟨a, x, y, rfl⟩ := of_len3 (l := l) (by have := of_decide_eq_true e; omega)
    simp only [mSeq, mIfS, mRet, mRetN, mAsg, mDrop, mTest, mBin, mChain, mTru, mAnd, mOr, mNot, mAndV, mOrV, mNotV, mIf, mVar, mC, mCons, mNil, mTup, mLst, mCB, mgName, mNext, mIt, mPar, mAug, lk, wLen_tup, wLe_int, wLt_int, wGt_int, wEq_int, wNe_int, wEq_str, wNe_str, wIx_tup, wAt0, wAt1, wAt2, wAt3, oW_s, tru_bl, List.set]
    exact pur_name h.2.2.1 k
  · have e2 : funB l = false := by
      have := of_decide_eq_false e
      unfold funB
      split
      · exact absurd rfl this
      · rfl
    exact e2 ▸ k S Ex.refl
theorem vc_is_two (h : dat S (.tup l)) (k : ∀ S', Ex S S' → D.rt (.bl (twoB l)) S') : m_x_is_of_two_names NameC D [some (.tup l)] S := by
  unfold m_x_is_of_two_names
  simp only [mSeq, mIfS, mRet, mRetN, mAsg, mDrop, mTest, mBin, mChain, mTru, mAnd, mOr, mNot, mAndV, mOrV, mNotV, mIf, mVar, mC, mCons, mNil, mTup, mLst, mCB, mgName, mNext, mIt, mPar, mAug, lk, wLen_tup, wLe_int, wLt_int, wGt_int, wEq_int, wNe_int, wEq_str, wNe_str, wIx_tup, wAt0, wAt1, wAt2, wAt3, oW_s, tru_bl, List.set]
  refine ifB (fun e => ?_) fun e => ?_
  · obtain ⟨a, x, y, rfl⟩ := of_len3 (l := l) (by have := of_decide_eq_true e; omega)
    simp only [mSeq, mIfS, mRet, mRetN, mAsg, mDrop, mTest, mBin, mChain, mTru, mAnd, mOr, mNot, mAndV, mOrV, mNotV, mIf, mVar, mC, mCons, mNil, mTup, mLst, mCB, mgName, mNext, mIt, mPar, mAug, lk, wLen_tup, wLe_int, wLt_int, wGt_int, wEq_int, wNe_int, wEq_str, wNe_str, wIx_tup, wAt0, wAt1, wAt2, wAt3, oW_s, tru_bl, List.set]
    refine pur_name h.2.2.1 fun S1 h1 => ?_
    refine ifB (fun e1 => ?_) fun e1 => ?_
    · refine pur_name (h.2.2.2.1.ex h1) fun S2 h2 => ?_
      have := k S2 (h1.trans h2)
      have e2 : twoB [a, x, y] = nameB y := by
        show (nameB x && nameB y) = _
        rw [e1, Bool.true_and]
      exact e2 ▸ this
    · have e2 : twoB [a, x, y] = false := by
        show (nameB x && nameB y) = _
        rw [e1, Bool.false_and]
      exact e2 ▸ k S1 h1
  · have e2 : twoB l = false := by
      have := of_decide_eq_false e
      unfold twoB
      split
      · exact absurd rfl this
      · rfl
    exact e2 ▸ k S Ex.refl
theorem vc_is_put (h : dat S (.tup l)) (k : ∀ S', Ex S S' → D.rt (.bl (putB l)) S') : m_x_is_put_by NameC D [some (.tup l)] S := by
  unfold m_x_is_put_by
  simp only [mSeq, mIfS, mRet, mRetN, mAsg, mDrop, mTest, mBin, mChain, mTru, mAnd, mOr, mNot, mAndV, mOrV, mNotV, mIf, mVar, mC, mCons, mNil, mTup, mLst, mCB, mgName, mNext, mIt, mPar, mAug, lk, wLen_tup, wLe_int, wLt_int, wGt_int, wEq_int, wNe_int, wEq_str, wNe_str, wIx_tup, wAt0, wAt1, wAt2, wAt3, oW_s, tru_bl, List.set]
  refine ifB (fun e => ?_) fun e => ?_
  · obtain ⟨a, x, y, z, rfl⟩ := of_len4 (l := l) (by have := of_decide_eq_true e; omega)
    simp only [mSeq, mIfS, mRet, mRetN, mAsg, mDrop, mTest, mBin, mChain, mTru, mAnd, mOr, mNot, mAndV, mOrV, mNotV, mIf, mVar, mC, mCons, mNil, mTup, mLst, mCB, mgName, mNext, mIt, mPar, mAug, lk, wLen_tup, wLe_int, wLt_int, wGt_int, wEq_int, wNe_int, wEq_str, wNe_str, wIx_tup, wAt0, wAt1, wAt2, wAt3, oW_s, tru_bl, List.set]
    exact pur_name h.2.2.1 k
  · have e2 : putB l = false := by
      have := of_decide_eq_false e
      unfold putB
      split
      · exact absurd rfl this
      · rfl
    exact e2 ▸ k S Ex.refl
theorem vc_is_made (h : dat S (.tup l)) (k : ∀ S', Ex S S' → D.rt (.bl (madeB l)) S') : m_x_is_made NameC NamesC D [some (.tup l)] S := by
  unfold m_x_is_made
  simp only [mSeq, mIfS, mRet, mRetN, mAsg, mDrop, mTest, mBin, mChain, mTru, mAnd, mOr, mNot, mAndV, mOrV, mNotV, mIf, mVar, mC, mCons, mNil, mTup, mLst, mCB, mgName, mNext, mIt, mPar, mAug, lk, wLen_tup, wLe_int, wLt_int, wGt_int, wEq_int, wNe_int, wEq_str, wNe_str, wIx_tup, wAt0, wAt1, wAt2, wAt3, oW_s, tru_bl, List.set]
  refine ifB (fun e => ?_) fun e => ?_
  · obtain ⟨a, x, y, rfl⟩ := of_len3 (l := l) (by have := of_decide_eq_true e; omega)
    simp only [mSeq, mIfS, mRet, mRetN, mAsg, mDrop, mTest, mBin, mChain, mTru, mAnd, mOr, mNot, mAndV, mOrV, mNotV, mIf, mVar, mC, mCons, mNil, mTup, mLst, mCB, mgName, mNext, mIt, mPar, mAug, lk, wLen_tup, wLe_int, wLt_int, wGt_int, wEq_int, wNe_int, wEq_str, wNe_str, wIx_tup, wAt0, wAt1, wAt2, wAt3, oW_s, tru_bl, List.set]
    refine pur_name h.2.2.1 fun S1 h1 => ?_
    refine ifB (fun e1 => ?_) fun e1 => ?_
    · refine pur_names (h.2.2.2.1.ex h1) fun S2 h2 => ?_
      have := k S2 (h1.trans h2)
      have e2 : madeB [a, x, y] = namesB y := by
        show (nameB x && namesB y) = _
        rw [e1, Bool.true_and]
      exact e2 ▸ this
    · have e2 : madeB [a, x, y] = false := by
        show (nameB x && namesB y) = _
        rw [e1, Bool.false_and]
      exact e2 ▸ k S1 h1
  · have e2 : madeB l = false := by
      have := of_decide_eq_false e
      unfold madeB
      split
      · exact absurd rfl this
      · rfl
    exact e2 ▸ k S Ex.refl
end
end EvT

set_option Elab.async false
set_option linter.all false
set_option maxRecDepth 100000
set_option maxHeartbeats 1000000
namespace EvT
open PySem PySem.Spec PyProof.Rows L2 Ow Ev
theorem in_strs (k : Str) : ∀ xs : List Str, inV (.str k) (xs.map V.str) = decide (k ∈ xs)
  | [] => rfl
  | x :: xs => by
    have ih := in_strs k xs
    unfold inV at ih ⊢
    rw [List.map_cons, List.any_cons, ih]
    show (x == k || _) = _
    by_cases h : x = k
    · subst h
      simp
    · have h2 : ¬ k = x := fun z => h z.symm
      simp [h, h2]
theorem flats (xs : List Str) : (xs.map W.str).all flatW = true := by
  induction xs with
  | nil => rfl
  | cons x xs ih => rw [List.map_cons, List.all_cons, ih]; rfl
theorem toVs (xs : List Str) : (xs.map W.str).map toV = xs.map V.str := by
  rw [List.map_map]
  rfl
theorem wIn_strs {neg : Bool} {z : Str} {xs : List Str} {S : Store} {Q : WK} (q : Q (.bl (neg ^^ decide (z ∈ xs))) S) : wInN neg (.str z) (.tup (xs.map W.str)) S Q := by
  refine ⟨⟨rfl, flats xs⟩, ?_⟩
  rw [toVs]
  show Q (.bl (neg ^^ inV (.str z) (xs.map V.str))) S
  rw [in_strs]
  exact q
theorem wIn_strsL {neg : Bool} {z : Str} {xs : List Str} {n : Nat} {S : Store} {Q : WK} (h : S[n]? = some (.lst (xs.map W.str))) (q : Q (.bl (neg ^^ decide (z ∈ xs))) S) : wInN neg (.str z) (.ref n) S Q := by
  show oIn (.str z) S[n]? fun b => Q (.bl (neg ^^ b)) S
  rw [h]
  refine ⟨⟨rfl, flats xs⟩, ?_⟩
  rw [toVs]
  show Q (.bl (neg ^^ inV (.str z) (xs.map V.str))) S
  rw [in_strs]
  exact q
theorem wIn_str2 {z x y : Str} {S : Store} {Q : WK} (q : Q (.bl (decide (z = x) || decide (z = y))) S) : wIn (.str z) (.tup [.str x, .str y]) S Q := by
  refine wIn_strs (xs := [x, y]) ?_
  have e : decide (z ∈ [x, y]) = (decide (z = x) || decide (z = y)) := by
    rw [← Bool.decide_or]
    rw [decide_eq_decide]
    simp
  rw [Bool.false_xor, e]
  exact q
theorem strs_of : ∀ {m : List W}, m.all nameB = true → m = (m.map strS).map W.str
  | [], _ => rfl
  | w :: m, h => by
    rw [List.all_cons, Bool.and_eq_true] at h
    rw [List.map_cons, List.map_cons, ← strs_of h.2]
    cases w with
    | str z => rfl
    | _ => cases h.1
section
variable {S : Store} {D : MD} {l : List W} {x : W}
theorem tup22 {x : W} (h : tupB x 2 2 = true) : ∃ a b, x = .tup [a, b] := by
  cases x with
  | tup l =>
    have h : (decide ((2 : Int) ≤ l.length) && decide ((l.length : Int) ≤ 2)) = true := h
    rw [Bool.and_eq_true] at h
    obtain ⟨a, b, rfl⟩ := of_len2 (l := l) (by have := of_decide_eq_true h.1; have := of_decide_eq_true h.2; omega)
    exact ⟨a, b, rfl⟩
  | _ => cases h
theorem tup33 {x : W} (h : tupB x 3 3 = true) : ∃ a b c, x = .tup [a, b, c] := by
  cases x with
  | tup l =>
    have h : (decide ((3 : Int) ≤ l.length) && decide ((l.length : Int) ≤ 3)) = true := h
    rw [Bool.and_eq_true] at h
    obtain ⟨a, b, c, rfl⟩ := of_len3 (l := l) (by have := of_decide_eq_true h.1; have := of_decide_eq_true h.2; omega)
    exact ⟨a, b, c, rfl⟩
  | _ => cases h
theorem vc_is_pair (h : dat S x) (k : ∀ S', Ex S S' → D.rt (.bl (pairB x)) S') : m_x_is_pair TupC NameC D [some x, none] S := by
  unfold m_x_is_pair
  simp only [mSeq, mIfS, mRet, mRetN, mAsg, mDrop, mTest, mBin, mChain, mTru, mAnd, mOr, mNot, mAndV, mOrV, mNotV, mIf, mVar, mC, mCons, mNil, mTup, mLst, mCB, mgName, mNext, mIt, mPar, mAug, lk, wLen_tup, wLe_int, wLt_int, wGt_int, wEq_int, wNe_int, wEq_str, wNe_str, wIx_tup, wAt0, wAt1, wAt2, wAt3, oW_s, tru_bl, List.set]
  have out : ∀ {S1 : Store}, Ex S S1 → pairB x = false → D.rt (.bl false) S1 := fun h e => e ▸ k _ h
  refine pur_tup h fun S1 h1 => ?_
  simp only [mSeq, mIfS, mRet, mRetN, mAsg, mDrop, mTest, mBin, mChain, mTru, mAnd, mOr, mNot, mAndV, mOrV, mNotV, mIf, mVar, mC, mCons, mNil, mTup, mLst, mCB, mgName, mNext, mIt, mPar, mAug, lk, wLen_tup, wLe_int, wLt_int, wGt_int, wEq_int, wNe_int, wEq_str, wNe_str, wIx_tup, wAt0, wAt1, wAt2, wAt3, oW_s, tru_bl, List.set]
  refine ifNB (fun e => ?_) fun e => ?_
  · refine ifT (out h1 ?_)
    unfold pairB
    split
    · cases e
    · rfl
  · obtain ⟨a, b, rfl⟩ := tup22 e
    simp only [mSeq, mIfS, mRet, mRetN, mAsg, mDrop, mTest, mBin, mChain, mTru, mAnd, mOr, mNot, mAndV, mOrV, mNotV, mIf, mVar, mC, mCons, mNil, mTup, mLst, mCB, mgName, mNext, mIt, mPar, mAug, lk, wLen_tup, wLe_int, wLt_int, wGt_int, wEq_int, wNe_int, wEq_str, wNe_str, wIx_tup, wAt0, wAt1, wAt2, wAt3, oW_s, tru_bl, List.set]
    refine pur_name (h.2.1.ex h1) fun S2 h2 => ?_
    have h12 := h1.trans h2
    simp only [mSeq, mIfS, mRet, mRetN, mAsg, mDrop, mTest, mBin, mChain, mTru, mAnd, mOr, mNot, mAndV, mOrV, mNotV, mIf, mVar, mC, mCons, mNil, mTup, mLst, mCB, mgName, mNext, mIt, mPar, mAug, lk, wLen_tup, wLe_int, wLt_int, wGt_int, wEq_int, wNe_int, wEq_str, wNe_str, wIx_tup, wAt0, wAt1, wAt2, wAt3, oW_s, tru_bl, List.set]
    refine ifNB (fun e1 => out h12 ?_) fun e1 => ?_
    · show (nameB a && worthB b) = false
      rw [e1, Bool.false_and]
    have ew : pairB (.tup [a, b]) = worthB b := by
      show (nameB a && worthB b) = _
      rw [e1, Bool.true_and]
    have hb : dat S2 b := h.2.2.1.ex h12
    refine isi_tup hb ?_
    simp only [mSeq, mIfS, mRet, mRetN, mAsg, mDrop, mTest, mBin, mChain, mTru, mAnd, mOr, mNot, mAndV, mOrV, mNotV, mIf, mVar, mC, mCons, mNil, mTup, mLst, mCB, mgName, mNext, mIt, mPar, mAug, lk, wLen_tup, wLe_int, wLt_int, wGt_int, wEq_int, wNe_int, wEq_str, wNe_str, wIx_tup, wAt0, wAt1, wAt2, wAt3, oW_s, tru_bl, List.set]
    refine ifNB (fun e2 => ?_) fun e2 => ?_
    · refine ifT (out h12 ?_)
      rw [ew]
      cases b <;> first | rfl | cases e2
    obtain ⟨m, rfl⟩ := isTup_tup e2
    simp only [mSeq, mIfS, mRet, mRetN, mAsg, mDrop, mTest, mBin, mChain, mTru, mAnd, mOr, mNot, mAndV, mOrV, mNotV, mIf, mVar, mC, mCons, mNil, mTup, mLst, mCB, mgName, mNext, mIt, mPar, mAug, lk, wLen_tup, wLe_int, wLt_int, wGt_int, wEq_int, wNe_int, wEq_str, wNe_str, wIx_tup, wAt0, wAt1, wAt2, wAt3, oW_s, tru_bl, List.set]
    cases m with
    | nil => exact iteT (ifT (out h12 (by rw [ew]; rfl)))
    | cons z r =>
      refine ifB (fun e3 => ?_) fun _ => ?_
      · have := of_decide_eq_true e3
        rw [List.length_cons] at this
        omega
      simp only [mSeq, mIfS, mRet, mRetN, mAsg, mDrop, mTest, mBin, mChain, mTru, mAnd, mOr, mNot, mAndV, mOrV, mNotV, mIf, mVar, mC, mCons, mNil, mTup, mLst, mCB, mgName, mNext, mIt, mPar, mAug, lk, wLen_tup, wLe_int, wLt_int, wGt_int, wEq_int, wNe_int, wEq_str, wNe_str, wIx_tup, wAt0, wAt1, wAt2, wAt3, oW_s, tru_bl, List.set]
      refine isi_str hb.2.1 ?_
      simp only [mSeq, mIfS, mRet, mRetN, mAsg, mDrop, mTest, mBin, mChain, mTru, mAnd, mOr, mNot, mAndV, mOrV, mNotV, mIf, mVar, mC, mCons, mNil, mTup, mLst, mCB, mgName, mNext, mIt, mPar, mAug, lk, wLen_tup, wLe_int, wLt_int, wGt_int, wEq_int, wNe_int, wEq_str, wNe_str, wIx_tup, wAt0, wAt1, wAt2, wAt3, oW_s, tru_bl, List.set]
      refine ifNB (fun e4 => out h12 ?_) fun e4 => ?_
      · rw [ew]
        cases z <;> first | rfl | cases e4
      obtain ⟨y, rfl⟩ := isStr_str e4
      refine ⟨by show 2 ≤ sizeLine; decide, wIn_str2 ?_⟩
      have := k S2 h12
      rw [ew] at this
      exact this
theorem vc_is_branch (h : dat S x) (k : ∀ S', Ex S S' → D.rt (.bl (branchB x)) S') : m_x_is_branch TupC NameC NamesC UnlikeC D [some x] S := by
  unfold m_x_is_branch
  simp only [mSeq, mIfS, mRet, mRetN, mAsg, mDrop, mTest, mBin, mChain, mTru, mAnd, mOr, mNot, mAndV, mOrV, mNotV, mIf, mVar, mC, mCons, mNil, mTup, mLst, mCB, mgName, mNext, mIt, mPar, mAug, lk, wLen_tup, wLe_int, wLt_int, wGt_int, wEq_int, wNe_int, wEq_str, wNe_str, wIx_tup, wAt0, wAt1, wAt2, wAt3, oW_s, tru_bl, List.set]
  have out : ∀ {S1 : Store}, Ex S S1 → branchB x = false → D.rt (.bl false) S1 := fun h e => e ▸ k _ h
  refine pur_tup h fun S1 h1 => ?_
  simp only [mSeq, mIfS, mRet, mRetN, mAsg, mDrop, mTest, mBin, mChain, mTru, mAnd, mOr, mNot, mAndV, mOrV, mNotV, mIf, mVar, mC, mCons, mNil, mTup, mLst, mCB, mgName, mNext, mIt, mPar, mAug, lk, wLen_tup, wLe_int, wLt_int, wGt_int, wEq_int, wNe_int, wEq_str, wNe_str, wIx_tup, wAt0, wAt1, wAt2, wAt3, oW_s, tru_bl, List.set]
  refine ifNB (fun e => ?_) fun e => ?_
  · refine ifT (out h1 ?_)
    unfold branchB
    split
    · cases e
    · rfl
  · obtain ⟨a, b, c, rfl⟩ := tup33 e
    simp only [mSeq, mIfS, mRet, mRetN, mAsg, mDrop, mTest, mBin, mChain, mTru, mAnd, mOr, mNot, mAndV, mOrV, mNotV, mIf, mVar, mC, mCons, mNil, mTup, mLst, mCB, mgName, mNext, mIt, mPar, mAug, lk, wLen_tup, wLe_int, wLt_int, wGt_int, wEq_int, wNe_int, wEq_str, wNe_str, wIx_tup, wAt0, wAt1, wAt2, wAt3, oW_s, tru_bl, List.set]
    refine pur_name (h.2.1.ex h1) fun S2 h2 => ?_
    have h12 := h1.trans h2
    simp only [mSeq, mIfS, mRet, mRetN, mAsg, mDrop, mTest, mBin, mChain, mTru, mAnd, mOr, mNot, mAndV, mOrV, mNotV, mIf, mVar, mC, mCons, mNil, mTup, mLst, mCB, mgName, mNext, mIt, mPar, mAug, lk, wLen_tup, wLe_int, wLt_int, wGt_int, wEq_int, wNe_int, wEq_str, wNe_str, wIx_tup, wAt0, wAt1, wAt2, wAt3, oW_s, tru_bl, List.set]
    refine ifNB (fun e1 => out h12 ?_) fun e1 => ?_
    · show (nameB a && (namesB b && unlikeB b)) = false
      rw [e1, Bool.false_and]
    have ew : branchB (.tup [a, b, c]) = (namesB b && unlikeB b) := by
      show (nameB a && (namesB b && unlikeB b)) = _
      rw [e1, Bool.true_and]
    have hb : dat S b := h.2.2.1
    refine pur_names (hb.ex h12) fun S3 h3 => ?_
    have h13 := h12.trans h3
    refine ifB (fun e2 => ?_) fun e2 => ?_
    · cases b with
      | tup m =>
        have hm : m.all nameB = true := by
          have : (tupB (.tup m) 0 3 && m.all nameB) = true := e2
          rw [Bool.and_eq_true] at this
          exact this.2
        have hl : m.length ≤ 3 := by
          have : (tupB (.tup m) 0 3 && m.all nameB) = true := e2
          rw [Bool.and_eq_true] at this
          have h3 : (decide ((0 : Int) ≤ m.length) && decide ((m.length : Int) ≤ 3)) = true := this.1
          rw [Bool.and_eq_true] at h3
          have := of_decide_eq_true h3.2
          omega
        refine un_call (xs := m.map strS) (by rw [← strs_of hm]; rfl) (by rw [List.length_map]; omega) fun S4 h4 => ?_
        have := k S4 (h13.trans h4)
        rw [ew, e2, Bool.true_and] at this
        exact this
      | _ => cases e2
    · have := k S3 h13
      rw [ew, e2, Bool.false_and] at this
      exact this
theorem filter_true {α : Type} : ∀ l : List α, l.filter (fun _ => true) = l
  | [] => rfl
  | a :: l => by rw [List.filter_cons_of_pos rfl, filter_true l]
/-- [p[0] for p in ps] of tuples that begin with texts -/
theorem firsts_ok {ps : List W} {m : ME} {i : Nat} {env : EvS} {Q : WK} {h0 : ∀ w : W, lk ((wpE env [i]).set i (some w)) i = some w} (hm : ∀ (S1 : Store) (R : (Store → Prop) → List W → Store → Prop), R (fun _ => True) ps S1 → mIt m env S1 R) (hl : ps.length ≤ sizeLine) (hp : ∀ p ∈ ps, ∃ z r, p = .tup (.str z :: r))
    (q : ∀ S', Ex S S' → S'[S.length]? = some (.lst ((ps.map fstS).map W.str)) → Q (.ref S.length) S') : mLc (mIt m) (mgName i) mYes (mBin wIx (mVar i) (mC (.int 0))) [i] env S Q := by
  refine hm S _ ?_
  refine lcL_ex (S0 := S) (fun _ => true) (fun w => .str (fstS w)) (fun w => (wpE env [i]).set i (some w)) (fun _ _ => trivial) ps [] (by simpa using hl) (fun w _ S2 R r => r) (fun w _ S2 k _ z => z S2 Ex.refl) (fun w hw _ S2 k _ z => ?_) (fun S2 h2 => ?_) _ Ex.refl
  · obtain ⟨y, r, rfl⟩ := hp w hw
    show mVar i _ S2 _
    unfold mVar
    rw [h0]
    exact z S2 Ex.refl
  · rw [filter_true] at h2
    obtain ⟨a, b⟩ := h2.new
    refine q S2 a ?_
    rw [b, List.nil_append, List.map_map]
    rfl
theorem pair_str {p : W} (h : pairB p = true) : ∃ z r, p = .tup (.str z :: r) := by
  unfold pairB at h
  split at h
  · rename_i n v
    rw [Bool.and_eq_true] at h
    cases n with
    | str z => exact ⟨z, [v], rfl⟩
    | _ => cases h.1
  · cases h
theorem branch_str {p : W} (h : branchB p = true) : ∃ z r, p = .tup (.str z :: r) := by
  unfold branchB at h
  split at h
  · rename_i n v u
    rw [Bool.and_eq_true] at h
    cases n with
    | str z => exact ⟨z, [v, u], rfl⟩
    | _ => cases h.1
  · cases h
theorem tup16 {x : W} (h : tupB x 1 6 = true) : ∃ m, x = .tup m ∧ m.length ≤ 6 := by
  cases x with
  | tup l =>
    have h : (decide ((1 : Int) ≤ l.length) && decide ((l.length : Int) ≤ 6)) = true := h
    rw [Bool.and_eq_true] at h
    exact ⟨l, rfl, by have := of_decide_eq_true h.2; omega⟩
  | _ => cases h
abbrev PairC : Con := Pur 1 (fun _ => True) fun a => match a with
  | [x] => .bl (pairB x)
  | _ => .non
abbrev BranchC : Con := Pur 1 (fun _ => True) fun a => match a with
  | [x] => .bl (branchB x)
  | _ => .non
theorem pur_pair {x : W} {S : Store} {Q : WK} (h : dat S x) (q : ∀ S', Ex S S' → Q (.bl (pairB x)) S') : conR PairC [x] S Q := pur_call rfl trivial ⟨h, trivial⟩ q
theorem pur_branch {x : W} {S : Store} {Q : WK} (h : dat S x) (q : ∀ S', Ex S S' → Q (.bl (branchB x)) S') : conR BranchC [x] S Q := pur_call rfl trivial ⟨h, trivial⟩ q
theorem vc_is_letall (h : dat S (.tup l)) (k : ∀ S', Ex S S' → D.rt (.bl (letallB l)) S') : m_x_is_letall TupC PairC UnlikeC D [some (.tup l), none] S := by
  unfold m_x_is_letall
  simp only [mSeq, mIfS, mRet, mRetN, mAsg, mDrop, mTest, mBin, mChain, mTru, mAnd, mOr, mNot, mAndV, mOrV, mNotV, mIf, mVar, mC, mCons, mNil, mTup, mLst, mCB, mgName, mNext, mIt, mPar, mAug, lk, wLen_tup, wLe_int, wLt_int, wGt_int, wEq_int, wNe_int, wEq_str, wNe_str, wIx_tup, wAt0, wAt1, wAt2, wAt3, oW_s, tru_bl, List.set]
  have out : ∀ {S1 : Store}, Ex S S1 → letallB l = false → D.rt (.bl false) S1 := fun h e => e ▸ k _ h
  refine ifNB (fun e => ?_) fun e => ?_
  · refine ifT (out Ex.refl ?_)
    have hn : ¬ l.length = 3 := fun z => by simp [z] at e
    unfold letallB
    split
    · exact absurd rfl hn
    · rfl
  · obtain ⟨a, x, y, rfl⟩ := of_len3 (l := l) (by have := of_decide_eq_true e; omega)
    simp only [mSeq, mIfS, mRet, mRetN, mAsg, mDrop, mTest, mBin, mChain, mTru, mAnd, mOr, mNot, mAndV, mOrV, mNotV, mIf, mVar, mC, mCons, mNil, mTup, mLst, mCB, mgName, mNext, mIt, mPar, mAug, lk, wLen_tup, wLe_int, wLt_int, wGt_int, wEq_int, wNe_int, wEq_str, wNe_str, wIx_tup, wAt0, wAt1, wAt2, wAt3, oW_s, tru_bl, List.set]
    have hx : dat S x := h.2.2.1
    refine pur_tup hx fun S1 h1 => ?_
    simp only [mSeq, mIfS, mRet, mRetN, mAsg, mDrop, mTest, mBin, mChain, mTru, mAnd, mOr, mNot, mAndV, mOrV, mNotV, mIf, mVar, mC, mCons, mNil, mTup, mLst, mCB, mgName, mNext, mIt, mPar, mAug, lk, wLen_tup, wLe_int, wLt_int, wGt_int, wEq_int, wNe_int, wEq_str, wNe_str, wIx_tup, wAt0, wAt1, wAt2, wAt3, oW_s, tru_bl, List.set]
    refine ifNB (fun e1 => out h1 ?_) fun e1 => ?_
    · unfold letallB
      dsimp only
      rw [e1, Bool.false_and]
    obtain ⟨ps, rfl, hl⟩ := tup16 e1
    have ew : letallB [a, .tup ps, y] = (ps.all pairB && decide ((ps.map fstS).Nodup)) := by
      unfold letallB
      dsimp only
      rw [e1, Bool.true_and]
    refine allL_ex (S0 := S1) pairB (fun w => [some (.tup [a, .tup ps, y]), some w]) (fun _ _ => trivial) ps (fun w _ S2 R r => r) (fun w hw S2 k2 hx2 q => pur_pair ((hx.2.mem hw).ex (h1.trans hx2)) q) (fun S2 h2 => ?_) S1 Ex.refl
    have h12 := h1.trans h2
    refine ifB (fun e2 => ?_) fun e2 => ?_
    · have e2' : ps.all pairB = true := e2
      refine firsts_ok (ps := ps) (h0 := fun _ => rfl) (fun S3 R r => r) (Nat.le_trans hl (by decide)) (fun p hp => pair_str (List.all_eq_true.mp e2' p hp)) fun S3 h3 at3 => ?_
      refine un_call (xs := ps.map fstS) ?_ (by rw [List.length_map]; omega) fun S4 h4 => ?_
      · show (match S3[S2.length]? with
          | some (.lst l) => some l
          | _ => none) = _
        rw [at3]
      · have := k S4 ((h12.trans h3).trans h4)
        rw [ew, e2', Bool.true_and] at this
        exact this
    · have e2' : ps.all pairB = false := e2
      have := k S2 h12
      rw [ew, e2', Bool.false_and] at this
      exact this
theorem vc_is_by (h : dat S (.tup l)) (k : ∀ S', Ex S S' → D.rt (.bl (byB l)) S') : m_x_is_by NameC TupC BranchC UnlikeC D [some (.tup l), none] S := by
  unfold m_x_is_by
  simp only [mSeq, mIfS, mRet, mRetN, mAsg, mDrop, mTest, mBin, mChain, mTru, mAnd, mOr, mNot, mAndV, mOrV, mNotV, mIf, mVar, mC, mCons, mNil, mTup, mLst, mCB, mgName, mNext, mIt, mPar, mAug, lk, wLen_tup, wLe_int, wLt_int, wGt_int, wEq_int, wNe_int, wEq_str, wNe_str, wIx_tup, wAt0, wAt1, wAt2, wAt3, oW_s, tru_bl, List.set]
  have out : ∀ {S1 : Store}, Ex S S1 → byB l = false → D.rt (.bl false) S1 := fun h e => e ▸ k _ h
  refine ifNB (fun e => ?_) fun e => ?_
  · refine ifT (out Ex.refl ?_)
    have hn : ¬ l.length = 3 := fun z => by simp [z] at e
    unfold byB
    split
    · exact absurd rfl hn
    · rfl
  · obtain ⟨a, n, x, rfl⟩ := of_len3 (l := l) (by have := of_decide_eq_true e; omega)
    simp only [mSeq, mIfS, mRet, mRetN, mAsg, mDrop, mTest, mBin, mChain, mTru, mAnd, mOr, mNot, mAndV, mOrV, mNotV, mIf, mVar, mC, mCons, mNil, mTup, mLst, mCB, mgName, mNext, mIt, mPar, mAug, lk, wLen_tup, wLe_int, wLt_int, wGt_int, wEq_int, wNe_int, wEq_str, wNe_str, wIx_tup, wAt0, wAt1, wAt2, wAt3, oW_s, tru_bl, List.set]
    have hx : dat S x := h.2.2.2.1
    refine pur_name h.2.2.1 fun S0 h0 => ?_
    simp only [mSeq, mIfS, mRet, mRetN, mAsg, mDrop, mTest, mBin, mChain, mTru, mAnd, mOr, mNot, mAndV, mOrV, mNotV, mIf, mVar, mC, mCons, mNil, mTup, mLst, mCB, mgName, mNext, mIt, mPar, mAug, lk, wLen_tup, wLe_int, wLt_int, wGt_int, wEq_int, wNe_int, wEq_str, wNe_str, wIx_tup, wAt0, wAt1, wAt2, wAt3, oW_s, tru_bl, List.set]
    refine ifNB (fun e0 => ?_) fun e0 => ?_
    · refine ifT (out h0 ?_)
      unfold byB
      dsimp only
      rw [e0, Bool.false_and]
    refine pur_tup (hx.ex h0) fun S1 h1' => ?_
    have h1 := h0.trans h1'
    simp only [mSeq, mIfS, mRet, mRetN, mAsg, mDrop, mTest, mBin, mChain, mTru, mAnd, mOr, mNot, mAndV, mOrV, mNotV, mIf, mVar, mC, mCons, mNil, mTup, mLst, mCB, mgName, mNext, mIt, mPar, mAug, lk, wLen_tup, wLe_int, wLt_int, wGt_int, wEq_int, wNe_int, wEq_str, wNe_str, wIx_tup, wAt0, wAt1, wAt2, wAt3, oW_s, tru_bl, List.set]
    refine ifNB (fun e1 => out h1 ?_) fun e1 => ?_
    · unfold byB
      dsimp only
      rw [e0, e1, Bool.false_and, Bool.and_false]
    obtain ⟨ps, rfl, hl⟩ := tup16 e1
    have ew : byB [a, n, .tup ps] = (ps.all branchB && decide ((ps.map fstS).Nodup)) := by
      unfold byB
      dsimp only
      rw [e0, e1, Bool.true_and, Bool.true_and]
    refine allL_ex (S0 := S1) branchB (fun w => [some (.tup [a, n, .tup ps]), some w]) (fun _ _ => trivial) ps (fun w _ S2 R r => r) (fun w hw S2 k2 hx2 q => pur_branch ((hx.2.mem hw).ex (h1.trans hx2)) q) (fun S2 h2 => ?_) S1 Ex.refl
    have h12 := h1.trans h2
    refine ifB (fun e2 => ?_) fun e2 => ?_
    · have e2' : ps.all branchB = true := e2
      refine firsts_ok (ps := ps) (h0 := fun _ => rfl) (fun S3 R r => r) (Nat.le_trans hl (by decide)) (fun p hp => branch_str (List.all_eq_true.mp e2' p hp)) fun S3 h3 at3 => ?_
      refine un_call (xs := ps.map fstS) ?_ (by rw [List.length_map]; omega) fun S4 h4 => ?_
      · show (match S3[S2.length]? with
          | some (.lst l) => some l
          | _ => none) = _
        rw [at3]
      · have := k S4 ((h12.trans h3).trans h4)
        rw [ew, e2', Bool.true_and] at this
        exact this
    · have e2' : ps.all branchB = false := e2
      have := k S2 h12
      rw [ew, e2', Bool.false_and] at this
      exact this
end
end EvT

set_option Elab.async false
set_option linter.all false
set_option maxRecDepth 100000
set_option maxHeartbeats 1000000
namespace EvT
open PySem PySem.Spec PyProof.Rows L2 Ow Ev
/-- by the word: what the tuple must be -/
def kindOf (z : Str) : Option (List W → Bool) :=
  if z = "num" then some numB else if z = "name" then some askB else if z = "fun" then some funB else if z = "call" then some twoB else if z = "let" then some putB else if z = "now" then some putB
  else if z = "letall" then some letallB else if z = "made" then some madeB else if z = "by" then some byB else if z = "sum" then some twoB else if z = "minus" then some twoB else if z = "less" then some twoB else if z = "same" then some twoB else none
def shapedB (x : W) : Bool := match x with
  | .tup (.str z :: r) => match kindOf z with
    | some g => g (.str z :: r)
    | none => false
  | _ => false
section
variable {S : Store} {D : MD} {l : List W} {x : W} {T : Str → Option Addr} {CA : Addr → Option Con}
theorem vc_is_shaped (hT : ∀ z, (T z).isSome = (kindOf z).isSome) (hC : ∀ z a g, T z = some a → kindOf z = some g → CA a = some (TC g)) (h : dat S x) (k : ∀ S', Ex S S' → D.rt (.bl (shapedB x)) S') : m_x_is_shaped T CA D [some x, none] S := by
  unfold m_x_is_shaped
  simp only [mSeq, mIfS, mRet, mRetN, mAsg, mDrop, mTest, mBin, mChain, mTru, mAnd, mOr, mNot, mAndV, mOrV, mNotV, mIf, mVar, mC, mCons, mNil, mTup, mLst, mCB, mgName, mNext, mIt, mPar, mAug, lk, wLen_tup, wLe_int, wLt_int, wGt_int, wEq_int, wNe_int, wEq_str, wNe_str, wIx_tup, wAt0, wAt1, wAt2, wAt3, oW_s, tru_bl, List.set]
  have out : shapedB x = false → D.rt (.bl false) S := fun e => e ▸ k S Ex.refl
  refine isi_tup h ?_
  simp only [mSeq, mIfS, mRet, mRetN, mAsg, mDrop, mTest, mBin, mChain, mTru, mAnd, mOr, mNot, mAndV, mOrV, mNotV, mIf, mVar, mC, mCons, mNil, mTup, mLst, mCB, mgName, mNext, mIt, mPar, mAug, lk, wLen_tup, wLe_int, wLt_int, wGt_int, wEq_int, wNe_int, wEq_str, wNe_str, wIx_tup, wAt0, wAt1, wAt2, wAt3, oW_s, tru_bl, List.set]
  refine ifNB (fun e => ?_) fun e => ?_
  · refine ifT (out ?_)
    cases x <;> first | rfl | cases e
  obtain ⟨m, rfl⟩ := isTup_tup e
  simp only [mSeq, mIfS, mRet, mRetN, mAsg, mDrop, mTest, mBin, mChain, mTru, mAnd, mOr, mNot, mAndV, mOrV, mNotV, mIf, mVar, mC, mCons, mNil, mTup, mLst, mCB, mgName, mNext, mIt, mPar, mAug, lk, wLen_tup, wLe_int, wLt_int, wGt_int, wEq_int, wNe_int, wEq_str, wNe_str, wIx_tup, wAt0, wAt1, wAt2, wAt3, oW_s, tru_bl, List.set]
  cases m with
  | nil => exact iteT (ifT (out rfl))
  | cons z r =>
    refine ifB (fun e3 => ?_) fun _ => ?_
    · have := of_decide_eq_true e3
      rw [List.length_cons] at this
      omega
    simp only [mSeq, mIfS, mRet, mRetN, mAsg, mDrop, mTest, mBin, mChain, mTru, mAnd, mOr, mNot, mAndV, mOrV, mNotV, mIf, mVar, mC, mCons, mNil, mTup, mLst, mCB, mgName, mNext, mIt, mPar, mAug, lk, wLen_tup, wLe_int, wLt_int, wGt_int, wEq_int, wNe_int, wEq_str, wNe_str, wIx_tup, wAt0, wAt1, wAt2, wAt3, oW_s, tru_bl, List.set]
    refine isi_str h.2.1 ?_
    simp only [mSeq, mIfS, mRet, mRetN, mAsg, mDrop, mTest, mBin, mChain, mTru, mAnd, mOr, mNot, mAndV, mOrV, mNotV, mIf, mVar, mC, mCons, mNil, mTup, mLst, mCB, mgName, mNext, mIt, mPar, mAug, lk, wLen_tup, wLe_int, wLt_int, wGt_int, wEq_int, wNe_int, wEq_str, wNe_str, wIx_tup, wAt0, wAt1, wAt2, wAt3, oW_s, tru_bl, List.set]
    refine ifNB (fun e4 => out ?_) fun e4 => ?_
    · cases z <;> first | rfl | cases e4
    obtain ⟨y, rfl⟩ := isStr_str e4
    unfold mInKD mIxKD mCallL
    simp only [mSeq, mIfS, mRet, mRetN, mAsg, mDrop, mTest, mBin, mChain, mTru, mAnd, mOr, mNot, mAndV, mOrV, mNotV, mIf, mVar, mC, mCons, mNil, mTup, mLst, mCB, mgName, mNext, mIt, mPar, mAug, lk, wLen_tup, wLe_int, wLt_int, wGt_int, wEq_int, wNe_int, wEq_str, wNe_str, wIx_tup, wAt0, wAt1, wAt2, wAt3, oW_s, tru_bl, List.set]
    rw [Bool.true_xor, hT y]
    cases hk : kindOf y with
    | none =>
      refine iteT (out ?_)
      show (match kindOf y with
        | some g => g (.str y :: r)
        | none => false) = false
      rw [hk]
    | some g =>
      refine iteF ?_
      cases ht : T y with
      | none =>
        have := hT y
        rw [ht, hk] at this
        cases this
      | some a =>
        show ∃ C, CA a = some C ∧ _
        refine ⟨_, hC y a g ht hk, ?_⟩
        have e5 : shapedB (.tup (.str y :: r)) = g (.str y :: r) := by
          show (match kindOf y with
            | some g => g (.str y :: r)
            | none => false) = _
          rw [hk]
        refine pur_call rfl ⟨_, rfl⟩ ⟨h, trivial⟩ fun S2 h2 => ?_
        have := k S2 h2
        rw [e5] at this
        exact this
end
end EvT

set_option Elab.async false
set_option linter.all false
set_option maxRecDepth 100000
set_option maxHeartbeats 4000000
/-! Terms: what they are, how they lie in the heap, which names are free. -/
namespace OwT
open PySem PySem.Spec PyProof.Rows L2 Ow
mutual
inductive T where
  | num (n : Int)
  | nam (x : Str)
  | fn (x : Str) (e : T)
  | two (w x y : Str)
  | lt (w x : Str) (e b : T)
  | all (ps : Ps) (b : T)
  | mk (c : Str) (xs : List Str)
  | by_ (x : Str) (bs : Bs)
inductive Ps where
  | nil
  | cons (x : Str) (e : T) (r : Ps)
inductive Bs where
  | nil
  | cons (c : Str) (ys : List Str) (e : T) (r : Bs)
end
def twos : List Str := ["call", "sum", "minus", "less", "same"]
mutual
inductive Tp (K : PySem.W.Frag) (H : Hp) : V → T → Prop
  | num {a : Addr} {n : Int} : SqT K H a [.str "num", .int n] → Tp K H (.ref a) (.num n)
  | nam {a : Addr} {x : Str} : SqT K H a [.str "name", .str x] → Tp K H (.ref a) (.nam x)
  | fn {a : Addr} {x : Str} {v : V} {e : T} : SqT K H a [.str "fun", .str x, v] → Tp K H v e → Tp K H (.ref a) (.fn x e)
  | two {a : Addr} {w x y : Str} : w ∈ twos → SqT K H a [.str w, .str x, .str y] → Tp K H (.ref a) (.two w x y)
  | lt {a : Addr} {w x : Str} {v u : V} {e b : T} : w = "let" ∨ w = "now" → SqT K H a [.str w, .str x, v, u] → Tp K H v e → Tp K H u b → Tp K H (.ref a) (.lt w x e b)
  | all {a q : Addr} {vs : List V} {u : V} {ps : Ps} {b : T} : SqT K H a [.str "letall", .ref q, u] → SqT K H q vs → PsP K H vs ps → Tp K H u b → Tp K H (.ref a) (.all ps b)
  | mk {a q : Addr} {c : Str} {xs : List Str} : SqT K H a [.str "made", .str c, .ref q] → SqT K H q (xs.map V.str) → Tp K H (.ref a) (.mk c xs)
  | by_ {a q : Addr} {x : Str} {vs : List V} {bs : Bs} : SqT K H a [.str "by", .str x, .ref q] → SqT K H q vs → BsP K H vs bs → Tp K H (.ref a) (.by_ x bs)
inductive PsP (K : PySem.W.Frag) (H : Hp) : List V → Ps → Prop
  | nil : PsP K H [] .nil
  | cons {q : Addr} {x : Str} {v : V} {vs : List V} {e : T} {r : Ps} : SqT K H q [.str x, v] → Tp K H v e → PsP K H vs r → PsP K H (.ref q :: vs) (.cons x e r)
inductive BsP (K : PySem.W.Frag) (H : Hp) : List V → Bs → Prop
  | nil : BsP K H [] .nil
  | cons {q z : Addr} {c : Str} {ys : List Str} {v : V} {vs : List V} {e : T} {r : Bs} : SqT K H q [.str c, .ref z, v] → SqT K H z (ys.map V.str) → Tp K H v e → BsP K H vs r → BsP K H (.ref q :: vs) (.cons c ys e r)
end
/-- tuples stay -/
def TS (K : PySem.W.Frag) (H H' : Hp) : Prop := ∀ a xs, SqT K H a xs → SqT K H' a xs
section
variable {K : PySem.W.Frag} {H H' H1 : Hp}
theorem TS.refl : TS K H H := fun _ _ h => h
theorem TS.trans (x : TS K H H1) (y : TS K H1 H') : TS K H H' := fun a xs h => y a xs (x a xs h)
theorem TS.of (k : ∀ b xs, (H b = some (.tup xs) → H' b = some (.tup xs)) ∧ ∀ o, H b = some (.frz o (.tup xs)) → H' b = some (.frz o (.tup xs))) : TS K H H' := fun a xs h => by
  rcases h with (h | ⟨o, h⟩) | h
  · exact .inl (.inl ((k a xs).1 h))
  · exact .inl (.inr ⟨o, (k a xs).2 o h⟩)
  · exact .inr h
theorem TS.same (s : Same H H') : TS K H H' := TS.of fun b xs => ⟨fun h => s b _ h, fun o h => s b _ h⟩
/-- a list (or a dict, a set) is changed -/
theorem TS.set {p : Addr} {o o' : HO} (h : H p = some o) (n1 : ∀ xs, o ≠ .tup xs) (n2 : ∀ u xs, o ≠ .frz u (.tup xs)) : TS K H (upd H p o') := TS.of fun b xs => by
  have ne : ∀ u, H b = some u → (u = .tup xs ∨ ∃ z, u = .frz z (.tup xs)) → b ≠ p := fun u e q z => by
    subst z
    rw [h] at e
    cases e
    rcases q with q | ⟨z, q⟩
    · exact n1 _ q
    · exact n2 _ _ q
  exact ⟨fun e => by rw [upd_ne (ne _ e (.inl rfl))]; exact e, fun u e => by rw [upd_ne (ne _ e (.inr ⟨u, rfl⟩))]; exact e⟩
theorem TS.new {p : Addr} {o : HO} (h : H p = none) : TS K H (upd H p o) := TS.same (same_upd h)
theorem TS.but {p : Addr} (b : But p H H') {o : HO} (h : H p = some o) (n1 : ∀ xs, o ≠ .tup xs) (n2 : ∀ u xs, o ≠ .frz u (.tup xs)) : TS K H H' := TS.of fun c xs => by
  have ne : ∀ u, H c = some u → (u = .tup xs ∨ ∃ z, u = .frz z (.tup xs)) → c ≠ p := fun u e q z => by
    subst z
    rw [h] at e
    cases e
    rcases q with q | ⟨z, q⟩
    · exact n1 _ q
    · exact n2 _ _ q
  exact ⟨fun e => by rw [b c (ne _ e (.inl rfl))]; exact e, fun u e => by rw [b c (ne _ e (.inr ⟨u, rfl⟩))]; exact e⟩
mutual
theorem Tp.keep (s : TS K H H') : ∀ {v : V} {t : T}, Tp K H v t → Tp K H' v t
  | _, _, .num h => .num (s _ _ h)
  | _, _, .nam h => .nam (s _ _ h)
  | _, _, .fn h e => .fn (s _ _ h) (Tp.keep s e)
  | _, _, .two w h => .two w (s _ _ h)
  | _, _, .lt w h e b => .lt w (s _ _ h) (Tp.keep s e) (Tp.keep s b)
  | _, _, .all h q ps b => .all (s _ _ h) (s _ _ q) (PsP.keep s ps) (Tp.keep s b)
  | _, _, .mk h q => .mk (s _ _ h) (s _ _ q)
  | _, _, .by_ h q bs => .by_ (s _ _ h) (s _ _ q) (BsP.keep s bs)
theorem PsP.keep (s : TS K H H') : ∀ {vs : List V} {ps : Ps}, PsP K H vs ps → PsP K H' vs ps
  | _, _, .nil => .nil
  | _, _, .cons h e r => .cons (s _ _ h) (Tp.keep s e) (PsP.keep s r)
theorem BsP.keep (s : TS K H H') : ∀ {vs : List V} {bs : Bs}, BsP K H vs bs → BsP K H' vs bs
  | _, _, .nil => .nil
  | _, _, .cons h z e r => .cons (s _ _ h) (s _ _ z) (Tp.keep s e) (BsP.keep s r)
end
end
/-! ### free names -/
def Ps.names : Ps → List Str
  | .nil => []
  | .cons x _ r => x :: r.names
mutual
def Free (k : Str) : T → Prop
  | .num _ => False
  | .nam x => k = x
  | .fn x e => Free k e ∧ k ≠ x
  | .two _ x y => k = x ∨ k = y
  | .lt _ x e b => Free k e ∨ (Free k b ∧ k ≠ x)
  | .all ps b => (FreePs k ps ∨ Free k b) ∧ k ∉ ps.names
  | .mk _ xs => k ∈ xs
  | .by_ x bs => k = x ∨ FreeBs k bs
def FreePs (k : Str) : Ps → Prop
  | .nil => False
  | .cons _ e r => Free k e ∨ FreePs k r
def FreeBs (k : Str) : Bs → Prop
  | .nil => False
  | .cons _ ys e r => (Free k e ∧ k ∉ ys) ∨ FreeBs k r
end
mutual
def size : T → Nat
  | .num _ => 1
  | .nam _ => 1
  | .fn _ e => 2 + size e
  | .two _ _ _ => 1
  | .lt _ _ e b => 2 + size e + size b
  | .all ps b => 1 + sizePs ps + size b
  | .mk _ xs => 1 + xs.length
  | .by_ _ bs => 1 + sizeBs bs
def sizePs : Ps → Nat
  | .nil => 0
  | .cons _ e r => 1 + size e + sizePs r
def sizeBs : Bs → Nat
  | .nil => 0
  | .cons _ ys e r => 1 + ys.length + size e + sizeBs r
end
/-- the names that a term has itself -/
def nmd : T → List Str
  | .nam x => [x]
  | .two _ x y => [x, y]
  | .mk _ xs => xs
  | .by_ x _ => [x]
  | _ => []
def Ps.subs (ns : List Str) : Ps → List (T × List Str)
  | .nil => []
  | .cons _ e r => (e, ns) :: r.subs ns
def Bs.subs : Bs → List (T × List Str)
  | .nil => []
  | .cons _ ys e r => (e, ys) :: r.subs
/-- the terms of a term, with the names bound there -/
def wn : T → List (T × List Str)
  | .fn x e => [(e, [x])]
  | .lt _ x e b => [(e, []), (b, [x])]
  | .all ps b => ps.subs ps.names ++ [(b, ps.names)]
  | .by_ _ bs => bs.subs
  | _ => []
def sizes (l : List (T × List Str)) : Nat := (l.map fun p => size p.1).sum
theorem sizes_nil : sizes [] = 0 := rfl
theorem sizes_cons (p : T × List Str) (l : List (T × List Str)) : sizes (p :: l) = size p.1 + sizes l := by
  unfold sizes
  rw [List.map_cons, List.sum_cons]
theorem sizes_app (l m : List (T × List Str)) : sizes (l ++ m) = sizes l + sizes m := by
  unfold sizes
  rw [List.map_append, List.sum_append]
theorem sizes_ps (ns : List Str) : ∀ ps : Ps, sizes (ps.subs ns) + ps.names.length = sizePs ps
  | .nil => rfl
  | .cons _ e r => by
    have ih := sizes_ps ns r
    unfold Ps.subs sizePs Ps.names
    rw [sizes_cons, List.length_cons]
    dsimp only
    omega
theorem sizes_bs : ∀ bs : Bs, sizes bs.subs ≤ sizeBs bs
  | .nil => Nat.le_refl _
  | .cons _ ys e r => by
    have ih := sizes_bs r
    unfold Bs.subs sizeBs
    rw [sizes_cons]
    dsimp only
    omega
theorem each_bs : ∀ bs : Bs, ∀ p ∈ bs.subs, p.2.length + size p.1 ≤ sizeBs bs
  | .nil, p, h => by cases h
  | .cons _ ys e r, p, h => by
    unfold Bs.subs at h
    unfold sizeBs
    rcases List.mem_cons.mp h with rfl | h
    · dsimp only
      omega
    · have := each_bs r p h
      omega
theorem each_ps (ns : List Str) : ∀ ps : Ps, ∀ p ∈ ps.subs ns, p.2 = ns ∧ size p.1 + ps.names.length ≤ sizePs ps
  | .nil, p, h => by cases h
  | .cons _ e r, p, h => by
    unfold Ps.subs at h
    have ih := sizes_ps ns r
    unfold sizePs Ps.names
    rw [List.length_cons]
    rcases List.mem_cons.mp h with rfl | h
    · refine ⟨rfl, ?_⟩
      dsimp only
      omega
    · obtain ⟨a, b⟩ := each_ps ns r p h
      exact ⟨a, by omega⟩
theorem sizes_wn (t : T) : sizes (wn t) + 1 ≤ size t := by
  cases t with
  | num n => exact Nat.le_refl _
  | nam x => exact Nat.le_refl _
  | fn x e =>
    unfold wn size
    rw [sizes_cons, sizes_nil]
    dsimp only
    omega
  | two w x y => exact Nat.le_refl _
  | lt w x e b =>
    unfold wn size
    rw [sizes_cons, sizes_cons, sizes_nil]
    dsimp only
    omega
  | all ps b =>
    unfold wn size
    have := sizes_ps ps.names ps
    rw [sizes_app, sizes_cons, sizes_nil]
    dsimp only
    omega
  | mk c xs =>
    show 0 + 1 ≤ 1 + xs.length
    omega
  | by_ x bs =>
    have := sizes_bs bs
    show sizes bs.subs + 1 ≤ 1 + sizeBs bs
    omega
theorem each_wn (t : T) : ∀ p ∈ wn t, p.2.length + size p.1 + 1 ≤ size t := by
  intro p hp
  cases t with
  | num n => cases hp
  | nam x => cases hp
  | fn x e =>
    unfold wn at hp
    cases List.mem_singleton.mp hp
    show 1 + size e + 1 ≤ 2 + size e
    omega
  | two w x y => cases hp
  | lt w x e b =>
    unfold wn at hp
    rcases List.mem_cons.mp hp with rfl | hp
    · show 0 + size e + 1 ≤ 2 + size e + size b
      omega
    · cases List.mem_singleton.mp hp
      show 1 + size b + 1 ≤ 2 + size e + size b
      omega
  | all ps b =>
    unfold wn at hp
    have h0 := sizes_ps ps.names ps
    rcases List.mem_append.mp hp with hp | hp
    · obtain ⟨a, c⟩ := each_ps ps.names ps p hp
      rw [a]
      show ps.names.length + size p.1 + 1 ≤ 1 + sizePs ps + size b
      omega
    · cases List.mem_singleton.mp hp
      show ps.names.length + size b + 1 ≤ 1 + sizePs ps + size b
      omega
  | mk c xs => cases hp
  | by_ x bs =>
    have := each_bs bs p hp
    show p.2.length + size p.1 + 1 ≤ 1 + sizeBs bs
    omega
theorem free_ps (k : Str) (ns : List Str) : ∀ ps : Ps, (∃ p ∈ ps.subs ns, Free k p.1 ∧ k ∉ p.2) ↔ FreePs k ps ∧ k ∉ ns
  | .nil => by
    unfold Ps.subs FreePs
    simp
  | .cons _ e r => by
    have ih := free_ps k ns r
    unfold Ps.subs FreePs
    constructor
    · rintro ⟨p, hp, h1, h2⟩
      rcases List.mem_cons.mp hp with rfl | hp
      · exact ⟨.inl h1, h2⟩
      · obtain ⟨a, b⟩ := ih.mp ⟨p, hp, h1, h2⟩
        exact ⟨.inr a, b⟩
    · rintro ⟨h | h, h2⟩
      · exact ⟨_, List.mem_cons_self, h, h2⟩
      · obtain ⟨p, hp, q⟩ := ih.mpr ⟨h, h2⟩
        exact ⟨p, List.mem_cons_of_mem _ hp, q⟩
theorem free_bs (k : Str) : ∀ bs : Bs, (∃ p ∈ bs.subs, Free k p.1 ∧ k ∉ p.2) ↔ FreeBs k bs
  | .nil => by
    unfold Bs.subs FreeBs
    simp
  | .cons _ ys e r => by
    have ih := free_bs k r
    unfold Bs.subs FreeBs
    constructor
    · rintro ⟨p, hp, h⟩
      rcases List.mem_cons.mp hp with rfl | hp
      · exact .inl h
      · exact .inr (ih.mp ⟨p, hp, h⟩)
    · rintro (h | h)
      · exact ⟨_, List.mem_cons_self, h⟩
      · obtain ⟨p, hp, q⟩ := ih.mpr h
        exact ⟨p, List.mem_cons_of_mem _ hp, q⟩
theorem free_iff (k : Str) (t : T) : Free k t ↔ k ∈ nmd t ∨ ∃ p ∈ wn t, Free k p.1 ∧ k ∉ p.2 := by
  cases t with
  | num n =>
    unfold Free nmd wn
    simp
  | nam x =>
    unfold Free nmd wn
    simp
  | fn x e =>
    show (Free k e ∧ k ≠ x) ↔ k ∈ ([] : List Str) ∨ ∃ p ∈ [(e, [x])], Free k p.1 ∧ k ∉ p.2
    simp
  | two w x y =>
    unfold Free nmd wn
    simp
  | lt w x e b =>
    show (Free k e ∨ (Free k b ∧ k ≠ x)) ↔ k ∈ ([] : List Str) ∨ ∃ p ∈ [(e, []), (b, [x])], Free k p.1 ∧ k ∉ p.2
    simp
  | all ps b =>
    show ((FreePs k ps ∨ Free k b) ∧ k ∉ ps.names) ↔ k ∈ ([] : List Str) ∨ ∃ p ∈ ps.subs ps.names ++ [(b, ps.names)], Free k p.1 ∧ k ∉ p.2
    constructor
    · rintro ⟨h | h, h2⟩
      · obtain ⟨p, hp, q⟩ := (free_ps k ps.names ps).mpr ⟨h, h2⟩
        exact .inr ⟨p, List.mem_append_left _ hp, q⟩
      · exact .inr ⟨_, List.mem_append_right _ (List.mem_singleton.mpr rfl), h, h2⟩
    · rintro (h | ⟨p, hp, h1, h2⟩)
      · cases h
      · rcases List.mem_append.mp hp with hp | hp
        · obtain ⟨a, b⟩ := (free_ps k ps.names ps).mp ⟨p, hp, h1, h2⟩
          exact ⟨.inl a, b⟩
        · cases List.mem_singleton.mp hp
          exact ⟨.inr h1, h2⟩
  | mk c xs =>
    unfold Free nmd wn
    simp
  | by_ x bs =>
    show (k = x ∨ FreeBs k bs) ↔ k ∈ [x] ∨ ∃ p ∈ bs.subs, Free k p.1 ∧ k ∉ p.2
    rw [free_bs]
    simp
end OwT
namespace OwT
open PySem PySem.Spec PyProof.Rows L2 Ow
/-- the list of pairs (term, names) -/
inductive Subs (K : PySem.W.Frag) (H : Hp) : List V → List (T × List Str) → Prop
  | nil : Subs K H [] []
  | cons {q b : Addr} {v : V} {vs : List V} {t : T} {ns : List Str} {r : List (T × List Str)} : SqT K H q [v, .ref b] → Tp K H v t → SqT K H b (ns.map V.str) → Subs K H vs r → Subs K H (.ref q :: vs) ((t, ns) :: r)
section
variable {K : PySem.W.Frag} {H H' H1 : Hp}
theorem Subs.keep (s : TS K H H') : ∀ {vs : List V} {l : List (T × List Str)}, Subs K H vs l → Subs K H' vs l
  | _, _, .nil => .nil
  | _, _, .cons a b c d => .cons (s _ _ a) (b.keep s) (s _ _ c) (Subs.keep s d)
theorem Subs.snoc {q b : Addr} {v : V} {t : T} {ns : List Str} (h1 : SqT K H q [v, .ref b]) (h2 : Tp K H v t) (h3 : SqT K H b (ns.map V.str)) : ∀ {vs : List V} {l : List (T × List Str)}, Subs K H vs l → Subs K H (vs ++ [.ref q]) (l ++ [(t, ns)])
  | _, _, .nil => .cons h1 h2 h3 .nil
  | _, _, .cons a b c d => .cons a b c (Subs.snoc h1 h2 h3 d)
theorem Subs.app {us : List V} {m : List (T × List Str)} (k : Subs K H us m) : ∀ {vs : List V} {l : List (T × List Str)}, Subs K H vs l → Subs K H (vs ++ us) (l ++ m)
  | _, _, .nil => k
  | _, _, .cons a b c d => .cons a b c (Subs.app k d)
theorem subs_at : ∀ (vs : List V) (l : List (T × List Str)) (i : Nat) (x : V), Subs K H vs l → vs[i]? = some x → ∃ q b v t ns, x = .ref q ∧ SqT K H q [v, .ref b] ∧ Tp K H v t ∧ SqT K H b (ns.map V.str) ∧ l[i]? = some (t, ns)
  | _, _, _, _, .nil, h => by simp at h
  | _, _, 0, _, .cons a b c _, h => by
    cases h
    exact ⟨_, _, _, _, _, rfl, a, b, c, rfl⟩
  | _, _, i + 1, x, .cons _ _ _ d, h => subs_at _ _ i x d h
theorem Subs.len : ∀ {vs : List V} {l : List (T × List Str)}, Subs K H vs l → vs.length = l.length
  | _, _, .nil => rfl
  | _, _, .cons _ _ _ d => congrArg (· + 1) d.len
theorem ps_at (ns : List Str) : ∀ (vs : List V) (ps : Ps) (i : Nat) (x : V), PsP K H vs ps → vs[i]? = some x → ∃ q nm v e, x = .ref q ∧ SqT K H q [.str nm, v] ∧ Tp K H v e ∧ ps.names[i]? = some nm ∧ (ps.subs ns)[i]? = some (e, ns)
  | _, _, _, _, .nil, h => by simp at h
  | _, _, 0, _, .cons a b _, h => by
    cases h
    exact ⟨_, _, _, _, rfl, a, b, rfl, rfl⟩
  | _, _, i + 1, x, .cons _ _ d, h => ps_at ns _ _ i x d h
theorem PsP.len : ∀ {vs : List V} {ps : Ps}, PsP K H vs ps → ps.names.length = vs.length
  | _, _, .nil => rfl
  | _, _, .cons _ _ d => congrArg (· + 1) d.len
theorem PsP.lenS (ns : List Str) : ∀ {vs : List V} {ps : Ps}, PsP K H vs ps → (ps.subs ns).length = vs.length
  | _, _, .nil => rfl
  | _, _, .cons _ _ d => congrArg (· + 1) (d.lenS ns)
theorem bs_at : ∀ (vs : List V) (bs : Bs) (i : Nat) (x : V), BsP K H vs bs → vs[i]? = some x → ∃ q c z ys v e, x = .ref q ∧ SqT K H q [.str c, .ref z, v] ∧ SqT K H z (ys.map V.str) ∧ Tp K H v e ∧ bs.subs[i]? = some (e, ys)
  | _, _, _, _, .nil, h => by simp at h
  | _, _, 0, _, .cons a b c _, h => by
    cases h
    exact ⟨_, _, _, _, _, _, rfl, a, b, c, rfl⟩
  | _, _, i + 1, x, .cons _ _ _ d, h => bs_at _ _ i x d h
theorem BsP.lenS : ∀ {vs : List V} {bs : Bs}, BsP K H vs bs → bs.subs.length = vs.length
  | _, _, .nil => rfl
  | _, _, .cons _ _ _ d => congrArg (· + 1) d.lenS
theorem same_set {D : Addr} {o : HO} (s : Same H H1) (hD : H D = none) : Same H (upd H1 D o) := fun b u e => by
  rw [upd_ne (ne_of_none e hD)]
  exact s b u e
theorem take_snoc {α : Type} {l : List α} {i : Nat} {x : α} (h : l[i]? = some x) : l.take (i + 1) = l.take i ++ [x] := by
  rw [List.take_add_one, h]
  rfl
/-- the tuples' lengths are within the line -/
theorem sqt_len {X : Cx} {pins : List (Addr × Obj)} {σ : L2.St} {s : Shared} {a : Addr} {xs : List V} (I : Inv X pins σ H s) (h : SqT X.K H a xs) : xs.length ≤ sizeLine := (I.tuple h).choose_spec.2.2
end
end OwT
namespace OwT
open PySem PySem.Spec PyProof.Rows L2 Ow
theorem size_pos : ∀ t : T, 1 ≤ size t := fun t => by
  have := sizes_wn t
  omega
section
variable {K : PySem.W.Frag} {H H' H1 : Hp}
theorem ps_few : ∀ (vs : List V) (ps : Ps), PsP K H vs ps → vs.length ≤ sizePs ps
  | _, _, .nil => Nat.le_refl _
  | _, _, .cons (e := e) (vs := vs) (r := r) _ _ d => by
    have h1 := ps_few vs r d
    have h2 := size_pos e
    unfold sizePs
    rw [List.length_cons]
    omega
theorem bs_few : ∀ (vs : List V) (bs : Bs), BsP K H vs bs → vs.length ≤ sizeBs bs
  | _, _, .nil => Nat.le_refl _
  | _, _, .cons (e := e) (vs := vs) (r := r) _ _ _ d => by
    have h1 := bs_few vs r d
    have h2 := size_pos e
    unfold sizeBs
    rw [List.length_cons]
    omega
end
end OwT
namespace OwT
open PySem PySem.Spec PyProof.Rows L2 Ow
/-- the keys of a dict of texts -/
def KD (kvs : List (Key × V)) (ks : List Str) : Prop := kvs.map (·.1) = ks.map Sum.inr ∧ ks.Nodup
theorem kd_put {kvs : List (Key × V)} {ks : List Str} (h : KD kvs ks) (x : Str) (v : V) : ∃ ks', KD (putK kvs (Sum.inr x : Key) v) ks' ∧ ∀ k, k ∈ ks' ↔ k ∈ ks ∨ k = x := by
  obtain ⟨h1, h2⟩ := h
  cases e : valV kvs (Sum.inr x : Key) with
  | none =>
    have nx : x ∉ ks := fun z => by
      have q := valV_not e
      rw [h1] at q
      exact q (List.mem_map.mpr ⟨x, z, rfl⟩)
    refine ⟨ks ++ [x], ⟨?_, ?_⟩, fun k => by rw [List.mem_append, List.mem_singleton]⟩
    · rw [putK_new v e, List.map_append, List.map_append, h1]
      rfl
    · exact List.nodup_append.mpr ⟨h2, by simp, fun a ha b hb => by
        rw [List.mem_singleton.mp hb]
        intro z
        rw [z] at ha
        exact nx ha⟩
  | some u =>
    have ix : x ∈ ks := by
      have q := valV_in e
      rw [h1] at q
      obtain ⟨y, hy, ey⟩ := List.mem_map.mp q
      cases ey
      exact hy
    have ek : (putK kvs (Sum.inr x : Key) v).map (·.1) = kvs.map (·.1) := by
      unfold putK
      rw [valV_any, e]
      show ((kvs.map fun kv => if kv.1 = (Sum.inr x : Key) then (kv.1, v) else kv).map (·.1)) = _
      rw [List.map_map]
      refine List.map_congr_left fun p _ => ?_
      show (if p.1 = (Sum.inr x : Key) then (p.1, v) else p).1 = p.1
      split <;> rfl
    refine ⟨ks, ⟨ek.trans h1, h2⟩, fun k => ⟨.inl, fun z => z.elim id fun z => by rw [z]; exact ix⟩⟩
theorem nodup_sub : ∀ (ks ns : List Str), ks.Nodup → (∀ k ∈ ks, k ∈ ns) → ks.length ≤ ns.length
  | [], _, _, _ => Nat.zero_le _
  | x :: r, ns, h, s => by
    obtain ⟨h1, h2⟩ := List.nodup_cons.mp h
    have hx := s x List.mem_cons_self
    have ih := nodup_sub r (ns.erase x) h2 fun k hk => by
      have q := s k (List.mem_cons_of_mem _ hk)
      exact (List.mem_erase_of_ne (fun z => h1 (by rw [← z]; exact hk))).mpr q
    rw [List.length_erase_of_mem hx] at ih
    have := List.length_pos_of_mem hx
    rw [List.length_cons]
    omega
end OwT
namespace OwT
open PySem PySem.Spec PyProof.Rows L2 Ow
theorem subs_last {K : PySem.W.Frag} {H : Hp} {es : List V} {L : List (T × List Str)} (h : Subs K H es L) : es ≠ [] → ∃ es' L' q b v t ns, es = es' ++ [.ref q] ∧ L = L' ++ [(t, ns)] ∧ Subs K H es' L' ∧ SqT K H q [v, .ref b] ∧ Tp K H v t ∧ SqT K H b (ns.map V.str) := by
  induction h with
  | nil => exact fun z => absurd rfl z
  | @cons q b v vs t ns r h1 h2 h3 h4 ih =>
    intro _
    cases hvs : vs with
    | nil =>
      subst hvs
      cases h4
      exact ⟨[], [], q, b, v, t, ns, rfl, rfl, .nil, h1, h2, h3⟩
    | cons x xs =>
      rw [← hvs]
      obtain ⟨es', L', q2, b2, v2, t2, ns2, e1, e2, k1, k2, k3, k4⟩ := ih (by rw [hvs]; simp)
      exact ⟨.ref q :: es', (t, ns) :: L', q2, b2, v2, t2, ns2, by rw [e1]; rfl, by rw [e2]; rfl, .cons h1 h2 h3 k1, k2, k3, k4⟩
theorem last_at (es : List V) (x : V) : (es ++ [x])[(es ++ [x]).length - 1]? = some x ∧ (es ++ [x]).dropLast = es := by
  constructor
  · rw [List.length_append, List.length_singleton, Nat.add_sub_cancel, List.getElem?_append_right (Nat.le_refl _), Nat.sub_self]
    rfl
  · exact List.dropLast_concat
end OwT
namespace OwT
open PySem PySem.Spec PyProof.Rows L2 Ow
theorem catA_read {K : PySem.W.Frag} {H : Hp} {a b : Addr} {xs ys : List V} {Q : VK} (ha : SqT K H a xs) (hb : SqT K H b ys) (hl : xs.length + ys.length ≤ sizeLine) (k : ∀ c H', Same H H' → SqT K H' c (xs ++ ys) → Q (.ref c) H') : rCatA K (.ref a) (.ref b) H Q := by
  refine ⟨a, b, xs, ys, rfl, rfl, ha, hb, hl, fun e => ?_, fun e1 e2 => ?_, fun e1 e2 p np => ?_⟩
  · subst e
    exact k b H (Same.refl H) hb
  · subst e2
    exact k a H (Same.refl H) (by rw [List.append_nil]; exact ha)
  · exact k p _ (same_upd np) (SqT.of upd_same)
theorem len_sizes : ∀ L : List (T × List Str), L.length ≤ sizes L
  | [] => Nat.le_refl _
  | p :: r => by
    have := len_sizes r
    have := size_pos p.1
    rw [sizes_cons, List.length_cons]
    omega
theorem sizes_map (ns : List Str) : ∀ L : List (T × List Str), sizes (L.map fun p => (p.1, ns ++ p.2)) = sizes L
  | [] => rfl
  | p :: r => by
    rw [List.map_cons, sizes_cons, sizes_cons, sizes_map ns r]
end OwT
namespace OwT
open PySem PySem.Spec PyProof.Rows L2 Ow
/-! ### frames: what stood stands, but for the addresses of S -/
def Fr (S : List Addr) (H H' : Hp) : Prop := ∀ b o, b ∉ S → H b = some o → H' b = some o
section
variable {K : PySem.W.Frag} {S : List Addr} {H H1 H2 : Hp} {p : Addr}
theorem Fr.refl : Fr S H H := fun _ _ _ e => e
theorem Fr.trans (a : Fr S H H1) (b : Fr S H1 H2) : Fr S H H2 := fun c o n e => b c o n (a c o n e)
theorem Fr.mono {S' : List Addr} (a : Fr S H H1) (h : ∀ b ∈ S, b ∈ S') : Fr S' H H1 := fun c o n e => a c o (fun z => n (h c z)) e
theorem Fr.same (s : Same H H1) : Fr S H H1 := fun c o _ e => s c o e
theorem Fr.but (b : But p H H1) (h : p ∈ S) : Fr S H H1 := fun c o n e => by
  rw [b c (fun z => n (by rw [z]; exact h))]
  exact e
theorem Fr.new {o : HO} (h : H p = none) : Fr S H (upd H p o) := Fr.same (same_upd h)
theorem Fr.set {o : HO} (h : p ∈ S) : Fr S H (upd H p o) := fun c u n e => by
  rw [upd_ne (fun z => n (by rw [z]; exact h))]
  exact e
/-- what wasn't there at first may be changed -/
theorem Fr.late {o : HO} (a : Fr S H H1) (h : H p = none) : Fr S H (upd H1 p o) := fun c u n e => by
  rw [upd_ne (ne_of_none e h)]
  exact a c u n e
theorem Fr.free (a : Fr S H H1) (h : H1 p = none) (n : p ∉ S) : H p = none := by
  cases e : H p with
  | none => rfl
  | some o =>
    rw [a p o n e] at h
    cases h
theorem Fr.ts (a : Fr S H H1) (h : ∀ b ∈ S, ∃ xs, H b = some (.lst xs)) : TS K H H1 := TS.of fun c xs => by
  have k : ∀ u, H c = some u → (∀ ys, u ≠ .lst ys) → H1 c = some u := fun u e n => a c u (fun z => by
    obtain ⟨ys, e2⟩ := h c z
    rw [e] at e2
    exact n ys (Option.some.inj e2)) e
  exact ⟨fun e => k _ e (fun _ z => by cases z), fun _ e => k _ e (fun _ z => by cases z)⟩
theorem Fr.fd (a : Fr S H H1) (h : Fd H p) (n : p ∉ S) : Fd H1 p := by
  obtain ⟨d, s, e, r⟩ := h
  exact ⟨d, s, a p _ n e, r⟩
theorem Fd.lst (h : Fd H p) : ∃ xs, H p = some (.lst xs) := by
  obtain ⟨d, s, e, r⟩ := h
  exact ⟨_, e⟩
end
/-! ### what the law's terms are like -/
mutual
def Good (ns : List Str) : T → Prop
  | .num n => n.natAbs ≤ 10 ^ 18
  | .nam x => x ∈ ns
  | .fn x e => x ∈ ns ∧ Good ns e
  | .two w x y => w ∈ twos ∧ x ∈ ns ∧ y ∈ ns
  | .lt w x e b => (w = "let" ∨ w = "now") ∧ x ∈ ns ∧ Good ns e ∧ Good ns b
  | .all ps b => GoodPs ns ps ∧ Good ns b
  | .mk c xs => c ∈ ns ∧ (∀ x ∈ xs, x ∈ ns) ∧ xs.length ≤ 3
  | .by_ x bs => x ∈ ns ∧ GoodBs ns bs
def GoodPs (ns : List Str) : Ps → Prop
  | .nil => True
  | .cons x e r => x ∈ ns ∧ Good ns e ∧ GoodPs ns r
def GoodBs (ns : List Str) : Bs → Prop
  | .nil => True
  | .cons c ys e r => c ∈ ns ∧ (∀ y ∈ ys, y ∈ ns) ∧ ys.length ≤ 3 ∧ Good ns e ∧ GoodBs ns r
end
mutual
def nodes : T → Nat
  | .num _ => 1
  | .nam _ => 1
  | .fn _ e => 1 + nodes e
  | .two _ _ _ => 1
  | .lt _ _ e b => 1 + nodes e + nodes b
  | .all ps b => 1 + nodesPs ps + nodes b
  | .mk _ _ => 1
  | .by_ _ bs => 1 + nodesBs bs
def nodesPs : Ps → Nat
  | .nil => 0
  | .cons _ e r => nodes e + nodesPs r
def nodesBs : Bs → Nat
  | .nil => 0
  | .cons _ _ e r => nodes e + nodesBs r
end
mutual
def deep : T → Nat
  | .num _ => 1
  | .nam _ => 1
  | .fn _ e => 1 + deep e
  | .two _ _ _ => 1
  | .lt _ _ e b => 1 + max (deep e) (deep b)
  | .all ps b => 1 + max (deepPs ps) (deep b)
  | .mk _ _ => 1
  | .by_ _ bs => 1 + deepBs bs
def deepPs : Ps → Nat
  | .nil => 0
  | .cons _ e r => max (deep e) (deepPs r)
def deepBs : Bs → Nat
  | .nil => 0
  | .cons _ _ e r => max (deep e) (deepBs r)
end
mutual
theorem size_le (ns : List Str) : ∀ t : T, Good ns t → size t + 4 ≤ 8 * nodes t
  | .num _, _ => by show 1 + 4 ≤ 8 * 1; omega
  | .nam _, _ => by show 1 + 4 ≤ 8 * 1; omega
  | .fn _ e, h => by
    have := size_le ns e h.2
    show 2 + size e + 4 ≤ 8 * (1 + nodes e)
    omega
  | .two _ _ _, _ => by show 1 + 4 ≤ 8 * 1; omega
  | .lt _ _ e b, h => by
    have := size_le ns e h.2.2.1
    have := size_le ns b h.2.2.2
    show 2 + size e + size b + 4 ≤ 8 * (1 + nodes e + nodes b)
    omega
  | .all ps b, h => by
    have := size_le ns b h.2
    have := size_lePs ns ps h.1
    show 1 + sizePs ps + size b + 4 ≤ 8 * (1 + nodesPs ps + nodes b)
    omega
  | .mk _ xs, h => by
    have := h.2.2
    show 1 + xs.length + 4 ≤ 8 * 1
    omega
  | .by_ _ bs, h => by
    have := size_leBs ns bs h.2
    show 1 + sizeBs bs + 4 ≤ 8 * (1 + nodesBs bs)
    omega
theorem size_lePs (ns : List Str) : ∀ ps : Ps, GoodPs ns ps → sizePs ps ≤ 8 * nodesPs ps
  | .nil, _ => Nat.le_refl _
  | .cons _ e r, h => by
    have := size_le ns e h.2.1
    have := size_lePs ns r h.2.2
    show 1 + size e + sizePs r ≤ 8 * (nodes e + nodesPs r)
    omega
theorem size_leBs (ns : List Str) : ∀ bs : Bs, GoodBs ns bs → sizeBs bs ≤ 8 * nodesBs bs
  | .nil, _ => Nat.le_refl _
  | .cons _ ys e r, h => by
    have := size_le ns e h.2.2.2.1
    have := size_leBs ns r h.2.2.2.2
    have := h.2.2.1
    show 1 + ys.length + size e + sizeBs r ≤ 8 * (nodes e + nodesBs r)
    omega
end
end OwT
namespace OwT
open PySem PySem.Spec PyProof.Rows L2 Ow
def Ps.snoc : Ps → Str → T → Ps
  | .nil, x, e => .cons x e .nil
  | .cons y f r, x, e => .cons y f (r.snoc x e)
def Bs.snoc : Bs → Str → List Str → T → Bs
  | .nil, c, ys, e => .cons c ys e .nil
  | .cons d zs f r, c, ys, e => .cons d zs f (r.snoc c ys e)
section
variable {K : PySem.W.Frag} {H : Hp}
theorem ps_snoc {q : Addr} {x : Str} {v : V} {e : T} (h1 : SqT K H q [.str x, v]) (h2 : Tp K H v e) : ∀ (vs : List V) (ps : Ps), PsP K H vs ps → PsP K H (vs ++ [.ref q]) (ps.snoc x e)
  | _, _, .nil => .cons h1 h2 .nil
  | _, _, .cons a b d => .cons a b (ps_snoc h1 h2 _ _ d)
theorem bs_snoc {q z : Addr} {c : Str} {ys : List Str} {v : V} {e : T} (h1 : SqT K H q [.str c, .ref z, v]) (h2 : SqT K H z (ys.map V.str)) (h3 : Tp K H v e) : ∀ (vs : List V) (bs : Bs), BsP K H vs bs → BsP K H (vs ++ [.ref q]) (bs.snoc c ys e)
  | _, _, .nil => .cons h1 h2 h3 .nil
  | _, _, .cons a b c d => .cons a b c (bs_snoc h1 h2 h3 _ _ d)
end
theorem snoc_nodes (x : Str) (e : T) : ∀ ps : Ps, nodesPs (ps.snoc x e) = nodesPs ps + nodes e
  | .nil => by show nodes e + 0 = 0 + nodes e; omega
  | .cons y f r => by
    show nodes f + nodesPs (r.snoc x e) = nodes f + nodesPs r + nodes e
    rw [snoc_nodes x e r]
    omega
theorem snoc_deep (x : Str) (e : T) : ∀ ps : Ps, deepPs (ps.snoc x e) = max (deepPs ps) (deep e)
  | .nil => by show max (deep e) 0 = max 0 (deep e); omega
  | .cons y f r => by
    show max (deep f) (deepPs (r.snoc x e)) = max (max (deep f) (deepPs r)) (deep e)
    rw [snoc_deep x e r]
    omega
theorem snoc_good {ns : List Str} {x : Str} {e : T} (hx : x ∈ ns) (he : Good ns e) : ∀ ps : Ps, GoodPs ns ps → GoodPs ns (ps.snoc x e)
  | .nil, _ => ⟨hx, he, trivial⟩
  | .cons _ _ r, h => ⟨h.1, h.2.1, snoc_good hx he r h.2.2⟩
theorem bsnoc_nodes (c : Str) (ys : List Str) (e : T) : ∀ bs : Bs, nodesBs (bs.snoc c ys e) = nodesBs bs + nodes e
  | .nil => by show nodes e + 0 = 0 + nodes e; omega
  | .cons _ _ f r => by
    show nodes f + nodesBs (r.snoc c ys e) = nodes f + nodesBs r + nodes e
    rw [bsnoc_nodes c ys e r]
    omega
theorem bsnoc_deep (c : Str) (ys : List Str) (e : T) : ∀ bs : Bs, deepBs (bs.snoc c ys e) = max (deepBs bs) (deep e)
  | .nil => by show max (deep e) 0 = max 0 (deep e); omega
  | .cons _ _ f r => by
    show max (deep f) (deepBs (r.snoc c ys e)) = max (max (deep f) (deepBs r)) (deep e)
    rw [bsnoc_deep c ys e r]
    omega
theorem bsnoc_good {ns : List Str} {c : Str} {ys : List Str} {e : T} (hc : c ∈ ns) (hy : ∀ y ∈ ys, y ∈ ns) (hl : ys.length ≤ 3) (he : Good ns e) : ∀ bs : Bs, GoodBs ns bs → GoodBs ns (bs.snoc c ys e)
  | .nil, _ => ⟨hc, hy, hl, he, trivial⟩
  | .cons _ _ _ r, h => ⟨h.1, h.2.1, h.2.2.1, h.2.2.2.1, bsnoc_good hc hy hl he r h.2.2.2.2⟩
/-! ### as data -/
theorem lay_strs : ∀ l : List Str, (∀ x ∈ l, Lo x) → PyData.canLayAll0 (l.map PyData.str) = true
  | [], _ => by simp [PyData.canLayAll0]
  | x :: r, h => by
    have h1 := h x List.mem_cons_self
    have h2 := lay_strs r fun d hd => h d (List.mem_cons_of_mem _ hd)
    have h3 : PyData.strOk x = true := by
      unfold PyData.strOk
      rw [Array.all_eq_true']
      intro c hc
      have := h1 c (by simpa using hc)
      simp
      omega
    rw [List.map_cons]
    unfold PyData.canLayAll0
    rw [h2, Bool.and_true]
    unfold PyData.canLay0
    exact h3
theorem depth_strs : ∀ l : List Str, PyData.depthAll (l.map PyData.str) = 0
  | [] => by simp [PyData.depthAll]
  | x :: r => by
    rw [List.map_cons]
    unfold PyData.depthAll
    rw [depth_strs r]
    simp [PyData.depth]
theorem dp_strs {K : PySem.W.Frag} {H : Hp} : ∀ l : List Str, DpAll K H (l.map V.str) (l.map PyData.str)
  | [] => .nil
  | x :: r => .cons (.str x) (dp_strs r)
theorem shaped_tup {l : List Str} (h : ∀ x ∈ l, Lo x) : SeqAt.shaped (.tuple (l.map PyData.str)) = true := by
  unfold SeqAt.shaped
  rw [Bool.and_eq_true]
  constructor
  · unfold PyData.canLay0
    exact lay_strs l h
  · unfold PyData.depth
    rw [depth_strs l]
    decide
theorem eqv_tnil : ∀ l : List PyData, PyData.eqv (.tuple l) (.tuple []) = l.isEmpty
  | [] => by simp [PyData.eqv, PyData.eqvAll]
  | _ :: _ => by simp [PyData.eqv, PyData.eqvAll]
end OwT

set_option Elab.async false
set_option linter.all false
set_option maxRecDepth 100000
set_option maxHeartbeats 1000000
/-! Terms as values. -/
namespace EvT
open PySem PySem.Spec PyProof.Rows L2 Ow Ev OwT
mutual
def tW : T → W
  | .num n => .tup [.str "num", .int n]
  | .nam x => .tup [.str "name", .str x]
  | .fn x e => .tup [.str "fun", .str x, tW e]
  | .two w x y => .tup [.str w, .str x, .str y]
  | .lt w x e b => .tup [.str w, .str x, tW e, tW b]
  | .all ps b => .tup [.str "letall", .tup (pW ps), tW b]
  | .mk c xs => .tup [.str "made", .str c, .tup (xs.map W.str)]
  | .by_ x bs => .tup [.str "by", .str x, .tup (bW bs)]
def pW : Ps → List W
  | .nil => []
  | .cons x e r => .tup [.str x, tW e] :: pW r
def bW : Bs → List W
  | .nil => []
  | .cons c ys e r => .tup [.str c, .tup (ys.map W.str), tW e] :: bW r
end
def worthT : T → Prop
  | .fn _ _ => True
  | .mk _ _ => True
  | _ => False
def headsB : Bs → List Str
  | .nil => []
  | .cons c _ _ r => c :: headsB r
mutual
def WF : T → Prop
  | .num n => -(10 ^ 18) ≤ n ∧ n ≤ 10 ^ 18
  | .nam x => isNm x = true
  | .fn x e => isNm x = true ∧ WF e
  | .two w x y => w ∈ twos ∧ isNm x = true ∧ isNm y = true
  | .lt w x e b => (w = "let" ∨ w = "now") ∧ isNm x = true ∧ WF e ∧ WF b
  | .all ps b => (1 ≤ ps.names.length ∧ ps.names.length ≤ 6) ∧ ps.names.Nodup ∧ WFp ps ∧ WF b
  | .mk c xs => isNm c = true ∧ xs.length ≤ 3 ∧ ∀ x ∈ xs, isNm x = true
  | .by_ x bs => isNm x = true ∧ (1 ≤ (headsB bs).length ∧ (headsB bs).length ≤ 6) ∧ (headsB bs).Nodup ∧ WFb bs
def WFp : Ps → Prop
  | .nil => True
  | .cons x e r => isNm x = true ∧ worthT e ∧ WF e ∧ WFp r
def WFb : Bs → Prop
  | .nil => True
  | .cons c ys e r => isNm c = true ∧ (ys.length ≤ 3 ∧ ys.Nodup ∧ ∀ y ∈ ys, isNm y = true) ∧ WF e ∧ WFb r
end
/-- what lies in a term, by its tuple -/
def subA (a b : W) : List W := match a with
  | .tup ps => ps.map (fun p => match p with
    | .tup [_, v] => v
    | _ => .non) ++ [b]
  | _ => []
def subB (b : W) : List W := match b with
  | .tup bs => bs.map fun p => match p with
    | .tup [_, _, v] => v
    | _ => .non
  | _ => []
def subsW (l : List W) : List W := match l with
  | [.str z, a, b] => if z = "fun" then [b] else if z = "letall" then subA a b else if z = "by" then subB b else []
  | [.str z, _, b, c] => if z = "let" ∨ z = "now" then [b, c] else []
  | _ => []
theorem isTwo {z : Str} (h : z ∈ twos) : z = "call" ∨ z = "sum" ∨ z = "minus" ∨ z = "less" ∨ z = "same" := by
  simpa [twos] using h
theorem subs_psn (ns : List Str) : ∀ ps : Ps, (pW ps).map (fun p => match p with
    | .tup [_, v] => v
    | _ => W.non) = (ps.subs ns).map fun p => tW p.1
  | .nil => rfl
  | .cons x e r => by
    show _ :: _ = _ :: _
    rw [subs_psn ns r]
theorem subs_ps (ps : Ps) : (pW ps).map (fun p => match p with
    | .tup [_, v] => v
    | _ => W.non) = (ps.subs ps.names).map fun p => tW p.1 := subs_psn _ ps
theorem subs_bs : ∀ bs : Bs, subB (.tup (bW bs)) = bs.subs.map fun p => tW p.1
  | .nil => rfl
  | .cons c ys e r => by
    show _ :: _ = _ :: _
    rw [← subs_bs r]
    rfl
/-- the tuple of a term: what lies in it -/
theorem subs_tW : ∀ (t : T), WF t → ∃ l, tW t = .tup l ∧ subsW l = (wn t).map fun p => tW p.1
  | .num n, _ => ⟨_, rfl, rfl⟩
  | .nam x, _ => ⟨_, rfl, rfl⟩
  | .fn x e, _ => ⟨_, rfl, rfl⟩
  | .two w x y, h => by
    refine ⟨_, rfl, ?_⟩
    rcases isTwo h.1 with rfl | rfl | rfl | rfl | rfl <;> rfl
  | .lt w x e b, h => by
    refine ⟨_, rfl, ?_⟩
    rcases h.1 with rfl | rfl <;> rfl
  | .all ps b, _ => by
    refine ⟨_, rfl, ?_⟩
    show subA (.tup (pW ps)) (tW b) = (ps.subs ps.names ++ [(b, ps.names)]).map fun p => tW p.1
    rw [List.map_append, ← subs_ps]
    rfl
  | .mk c xs, _ => ⟨_, rfl, rfl⟩
  | .by_ x bs, _ => by
    refine ⟨_, rfl, ?_⟩
    show subB (.tup (bW bs)) = _
    rw [subs_bs]
    rfl
theorem names_ok {xs : List Str} (hl : xs.length ≤ 3) (h : ∀ x ∈ xs, isNm x = true) : namesB (.tup (xs.map W.str)) = true := by
  show (tupB (.tup (xs.map W.str)) 0 3 && (xs.map W.str).all nameB) = true
  rw [Bool.and_eq_true]
  constructor
  · show (decide ((0 : Int) ≤ (xs.map W.str).length) && decide (((xs.map W.str).length : Int) ≤ 3)) = true
    rw [List.length_map, Bool.and_eq_true]
    exact ⟨decide_eq_true (by omega), decide_eq_true (by omega)⟩
  · rw [List.all_eq_true]
    intro w hw
    obtain ⟨x, hx, rfl⟩ := List.mem_map.mp hw
    exact h x hx
theorem names_of {x : W} (h : namesB x = true) : ∃ xs : List Str, x = .tup (xs.map W.str) ∧ xs.length ≤ 3 ∧ ∀ x ∈ xs, isNm x = true := by
  cases x with
  | tup m =>
    have h : (tupB (.tup m) 0 3 && m.all nameB) = true := h
    rw [Bool.and_eq_true] at h
    have h3 : (decide ((0 : Int) ≤ m.length) && decide ((m.length : Int) ≤ 3)) = true := h.1
    rw [Bool.and_eq_true] at h3
    have hl := of_decide_eq_true h3.2
    refine ⟨m.map strS, by rw [← strs_of h.2], by rw [List.length_map]; omega, fun x hx => ?_⟩
    obtain ⟨w, hw, rfl⟩ := List.mem_map.mp hx
    have := List.all_eq_true.mp h.2 w hw
    cases w with
    | str z => exact this
    | _ => cases this
  | _ => cases h
theorem strS_map (xs : List Str) : (xs.map W.str).map strS = xs := by
  rw [List.map_map]
  exact List.map_id'' (fun _ => rfl) xs
theorem pW_len : ∀ ps : Ps, (pW ps).length = ps.names.length
  | .nil => rfl
  | .cons x e r => by
    show _ + 1 = _ + 1
    rw [pW_len r]
theorem pW_fst : ∀ ps : Ps, (pW ps).map fstS = ps.names
  | .nil => rfl
  | .cons x e r => by
    show _ :: _ = _ :: _
    rw [pW_fst r]
    rfl
theorem bW_len : ∀ bs : Bs, (bW bs).length = (headsB bs).length
  | .nil => rfl
  | .cons c ys e r => by
    show _ + 1 = _ + 1
    rw [bW_len r]
theorem bW_fst : ∀ bs : Bs, (bW bs).map fstS = headsB bs
  | .nil => rfl
  | .cons c ys e r => by
    show _ :: _ = _ :: _
    rw [bW_fst r]
    rfl
theorem worth_ok {t : T} (h : worthT t) : worthB (tW t) = true := by
  cases t <;> first | exact h.elim | rfl
theorem pairs_ok : ∀ ps : Ps, WFp ps → (pW ps).all pairB = true
  | .nil, _ => rfl
  | .cons x e r, h => by
    show ((isNm x && worthB (tW e)) && (pW r).all pairB) = true
    rw [h.1, worth_ok h.2.1, pairs_ok r h.2.2.2]
    rfl
theorem branches_ok : ∀ bs : Bs, WFb bs → (bW bs).all branchB = true
  | .nil, _ => rfl
  | .cons c ys e r, h => by
    show ((isNm c && (namesB (.tup (ys.map W.str)) && decide (((ys.map W.str).map strS).Nodup))) && (bW r).all branchB) = true
    rw [h.1, names_ok h.2.1.1 h.2.1.2.2, strS_map, decide_eq_true h.2.1.2.1, branches_ok r h.2.2.2]
    rfl
theorem tup_ok {l : List W} {n : Nat} (h : l.length = n) (h1 : 1 ≤ n) (h6 : n ≤ 6) : tupB (.tup l) 1 6 = true := by
  show (decide ((1 : Int) ≤ l.length) && decide ((l.length : Int) ≤ 6)) = true
  rw [Bool.and_eq_true]
  exact ⟨decide_eq_true (by omega), decide_eq_true (by omega)⟩
theorem shaped_tW : ∀ (t : T), WF t → shapedB (tW t) = true
  | .num n, h => by
    show (decide _ && decide _) = true
    rw [Bool.and_eq_true]
    exact ⟨decide_eq_true h.1, decide_eq_true h.2⟩
  | .nam x, h => h
  | .fn x e, h => h.1
  | .two w x y, h => by
    have e : (isNm x && isNm y) = true := by rw [h.2.1, h.2.2]; rfl
    rcases isTwo h.1 with rfl | rfl | rfl | rfl | rfl <;> exact e
  | .lt w x e b, h => by
    rcases h.1 with rfl | rfl <;> exact h.2.1
  | .all ps b, h => by
    show (tupB (.tup (pW ps)) 1 6 && ((pW ps).all pairB && decide (((pW ps).map fstS).Nodup))) = true
    rw [tup_ok (pW_len ps) h.1.1 h.1.2, pairs_ok ps h.2.2.1, pW_fst, decide_eq_true h.2.1]
    rfl
  | .mk c xs, h => by
    show (isNm c && namesB (.tup (xs.map W.str))) = true
    rw [h.1, names_ok h.2.1 h.2.2]
    rfl
  | .by_ x bs, h => by
    show (isNm x && (tupB (.tup (bW bs)) 1 6 && ((bW bs).all branchB && decide (((bW bs).map fstS).Nodup)))) = true
    rw [h.1, tup_ok (bW_len bs) h.2.1.1 h.2.1.2, branches_ok bs h.2.2.2, bW_fst, decide_eq_true h.2.2.1]
    rfl
end EvT

set_option Elab.async false
set_option linter.all false
set_option maxRecDepth 100000
set_option maxHeartbeats 1000000
/-! Terms that are due: how many pieces, how deep. -/
namespace EvT
open PySem PySem.Spec PyProof.Rows L2 Ow Ev OwT
inductive Mx (B : Int) : List (W × Int) → Nat → Prop
  | nil : Mx B [] 0
  | cons {t : T} {d : Int} {L : List (W × Int)} {n : Nat} : WF t → d + deep t - 1 ≤ B → Mx B L n → Mx B ((tW t, d) :: L) (nodes t + n)
theorem Mx.app {B : Int} {C : List (W × Int)} {m : Nat} (k : Mx B C m) : ∀ {A : List (W × Int)} {n : Nat}, Mx B A n → Mx B (A ++ C) (n + m)
  | _, _, .nil => by rw [Nat.zero_add]; exact k
  | _, _, .cons a b c => by rw [Nat.add_assoc]; exact .cons a b (Mx.app k c)
theorem Mx.split {B : Int} {C : List (W × Int)} : ∀ {A : List (W × Int)} {n : Nat}, Mx B (A ++ C) n → ∃ a c, n = a + c ∧ Mx B A a ∧ Mx B C c
  | [], n, h => ⟨0, n, (Nat.zero_add n).symm, .nil, h⟩
  | (w, d) :: A, n, h => by
    cases h with
    | @cons t d L n a b c =>
      obtain ⟨x, y, e, p, q⟩ := Mx.split c
      exact ⟨nodes t + x, y, by rw [e, Nat.add_assoc], .cons a b p, q⟩
theorem Mx.rev {B : Int} : ∀ {A : List (W × Int)} {n : Nat}, Mx B A n → Mx B A.reverse n
  | _, _, .nil => .nil
  | _, _, .cons (t := t) (n := n) a b c => by
    rw [List.reverse_cons, Nat.add_comm]
    exact (Mx.app (.cons a b .nil) c.rev)
theorem Mx.unrev {B : Int} {A : List (W × Int)} {n : Nat} (h : Mx B A.reverse n) : Mx B A n := by
  have := h.rev
  rwa [List.reverse_reverse] at this
theorem Mx.one {B : Int} {w : W} {d : Int} {n : Nat} (h : Mx B [(w, d)] n) : ∃ t, w = tW t ∧ WF t ∧ d + deep t - 1 ≤ B ∧ n = nodes t := by
  cases h with
  | @cons t d L n a b c =>
    cases c
    exact ⟨t, rfl, a, b, rfl⟩
def due (d : Int) (l : List W) : List (W × Int) := l.map fun w => (w, d)
theorem nodes_pos : ∀ t : T, 1 ≤ nodes t
  | .num _ => Nat.le_refl _
  | .nam _ => Nat.le_refl _
  | .fn _ _ => Nat.le_add_right _ _
  | .two _ _ _ => Nat.le_refl _
  | .lt _ _ _ _ => Nat.le_trans (Nat.le_add_right _ _) (Nat.le_add_right _ _)
  | .all _ _ => Nat.le_trans (Nat.le_add_right _ _) (Nat.le_add_right _ _)
  | .mk _ _ => Nat.le_refl _
  | .by_ _ _ => Nat.le_add_right _ _
theorem deep_pos : ∀ t : T, 1 ≤ deep t
  | .num _ => Nat.le_refl _
  | .nam _ => Nat.le_refl _
  | .fn _ _ => Nat.le_add_right _ _
  | .two _ _ _ => Nat.le_refl _
  | .lt _ _ _ _ => Nat.le_add_right _ _
  | .all _ _ => Nat.le_add_right _ _
  | .mk _ _ => Nat.le_refl _
  | .by_ _ _ => Nat.le_add_right _ _
theorem mx_ps {B d : Int} (ns : List Str) : ∀ ps : Ps, WFp ps → d + deepPs ps - 1 ≤ B → Mx B (due d ((ps.subs ns).map fun p => tW p.1)) (nodesPs ps)
  | .nil, _, _ => .nil
  | .cons x e r, h, hb => by
    have e1 : deepPs (.cons x e r) = max (deep e) (deepPs r) := rfl
    rw [e1] at hb
    exact .cons (t := e) h.2.2.1 (by omega) (mx_ps ns r h.2.2.2 (by omega))
theorem mx_bs {B d : Int} : ∀ bs : Bs, WFb bs → d + deepBs bs - 1 ≤ B → Mx B (due d (bs.subs.map fun p => tW p.1)) (nodesBs bs)
  | .nil, _, _ => .nil
  | .cons c ys e r, h, hb => by
    have e1 : deepBs (.cons c ys e r) = max (deep e) (deepBs r) := rfl
    rw [e1] at hb
    exact .cons (t := e) h.2.2.1 (by omega) (mx_bs r h.2.2.2 (by omega))
/-- a term's parts are due -/
theorem mx_tW {B d : Int} : ∀ (t : T), WF t → d + deep t - 1 ≤ B → ∃ n, nodes t = 1 + n ∧ Mx B (due (d + 1) ((wn t).map fun p => tW p.1)) n
  | .num n, _, _ => ⟨0, rfl, .nil⟩
  | .nam x, _, _ => ⟨0, rfl, .nil⟩
  | .fn x e, h, hb => by
    have e1 : deep (.fn x e) = 1 + deep e := rfl
    rw [e1] at hb
    exact ⟨nodes e + 0, rfl, .cons (t := e) h.2 (by omega) .nil⟩
  | .two w x y, _, _ => ⟨0, rfl, .nil⟩
  | .lt w x e b, h, hb => by
    have e1 : deep (.lt w x e b) = 1 + max (deep e) (deep b) := rfl
    rw [e1] at hb
    exact ⟨nodes e + (nodes b + 0), by show 1 + nodes e + nodes b = _; omega, .cons (t := e) h.2.2.1 (by omega) (.cons (t := b) h.2.2.2 (by omega) .nil)⟩
  | .all ps b, h, hb => by
    have e1 : deep (.all ps b) = 1 + max (deepPs ps) (deep b) := rfl
    rw [e1] at hb
    refine ⟨nodesPs ps + (nodes b + 0), by show 1 + nodesPs ps + nodes b = _; omega, ?_⟩
    show Mx B (due (d + 1) ((ps.subs ps.names ++ [(b, ps.names)]).map fun p => tW p.1)) _
    unfold due
    rw [List.map_append, List.map_append]
    exact Mx.app (.cons (t := b) h.2.2.2 (by omega) .nil) (mx_ps _ ps h.2.2.1 (by omega))
  | .mk c xs, _, _ => ⟨0, rfl, .nil⟩
  | .by_ x bs, h, hb => by
    have e1 : deep (.by_ x bs) = 1 + deepBs bs := rfl
    rw [e1] at hb
    exact ⟨nodesBs bs, rfl, mx_bs bs h.2.2.2 (by omega)⟩
/-! ### what is shaped, and whose parts are terms, is a term -/
theorem worth_word {z : Str} {r : List W} (h : worthB (.tup (.str z :: r)) = true) : z = "fun" ∨ z = "made" := by
  have h : (decide (z = "fun") || decide (z = "made")) = true := h
  rw [Bool.or_eq_true] at h
  rcases h with h | h
  · exact .inl (of_decide_eq_true h)
  · exact .inr (of_decide_eq_true h)
theorem worth_of : ∀ {t : T}, WF t → worthB (tW t) = true → worthT t
  | .fn _ _, _, _ => trivial
  | .mk _ _, _, _ => trivial
  | .num _, _, h => by
    rcases worth_word h with e | e <;> exact absurd e (by decide)
  | .nam _, _, h => by
    rcases worth_word h with e | e <;> exact absurd e (by decide)
  | .two w _ _, f, h => by
    rcases isTwo f.1 with rfl | rfl | rfl | rfl | rfl <;> rcases worth_word h with e | e <;> exact absurd e (by decide)
  | .lt w _ _ _, f, h => by
    rcases f.1 with rfl | rfl <;> rcases worth_word h with e | e <;> exact absurd e (by decide)
  | .all _ _, _, h => by
    rcases worth_word h with e | e <;> exact absurd e (by decide)
  | .by_ _ _, _, h => by
    rcases worth_word h with e | e <;> exact absurd e (by decide)
theorem ps_of {B d : Int} : ∀ (ps : List W) (n : Nat), ps.all pairB = true → Mx B (due d (ps.map fun p => match p with
    | .tup [_, v] => v
    | _ => W.non)) n → ∃ P : Ps, ps = pW P ∧ WFp P ∧ nodesPs P = n ∧ (d - 1 ≤ B → d + deepPs P - 1 ≤ B)
  | [], n, _, h => by
    cases h
    exact ⟨.nil, rfl, trivial, rfl, fun h => by
      have e : ((deepPs .nil : Nat) : Int) = 0 := rfl
      omega⟩
  | p :: ps, n, ha, h => by
    rw [List.all_cons, Bool.and_eq_true] at ha
    obtain ⟨hp, hps⟩ := ha
    unfold pairB at hp
    split at hp
    · rename_i x v
      rw [Bool.and_eq_true] at hp
      cases x with
      | str z =>
        generalize hw : due d _ = L at h
        cases h with
        | nil => cases hw
        | @cons t d' L n a b c =>
          obtain ⟨e1, e2⟩ := List.cons.inj hw
          obtain ⟨ev, ed⟩ := Prod.mk.inj e1
          have ev : v = tW t := ev
          have ed : d = d' := ed
          subst ed
          subst ev
          rw [← e2] at c
          obtain ⟨P, q1, q2, q3, q4⟩ := ps_of ps n hps c
          refine ⟨.cons z t P, by rw [q1]; rfl, ⟨hp.1, worth_of a hp.2, a, q2⟩, by rw [← q3]; rfl, fun hd => ?_⟩
          have := q4 hd
          have e1 : deepPs (.cons z t P) = max (deep t) (deepPs P) := rfl
          rw [e1]
          omega
      | _ => cases hp.1
    · cases hp
theorem bs_of {B d : Int} : ∀ (bs : List W) (n : Nat), bs.all branchB = true → Mx B (due d (subB (.tup bs))) n → ∃ P : Bs, bs = bW P ∧ WFb P ∧ nodesBs P = n ∧ (d - 1 ≤ B → d + deepBs P - 1 ≤ B)
  | [], n, _, h => by
    cases h
    exact ⟨.nil, rfl, trivial, rfl, fun h => by
      have e : ((deepBs .nil : Nat) : Int) = 0 := rfl
      omega⟩
  | p :: bs, n, ha, h => by
    rw [List.all_cons, Bool.and_eq_true] at ha
    obtain ⟨hp, hps⟩ := ha
    unfold branchB at hp
    split at hp
    · rename_i x ns v
      rw [Bool.and_eq_true, Bool.and_eq_true] at hp
      cases x with
      | str z =>
        obtain ⟨ys, rfl, hy1, hy2⟩ := names_of hp.2.1
        have hy3 : ys.Nodup := by
          have : decide (((ys.map W.str).map strS).Nodup) = true := hp.2.2
          rw [strS_map] at this
          exact of_decide_eq_true this
        generalize hw : due d _ = L at h
        cases h with
        | nil => cases hw
        | @cons t d' L n a b c =>
          obtain ⟨e1, e2⟩ := List.cons.inj hw
          obtain ⟨ev, ed⟩ := Prod.mk.inj e1
          have ev : v = tW t := ev
          have ed : d = d' := ed
          subst ed
          subst ev
          rw [← e2] at c
          obtain ⟨P, q1, q2, q3, q4⟩ := bs_of bs n hps c
          refine ⟨.cons z ys t P, by rw [q1]; rfl, ⟨hp.1, ⟨hy1, hy3, hy2⟩, a, q2⟩, by rw [← q3]; rfl, fun hd => ?_⟩
          have := q4 hd
          have e1 : deepBs (.cons z ys t P) = max (deep t) (deepBs P) := rfl
          rw [e1]
          omega
      | _ => cases hp.1
    · cases hp
end EvT

set_option Elab.async false
set_option linter.all false
set_option maxRecDepth 100000
set_option maxHeartbeats 1000000
namespace EvT
open PySem PySem.Spec PyProof.Rows L2 Ow Ev OwT
theorem kind_cases {z : Str} {g : List W → Bool} (h : kindOf z = some g) : (z = "num" ∧ g = numB) ∨ (z = "name" ∧ g = askB) ∨ (z = "fun" ∧ g = funB) ∨ (z ∈ twos ∧ g = twoB) ∨ ((z = "let" ∨ z = "now") ∧ g = putB) ∨ (z = "letall" ∧ g = letallB) ∨ (z = "made" ∧ g = madeB) ∨ (z = "by" ∧ g = byB) := by
  unfold kindOf at h
  by_cases c : z = "num"
  · rw [if_pos c] at h
    exact .inl ⟨c, (Option.some.inj h).symm⟩
  rw [if_neg c] at h
  clear c
  by_cases c : z = "name"
  · rw [if_pos c] at h
    exact .inr (.inl ⟨c, (Option.some.inj h).symm⟩)
  rw [if_neg c] at h
  clear c
  by_cases c : z = "fun"
  · rw [if_pos c] at h
    exact .inr (.inr (.inl ⟨c, (Option.some.inj h).symm⟩))
  rw [if_neg c] at h
  clear c
  by_cases c : z = "call"
  · rw [if_pos c] at h
    exact .inr (.inr (.inr (.inl ⟨by rw [c]; decide, (Option.some.inj h).symm⟩)))
  rw [if_neg c] at h
  clear c
  by_cases c : z = "let"
  · rw [if_pos c] at h
    exact .inr (.inr (.inr (.inr (.inl ⟨.inl c, (Option.some.inj h).symm⟩))))
  rw [if_neg c] at h
  clear c
  by_cases c : z = "now"
  · rw [if_pos c] at h
    exact .inr (.inr (.inr (.inr (.inl ⟨.inr c, (Option.some.inj h).symm⟩))))
  rw [if_neg c] at h
  clear c
  by_cases c : z = "letall"
  · rw [if_pos c] at h
    exact .inr (.inr (.inr (.inr (.inr (.inl ⟨c, (Option.some.inj h).symm⟩)))))
  rw [if_neg c] at h
  clear c
  by_cases c : z = "made"
  · rw [if_pos c] at h
    exact .inr (.inr (.inr (.inr (.inr (.inr (.inl ⟨c, (Option.some.inj h).symm⟩))))))
  rw [if_neg c] at h
  clear c
  by_cases c : z = "by"
  · rw [if_pos c] at h
    exact .inr (.inr (.inr (.inr (.inr (.inr (.inr (⟨c, (Option.some.inj h).symm⟩)))))))
  rw [if_neg c] at h
  clear c
  by_cases c : z = "sum"
  · rw [if_pos c] at h
    exact .inr (.inr (.inr (.inl ⟨by rw [c]; decide, (Option.some.inj h).symm⟩)))
  rw [if_neg c] at h
  clear c
  by_cases c : z = "minus"
  · rw [if_pos c] at h
    exact .inr (.inr (.inr (.inl ⟨by rw [c]; decide, (Option.some.inj h).symm⟩)))
  rw [if_neg c] at h
  clear c
  by_cases c : z = "less"
  · rw [if_pos c] at h
    exact .inr (.inr (.inr (.inl ⟨by rw [c]; decide, (Option.some.inj h).symm⟩)))
  rw [if_neg c] at h
  clear c
  by_cases c : z = "same"
  · rw [if_pos c] at h
    exact .inr (.inr (.inr (.inl ⟨by rw [c]; decide, (Option.some.inj h).symm⟩)))
  rw [if_neg c] at h
  clear c
  cases h
theorem name_of {x : W} (h : nameB x = true) : ∃ z, x = .str z ∧ isNm z = true := by
  cases x <;> first | exact ⟨_, rfl, h⟩ | cases h
theorem tup1_6 {x : W} (h : tupB x 1 6 = true) : ∃ m, x = .tup m ∧ 1 ≤ m.length ∧ m.length ≤ 6 := by
  cases x with
  | tup l =>
    have h : (decide ((1 : Int) ≤ l.length) && decide ((l.length : Int) ≤ 6)) = true := h
    rw [Bool.and_eq_true] at h
    exact ⟨l, rfl, by have := of_decide_eq_true h.1; omega, by have := of_decide_eq_true h.2; omega⟩
  | _ => cases h
theorem num_inv {l : List W} (h : numB l = true) : ∃ a i, l = [a, .int i] ∧ -(10 ^ 18) ≤ i ∧ i ≤ 10 ^ 18 := by
  unfold numB at h
  split at h
  · rename_i a x
    cases x with
    | int i =>
      have h : (decide (-(10 ^ 18) ≤ i) && decide (i ≤ 10 ^ 18)) = true := h
      rw [Bool.and_eq_true] at h
      exact ⟨a, i, rfl, of_decide_eq_true h.1, of_decide_eq_true h.2⟩
    | _ => cases h
  · cases h
theorem ask_inv {l : List W} (h : askB l = true) : ∃ a x, l = [a, .str x] ∧ isNm x = true := by
  unfold askB at h
  split at h
  · obtain ⟨y, rfl, hy⟩ := name_of h
    exact ⟨_, y, rfl, hy⟩
  · cases h
theorem fun_inv {l : List W} (h : funB l = true) : ∃ a x v, l = [a, .str x, v] ∧ isNm x = true := by
  unfold funB at h
  split at h
  · obtain ⟨y, rfl, hy⟩ := name_of h
    exact ⟨_, y, _, rfl, hy⟩
  · cases h
theorem two_inv {l : List W} (h : twoB l = true) : ∃ a x y, l = [a, .str x, .str y] ∧ isNm x = true ∧ isNm y = true := by
  unfold twoB at h
  split at h
  · rw [Bool.and_eq_true] at h
    obtain ⟨y, rfl, hy⟩ := name_of h.1
    obtain ⟨u, rfl, hu⟩ := name_of h.2
    exact ⟨_, y, u, rfl, hy, hu⟩
  · cases h
theorem put_inv {l : List W} (h : putB l = true) : ∃ a x v u, l = [a, .str x, v, u] ∧ isNm x = true := by
  unfold putB at h
  split at h
  · obtain ⟨y, rfl, hy⟩ := name_of h
    exact ⟨_, y, _, _, rfl, hy⟩
  · cases h
theorem letall_inv {l : List W} (h : letallB l = true) : ∃ a ps v, l = [a, .tup ps, v] ∧ (1 ≤ ps.length ∧ ps.length ≤ 6) ∧ ps.all pairB = true ∧ (ps.map fstS).Nodup := by
  unfold letallB at h
  split at h
  · rename_i a x v
    rw [Bool.and_eq_true] at h
    obtain ⟨ps, rfl, p1, p6⟩ := tup1_6 h.1
    have h2 : (ps.all pairB && decide ((ps.map fstS).Nodup)) = true := h.2
    rw [Bool.and_eq_true] at h2
    exact ⟨a, ps, v, rfl, ⟨p1, p6⟩, h2.1, of_decide_eq_true h2.2⟩
  · cases h
theorem made_inv {l : List W} (h : madeB l = true) : ∃ (a : W) (x : Str) (xs : List Str), l = [a, .str x, .tup (xs.map W.str)] ∧ isNm x = true ∧ xs.length ≤ 3 ∧ ∀ x ∈ xs, isNm x = true := by
  unfold madeB at h
  split at h
  · rw [Bool.and_eq_true] at h
    obtain ⟨y, rfl, hy⟩ := name_of h.1
    obtain ⟨xs, rfl, h1, h2⟩ := names_of h.2
    exact ⟨_, y, xs, rfl, hy, h1, h2⟩
  · cases h
theorem by_inv {l : List W} (h : byB l = true) : ∃ a x bs, l = [a, .str x, .tup bs] ∧ isNm x = true ∧ (1 ≤ bs.length ∧ bs.length ≤ 6) ∧ bs.all branchB = true ∧ (bs.map fstS).Nodup := by
  unfold byB at h
  split at h
  · rename_i a n x
    rw [Bool.and_eq_true, Bool.and_eq_true] at h
    obtain ⟨y, rfl, hy⟩ := name_of h.1
    obtain ⟨ps, rfl, p1, p6⟩ := tup1_6 h.2.1
    have h2 : (ps.all branchB && decide ((ps.map fstS).Nodup)) = true := h.2.2
    rw [Bool.and_eq_true] at h2
    exact ⟨a, y, ps, rfl, hy, ⟨p1, p6⟩, h2.1, of_decide_eq_true h2.2⟩
  · cases h
theorem shaped_inv {l : List W} (h : shapedB (.tup l) = true) : ∃ z r g, l = .str z :: r ∧ kindOf z = some g ∧ g l = true := by
  cases l with
  | nil => cases h
  | cons w r =>
    cases w with
    | str z =>
      have h : (match kindOf z with
        | some g => g (.str z :: r)
        | none => false) = true := h
      cases hk : kindOf z with
      | none => rw [hk] at h; cases h
      | some g =>
        rw [hk] at h
        exact ⟨z, r, g, rfl, hk, h⟩
    | _ => cases h
theorem sound {B d : Int} {x : W} {l : List W} {n : Nat} (hx : x = .tup l) (hs : shapedB x = true) (hd : d ≤ B) (h : Mx B (due (d + 1) (subsW l)) n) : ∃ t, x = tW t ∧ WF t ∧ nodes t = 1 + n ∧ d + deep t - 1 ≤ B := by
  subst hx
  obtain ⟨z, r, g, el, hk, hg⟩ := shaped_inv hs
  rcases kind_cases hk with ⟨rfl, rfl⟩ | ⟨rfl, rfl⟩ | ⟨rfl, rfl⟩ | ⟨tw, rfl⟩ | ⟨lt, rfl⟩ | ⟨rfl, rfl⟩ | ⟨rfl, rfl⟩ | ⟨rfl, rfl⟩
  · obtain ⟨a, i, rfl, h1, h2⟩ := num_inv hg
    cases el
    cases h
    exact ⟨.num i, rfl, ⟨h1, h2⟩, rfl, by show d + (1 : Nat) - 1 ≤ B; omega⟩
  · obtain ⟨a, y, rfl, hy⟩ := ask_inv hg
    cases el
    cases h
    exact ⟨.nam y, rfl, hy, rfl, by show d + (1 : Nat) - 1 ≤ B; omega⟩
  · obtain ⟨a, y, v, rfl, hy⟩ := fun_inv hg
    cases el
    obtain ⟨t, rfl, w, b, rfl⟩ := Mx.one h
    exact ⟨.fn y t, rfl, ⟨hy, w⟩, rfl, by show d + (1 + deep t : Nat) - 1 ≤ B; omega⟩
  · obtain ⟨a, y, u, rfl, hy, hu⟩ := two_inv hg
    cases el
    have e : subsW [W.str z, .str y, .str u] = [] := by
      rcases isTwo tw with rfl | rfl | rfl | rfl | rfl <;> rfl
    rw [e] at h
    cases h
    exact ⟨.two z y u, rfl, ⟨tw, hy, hu⟩, rfl, by show d + (1 : Nat) - 1 ≤ B; omega⟩
  · obtain ⟨a, y, v, u, rfl, hy⟩ := put_inv hg
    cases el
    have e : subsW [W.str z, .str y, v, u] = [v, u] := if_pos lt
    rw [e] at h
    obtain ⟨a, c, rfl, h1, h2⟩ := Mx.split (A := [(v, d + 1)]) h
    obtain ⟨t, rfl, w1, b1, rfl⟩ := Mx.one h1
    obtain ⟨s, rfl, w2, b2, rfl⟩ := Mx.one h2
    exact ⟨.lt z y t s, rfl, ⟨lt, hy, w1, w2⟩, by show 1 + nodes t + nodes s = _; omega, by show d + (1 + max (deep t) (deep s) : Nat) - 1 ≤ B; omega⟩
  · obtain ⟨a, ps, v, rfl, ⟨p1, p6⟩, ha, hn⟩ := letall_inv hg
    cases el
    have e : due (d + 1) (subsW [W.str "letall", .tup ps, v]) = due (d + 1) (ps.map fun p => match p with
        | .tup [_, v] => v
        | _ => W.non) ++ [(v, d + 1)] := by
      show due (d + 1) (ps.map _ ++ [v]) = _
      unfold due
      rw [List.map_append]
      rfl
    rw [e] at h
    obtain ⟨a, c, rfl, h1, h2⟩ := Mx.split h
    obtain ⟨s, rfl, w2, b2, rfl⟩ := Mx.one h2
    obtain ⟨P, rfl, q2, rfl, q4⟩ := ps_of ps a ha h1
    have q5 := q4 (by omega)
    rw [pW_len] at p1 p6
    rw [pW_fst] at hn
    exact ⟨.all P s, rfl, ⟨⟨p1, p6⟩, hn, q2, w2⟩, by show 1 + nodesPs P + nodes s = _; omega, by show d + (1 + max (deepPs P) (deep s) : Nat) - 1 ≤ B; omega⟩
  · obtain ⟨a, y, xs, rfl, hy, h1, h2⟩ := made_inv hg
    cases el
    cases h
    exact ⟨.mk y xs, rfl, ⟨hy, h1, h2⟩, rfl, by show d + (1 : Nat) - 1 ≤ B; omega⟩
  · obtain ⟨a, y, bs, rfl, hy, ⟨p1, p6⟩, ha, hn⟩ := by_inv hg
    cases el
    have h : Mx B (due (d + 1) (subB (.tup bs))) n := h
    obtain ⟨P, rfl, q2, rfl, q4⟩ := bs_of bs n ha h
    have q5 := q4 (by omega)
    rw [bW_len] at p1 p6
    rw [bW_fst] at hn
    exact ⟨.by_ y P, rfl, ⟨hy, ⟨p1, p6⟩, hn, q2⟩, rfl, by show d + (1 + deepBs P : Nat) - 1 ≤ B; omega⟩
end EvT

set_option Elab.async false
set_option linter.all false
set_option maxRecDepth 100000
set_option maxHeartbeats 1000000
namespace EvT
open PySem PySem.Spec PyProof.Rows L2 Ow Ev OwT
/-- what within tells -/
def namesW (ps : List W) : W := .tup ((ps.map fstS).map W.str)
def secW (p : W) : W := match p with
  | .tup [_, v] => v
  | _ => .non
def brW (p : W) : W := match p with
  | .tup [_, ns, v] => .tup [v, ns]
  | _ => .non
def insA (a b : W) : List W := match a with
  | .tup ps => ps.map (fun p => .tup [secW p, namesW ps]) ++ [.tup [b, namesW ps]]
  | _ => []
def insB (b : W) : List W := match b with
  | .tup bs => bs.map brW
  | _ => []
def insW (l : List W) : List W := match l with
  | [.str z, a, b] => if z = "fun" then [.tup [b, .tup [a]]] else if z = "letall" then insA a b else if z = "by" then insB b else []
  | [.str z, a, b, c] => if z = "let" ∨ z = "now" then [.tup [b, .tup []], .tup [c, .tup [a]]] else []
  | _ => []
def WithinC : Con := ⟨List W, fun l ws S => ws = [.tup l] ∧ shapedB (.tup l) = true ∧ dat S (.tup l), fun l S w S' => ∃ n, w = .ref n ∧ Ex S S' ∧ S.length ≤ n ∧ S'[n]? = some (.lst (insW l))⟩
theorem pair_two {p : W} (h : pairB p = true) : ∃ z v, p = .tup [.str z, v] := by
  unfold pairB at h
  split at h
  · rename_i n v
    rw [Bool.and_eq_true] at h
    cases n with
    | str z => exact ⟨z, v, rfl⟩
    | _ => cases h.1
  · cases h
theorem branch_three {p : W} (h : branchB p = true) : ∃ (z : Str) (ys : List Str) (v : W), p = .tup [.str z, .tup (ys.map W.str), v] := by
  unfold branchB at h
  split at h
  · rename_i n ns v
    rw [Bool.and_eq_true, Bool.and_eq_true] at h
    obtain ⟨ys, rfl, _, _⟩ := names_of h.2.1
    cases n with
    | str z => exact ⟨z, ys, v, rfl⟩
    | _ => cases h.1
  · cases h
theorem add_lst {S : Store} {m n : Nat} {a b : List W} {Q : WK} (ha : S[m]? = some (.lst a)) (hb : S[n]? = some (.lst b)) (hl : a.length + b.length ≤ sizeLine) (q : Q (.ref S.length) (S ++ [.lst (a ++ b)])) : wAdd (.ref m) (.ref n) S Q := by
  show o2 S[m]? S[n]? fun a b => a.length + b.length ≤ sizeLine ∧ Q (.ref S.length) (S ++ [.lst (a ++ b)])
  rw [ha, hb]
  exact ⟨hl, q⟩
section
variable {S : Store} {D : MD} {z : Str} {r l : List W}
theorem within_else (n1 : z ≠ "fun") (n2 : z ≠ "let") (n3 : z ≠ "now") (n4 : z ≠ "letall") (n5 : z ≠ "by") (k : ∀ n S', Ex S S' → S.length ≤ n → S'[n]? = some (.lst []) → D.rt (.ref n) S') : m_within D [some (.tup (.str z :: r)), none, none, none, none] S := by
  unfold m_within
  simp only [mSeq, mIfS, mRet, mRetN, mAsg, mDrop, mTest, mBin, mChain, mTru, mAnd, mOr, mNot, mAndV, mOrV, mNotV, mIf, mVar, mC, mCons, mNil, mTup, mLst, mCB, mgName, mNext, mIt, mPar, mAug, lk, wLen_tup, wLe_int, wLt_int, wGt_int, wEq_int, wNe_int, wEq_str, wNe_str, wIx_tup, wAt0, wAt1, wAt2, wAt3, oW_s, tru_bl, List.set]
  refine ifB (fun e => absurd (of_decide_eq_true e) n1) fun _ => ?_
  refine ⟨by show 2 ≤ sizeLine; decide, wIn_str2 ?_⟩
  simp only [mSeq, mIfS, mRet, mRetN, mAsg, mDrop, mTest, mBin, mChain, mTru, mAnd, mOr, mNot, mAndV, mOrV, mNotV, mIf, mVar, mC, mCons, mNil, mTup, mLst, mCB, mgName, mNext, mIt, mPar, mAug, lk, wLen_tup, wLe_int, wLt_int, wGt_int, wEq_int, wNe_int, wEq_str, wNe_str, wIx_tup, wAt0, wAt1, wAt2, wAt3, oW_s, tru_bl, List.set]
  refine ifB (fun e => ?_) fun _ => ?_
  · rw [Bool.or_eq_true] at e
    exact e.elim (fun e => absurd (of_decide_eq_true e) n2) fun e => absurd (of_decide_eq_true e) n3
  refine ifB (fun e => absurd (of_decide_eq_true e) n4) fun _ => ?_
  refine ifB (fun e => absurd (of_decide_eq_true e) n5) fun _ => ?_
  exact ⟨Nat.zero_le _, k _ _ Ex.one (Nat.le_refl _) (new_at S _)⟩
theorem two_ne (h : z ∈ twos) : z ≠ "fun" ∧ z ≠ "let" ∧ z ≠ "now" ∧ z ≠ "letall" ∧ z ≠ "by" := by
  rcases isTwo h with rfl | rfl | rfl | rfl | rfl <;> decide
theorem small {n : Nat} (h : n ≤ 100) : n ≤ sizeLine := Nat.le_trans h (by decide)
theorem vc_within (hs : shapedB (.tup l) = true) (hd : dat S (.tup l)) (k : ∀ n S', Ex S S' → S.length ≤ n → S'[n]? = some (.lst (insW l)) → D.rt (.ref n) S') : m_within D [some (.tup l), none, none, none, none] S := by
  obtain ⟨z, r, g, el, hk, hg⟩ := shaped_inv hs
  rcases kind_cases hk with ⟨rfl, rfl⟩ | ⟨rfl, rfl⟩ | ⟨rfl, rfl⟩ | ⟨tw, rfl⟩ | ⟨lt, rfl⟩ | ⟨rfl, rfl⟩ | ⟨rfl, rfl⟩ | ⟨rfl, rfl⟩
  · obtain ⟨a, i, rfl, h1, h2⟩ := num_inv hg
    cases el
    exact within_else (by decide) (by decide) (by decide) (by decide) (by decide) k
  · obtain ⟨a, y, rfl, hy⟩ := ask_inv hg
    cases el
    exact within_else (by decide) (by decide) (by decide) (by decide) (by decide) k
  · obtain ⟨a, y, v, rfl, hy⟩ := fun_inv hg
    cases el
    unfold m_within
    simp only [mSeq, mIfS, mRet, mRetN, mAsg, mDrop, mTest, mBin, mChain, mTru, mAnd, mOr, mNot, mAndV, mOrV, mNotV, mIf, mVar, mC, mCons, mNil, mTup, mLst, mCB, mgName, mNext, mIt, mPar, mAug, lk, wLen_tup, wLe_int, wLt_int, wGt_int, wEq_int, wNe_int, wEq_str, wNe_str, wIx_tup, wAt0, wAt1, wAt2, wAt3, oW_s, tru_bl, List.set]
    refine ifB (fun _ => ?_) fun e => absurd e (by decide)
    exact ⟨by show 1 ≤ sizeLine; decide, by show 2 ≤ sizeLine; decide, by show 1 ≤ sizeLine; decide, k _ _ Ex.one (Nat.le_refl _) (new_at S _)⟩
  · obtain ⟨a, y, u, rfl, hy, hu⟩ := two_inv hg
    cases el
    have n := two_ne tw
    refine within_else n.1 n.2.1 n.2.2.1 n.2.2.2.1 n.2.2.2.2 fun m S' h1 h2 h3 => k m S' h1 h2 ?_
    rw [h3]
    rcases isTwo tw with rfl | rfl | rfl | rfl | rfl <;> rfl
  · obtain ⟨a, y, v, u, rfl, hy⟩ := put_inv hg
    cases el
    have n1 : z ≠ "fun" := by rcases lt with rfl | rfl <;> decide
    unfold m_within
    simp only [mSeq, mIfS, mRet, mRetN, mAsg, mDrop, mTest, mBin, mChain, mTru, mAnd, mOr, mNot, mAndV, mOrV, mNotV, mIf, mVar, mC, mCons, mNil, mTup, mLst, mCB, mgName, mNext, mIt, mPar, mAug, lk, wLen_tup, wLe_int, wLt_int, wGt_int, wEq_int, wNe_int, wEq_str, wNe_str, wIx_tup, wAt0, wAt1, wAt2, wAt3, oW_s, tru_bl, List.set]
    refine ifB (fun e => absurd (of_decide_eq_true e) n1) fun _ => ?_
    refine ⟨by show 2 ≤ sizeLine; decide, wIn_str2 ?_⟩
    simp only [mSeq, mIfS, mRet, mRetN, mAsg, mDrop, mTest, mBin, mChain, mTru, mAnd, mOr, mNot, mAndV, mOrV, mNotV, mIf, mVar, mC, mCons, mNil, mTup, mLst, mCB, mgName, mNext, mIt, mPar, mAug, lk, wLen_tup, wLe_int, wLt_int, wGt_int, wEq_int, wNe_int, wEq_str, wNe_str, wIx_tup, wAt0, wAt1, wAt2, wAt3, oW_s, tru_bl, List.set]
    refine ifB (fun _ => ?_) fun e => ?_
    · refine ⟨by show 0 ≤ sizeLine; decide, by show 2 ≤ sizeLine; decide, by show 1 ≤ sizeLine; decide, by show 2 ≤ sizeLine; decide, by show 2 ≤ sizeLine; decide, k _ _ Ex.one (Nat.le_refl _) ?_⟩
      have e : insW [W.str z, .str y, v, u] = [.tup [v, .tup []], .tup [u, .tup [.str y]]] := if_pos lt
      rw [e]
      exact new_at S _
    · rcases lt with rfl | rfl <;> exact absurd e (by decide)
  · obtain ⟨a, ps, v, rfl, ⟨p1, p6⟩, ha, hn⟩ := letall_inv hg
    cases el
    unfold m_within
    simp only [mSeq, mIfS, mRet, mRetN, mAsg, mDrop, mTest, mBin, mChain, mTru, mAnd, mOr, mNot, mAndV, mOrV, mNotV, mIf, mVar, mC, mCons, mNil, mTup, mLst, mCB, mgName, mNext, mIt, mPar, mAug, lk, wLen_tup, wLe_int, wLt_int, wGt_int, wEq_int, wNe_int, wEq_str, wNe_str, wIx_tup, wAt0, wAt1, wAt2, wAt3, oW_s, tru_bl, List.set]
    refine ifB (fun e => absurd e (by decide)) fun _ => ?_
    refine ⟨by show 2 ≤ sizeLine; decide, wIn_str2 ?_⟩
    simp only [mSeq, mIfS, mRet, mRetN, mAsg, mDrop, mTest, mBin, mChain, mTru, mAnd, mOr, mNot, mAndV, mOrV, mNotV, mIf, mVar, mC, mCons, mNil, mTup, mLst, mCB, mgName, mNext, mIt, mPar, mAug, lk, wLen_tup, wLe_int, wLt_int, wGt_int, wEq_int, wNe_int, wEq_str, wNe_str, wIx_tup, wAt0, wAt1, wAt2, wAt3, oW_s, tru_bl, List.set]
    refine ifB (fun e => absurd e (by decide)) fun _ => ?_
    refine ifB (fun _ => ?_) fun e => absurd e (by decide)
    refine firsts_ok (ps := ps) (h0 := fun _ => rfl) (fun S3 R r => r) (small (by omega)) (fun p hp => pair_str (List.all_eq_true.mp ha p hp)) fun S1 h1 at1 => ?_
    show oL S1[S.length]? _
    rw [at1]
    simp only [oL]
    unfold mLc
    refine lcL_ex (S0 := S1) (fun _ => true) (fun w => .tup [secW w, namesW ps]) (fun w => [some (.tup [.str "letall", .tup ps, v]), some (.str "letall"), some (namesW ps), some w, none]) (fun _ _ => trivial) ps [] (by simpa using small (by omega)) (fun w _ S2 R r => ?_) (fun w _ S2 k _ z => z S2 Ex.refl) (fun w hw _ S2 k _ z => ?_) (fun S2 h2 => ?_) _ Ex.refl
    · exact r
    · obtain ⟨y, u, rfl⟩ := pair_two (List.all_eq_true.mp ha w hw)
      simp only [mSeq, mIfS, mRet, mRetN, mAsg, mDrop, mTest, mBin, mChain, mTru, mAnd, mOr, mNot, mAndV, mOrV, mNotV, mIf, mVar, mC, mCons, mNil, mTup, mLst, mCB, mgName, mNext, mIt, mPar, mAug, lk, wLen_tup, wLe_int, wLt_int, wGt_int, wEq_int, wNe_int, wEq_str, wNe_str, wIx_tup, wAt0, wAt1, wAt2, wAt3, oW_s, tru_bl, List.set]
      exact ⟨by show 2 ≤ sizeLine; decide, z S2 Ex.refl⟩
    · rw [filter_true, List.nil_append] at h2
      obtain ⟨h3, h4⟩ := h2.new
      refine ⟨by show 2 ≤ sizeLine; decide, by show 1 ≤ sizeLine; decide, ?_⟩
      refine add_lst (Ex.one.at h4) (new_at S2 _) (by rw [List.length_map]; exact small (by show ps.length + 1 ≤ 100; omega)) ?_
      refine k _ _ (((h1.trans h3).trans Ex.one).trans Ex.one) ?_ (new_at _ _)
      exact Nat.le_trans (h1.trans h3).len (by rw [List.length_append]; omega)
  · obtain ⟨a, y, xs, rfl, hy, h1, h2⟩ := made_inv hg
    cases el
    exact within_else (by decide) (by decide) (by decide) (by decide) (by decide) k
  · obtain ⟨a, y, bs, rfl, hy, ⟨p1, p6⟩, ha, hn⟩ := by_inv hg
    cases el
    unfold m_within
    simp only [mSeq, mIfS, mRet, mRetN, mAsg, mDrop, mTest, mBin, mChain, mTru, mAnd, mOr, mNot, mAndV, mOrV, mNotV, mIf, mVar, mC, mCons, mNil, mTup, mLst, mCB, mgName, mNext, mIt, mPar, mAug, lk, wLen_tup, wLe_int, wLt_int, wGt_int, wEq_int, wNe_int, wEq_str, wNe_str, wIx_tup, wAt0, wAt1, wAt2, wAt3, oW_s, tru_bl, List.set]
    refine ifB (fun e => absurd e (by decide)) fun _ => ?_
    refine ⟨by show 2 ≤ sizeLine; decide, wIn_str2 ?_⟩
    simp only [mSeq, mIfS, mRet, mRetN, mAsg, mDrop, mTest, mBin, mChain, mTru, mAnd, mOr, mNot, mAndV, mOrV, mNotV, mIf, mVar, mC, mCons, mNil, mTup, mLst, mCB, mgName, mNext, mIt, mPar, mAug, lk, wLen_tup, wLe_int, wLt_int, wGt_int, wEq_int, wNe_int, wEq_str, wNe_str, wIx_tup, wAt0, wAt1, wAt2, wAt3, oW_s, tru_bl, List.set]
    refine ifB (fun e => absurd e (by decide)) fun _ => ?_
    refine ifB (fun e => absurd e (by decide)) fun _ => ?_
    refine ifB (fun _ => ?_) fun e => absurd e (by decide)
    unfold mLc
    refine lcL_ex (S0 := S) (fun _ => true) brW (fun w => [some (.tup [.str "by", .str y, .tup bs]), some (.str "by"), none, none, some w]) (fun _ _ => trivial) bs [] (by simpa using small (by omega)) (fun w _ S2 R r => ?_) (fun w _ S2 k _ z => z S2 Ex.refl) (fun w hw _ S2 k _ z => ?_) (fun S2 h2 => ?_) _ Ex.refl
    · exact r
    · obtain ⟨y, ys, u, rfl⟩ := branch_three (List.all_eq_true.mp ha w hw)
      simp only [mSeq, mIfS, mRet, mRetN, mAsg, mDrop, mTest, mBin, mChain, mTru, mAnd, mOr, mNot, mAndV, mOrV, mNotV, mIf, mVar, mC, mCons, mNil, mTup, mLst, mCB, mgName, mNext, mIt, mPar, mAug, lk, wLen_tup, wLe_int, wLt_int, wGt_int, wEq_int, wNe_int, wEq_str, wNe_str, wIx_tup, wAt0, wAt1, wAt2, wAt3, oW_s, tru_bl, List.set]
      exact ⟨by show 2 ≤ sizeLine; decide, z S2 Ex.refl⟩
    · rw [filter_true, List.nil_append] at h2
      obtain ⟨h3, h4⟩ := h2.new
      exact k _ _ h3 (Nat.le_refl _) h4
end
end EvT

set_option Elab.async false
set_option linter.all false
set_option maxRecDepth 100000
set_option maxHeartbeats 1000000
namespace EvT
open PySem PySem.Spec PyProof.Rows L2 Ow Ev OwT
def firstW (p : W) : W := match p with
  | .tup (s :: _) => s
  | _ => .non
structure InsOk (S : Store) (l : List W) : Prop where
  form : ∀ x ∈ insW l, ∃ s ns, x = .tup [s, ns]
  subs : (insW l).map firstW = subsW l
  few : (insW l).length ≤ 7
  dat : ∀ s ∈ subsW l, dat S s
theorem ins_ok {S : Store} {l : List W} (hs : shapedB (.tup l) = true) (hd : dat S (.tup l)) : InsOk S l := by
  obtain ⟨z, r, g, el, hk, hg⟩ := shaped_inv hs
  rcases kind_cases hk with ⟨rfl, rfl⟩ | ⟨rfl, rfl⟩ | ⟨rfl, rfl⟩ | ⟨tw, rfl⟩ | ⟨lt, rfl⟩ | ⟨rfl, rfl⟩ | ⟨rfl, rfl⟩ | ⟨rfl, rfl⟩
  · obtain ⟨a, i, rfl, h1, h2⟩ := num_inv hg
    cases el
    exact ⟨(fun x hx => by cases hx), rfl, Nat.zero_le _, (fun x hx => by cases hx)⟩
  · obtain ⟨a, y, rfl, hy⟩ := ask_inv hg
    cases el
    exact ⟨(fun x hx => by cases hx), rfl, Nat.zero_le _, (fun x hx => by cases hx)⟩
  · obtain ⟨a, y, v, rfl, hy⟩ := fun_inv hg
    cases el
    refine ⟨fun x hx => ?_, rfl, by show 1 ≤ 7; decide, fun x hx => ?_⟩
    · rw [List.mem_singleton.mp hx]
      exact ⟨_, _, rfl⟩
    · rw [List.mem_singleton.mp hx]
      exact hd.2.2.2.1
  · obtain ⟨a, y, u, rfl, hy, hu⟩ := two_inv hg
    cases el
    have e : insW [W.str z, .str y, .str u] = [] := by
      rcases isTwo tw with rfl | rfl | rfl | rfl | rfl <;> rfl
    have e2 : subsW [W.str z, .str y, .str u] = [] := by
      rcases isTwo tw with rfl | rfl | rfl | rfl | rfl <;> rfl
    refine ⟨fun x hx => ?_, by rw [e, e2]; rfl, by rw [e]; exact Nat.zero_le _, fun x hx => ?_⟩
    · rw [e] at hx
      cases hx
    · rw [e2] at hx
      cases hx
  · obtain ⟨a, y, v, u, rfl, hy⟩ := put_inv hg
    cases el
    have e : insW [W.str z, .str y, v, u] = [.tup [v, .tup []], .tup [u, .tup [.str y]]] := if_pos lt
    have e2 : subsW [W.str z, .str y, v, u] = [v, u] := if_pos lt
    refine ⟨fun x hx => ?_, by rw [e, e2]; rfl, by rw [e]; show 2 ≤ 7; decide, fun x hx => ?_⟩
    · rw [e] at hx
      rcases List.mem_cons.mp hx with rfl | hx
      · exact ⟨_, _, rfl⟩
      · rw [List.mem_singleton.mp hx]
        exact ⟨_, _, rfl⟩
    · rw [e2] at hx
      rcases List.mem_cons.mp hx with rfl | hx
      · exact hd.2.2.2.1
      · rw [List.mem_singleton.mp hx]
        exact hd.2.2.2.2.1
  · obtain ⟨a, ps, v, rfl, ⟨p1, p6⟩, ha, hn⟩ := letall_inv hg
    cases el
    have hps : dats S ps := hd.2.2.1.2
    refine ⟨fun x hx => ?_, ?_, ?_, fun x hx => ?_⟩
    · rcases List.mem_append.mp (show x ∈ ps.map (fun p => W.tup [secW p, namesW ps]) ++ [W.tup [v, namesW ps]] from hx) with hx | hx
      · obtain ⟨p, _, rfl⟩ := List.mem_map.mp hx
        exact ⟨_, _, rfl⟩
      · rw [List.mem_singleton.mp hx]
        exact ⟨_, _, rfl⟩
    · show (ps.map (fun p => W.tup [secW p, namesW ps]) ++ [W.tup [v, namesW ps]]).map firstW = ps.map _ ++ [v]
      rw [List.map_append, List.map_map]
      rfl
    · show (ps.map (fun p => W.tup [secW p, namesW ps]) ++ [W.tup [v, namesW ps]]).length ≤ 7
      rw [List.length_append, List.length_map]
      show ps.length + 1 ≤ 7
      omega
    · rcases List.mem_append.mp (show x ∈ ps.map secW ++ [v] from hx) with hx | hx
      · obtain ⟨p, hp, rfl⟩ := List.mem_map.mp hx
        obtain ⟨y, u, rfl⟩ := pair_two (List.all_eq_true.mp ha p hp)
        exact (hps.mem hp).2.2.1
      · rw [List.mem_singleton.mp hx]
        exact hd.2.2.2.1
  · obtain ⟨a, y, xs, rfl, hy, h1, h2⟩ := made_inv hg
    cases el
    exact ⟨(fun x hx => by cases hx), rfl, Nat.zero_le _, (fun x hx => by cases hx)⟩
  · obtain ⟨a, y, bs, rfl, hy, ⟨p1, p6⟩, ha, hn⟩ := by_inv hg
    cases el
    have hbs : dats S bs := hd.2.2.2.1.2
    have three : ∀ p ∈ bs, ∃ (z : Str) (ys : List Str) (v : W), p = .tup [.str z, .tup (ys.map W.str), v] := fun p hp => branch_three (List.all_eq_true.mp ha p hp)
    refine ⟨fun x hx => ?_, ?_, ?_, fun x hx => ?_⟩
    · obtain ⟨p, hp, rfl⟩ := List.mem_map.mp (show x ∈ bs.map brW from hx)
      obtain ⟨z, ys, v, rfl⟩ := three p hp
      exact ⟨_, _, rfl⟩
    · show (bs.map brW).map firstW = bs.map _
      rw [List.map_map]
      refine List.map_congr_left fun p hp => ?_
      obtain ⟨z, ys, v, rfl⟩ := three p hp
      rfl
    · show (bs.map brW).length ≤ 7
      rw [List.length_map]
      omega
    · obtain ⟨p, hp, rfl⟩ := List.mem_map.mp (show x ∈ bs.map _ from hx)
      obtain ⟨z, ys, v, rfl⟩ := three p hp
      exact (hbs.mem hp).2.2.2.1
def enc (L : List (W × Int)) : List W := L.map fun p => .tup [p.1, .int p.2]
def isT (x : W) : Prop := ∃ t, x = tW t ∧ WF t ∧ nodes t ≤ 300 ∧ deep t ≤ 60
theorem mid_at (S0 : Store) (o : O) (m : Store) : (S0 ++ [o] ++ m)[S0.length]? = some o := by
  rw [List.append_assoc, List.getElem?_append_right (Nat.le_refl _), Nat.sub_self]
  rfl
theorem mid_ne {S0 : Store} {o o' : O} {m : Store} {n : Nat} (h : n ≠ S0.length) : (S0 ++ [o] ++ m)[n]? = (S0 ++ [o'] ++ m)[n]? := by
  rw [← new_set S0 o o' m, List.getElem?_set_ne (Ne.symm h)]
/-- todo.append((inner, depth + 1)) for each -/
theorem push_all {S0 : Store} {x p : W} {pc d : Int} {n : Nat} {D : MD} {chkL : List W} (hn : n ≠ S0.length) : ∀ (R : List W) (L : List (W × Int)) (e5 e6 : Option W) (m : Store), (∀ y ∈ R, ∃ s ns, y = .tup [s, ns]) → L.length + R.length ≤ sizeLine → (S0 ++ [.lst (enc L)] ++ m)[n]? = some (.lst chkL) →
      (∀ e5 e6, D.nx [some x, some (.ref S0.length), some (.int pc), some p, some (.int d), e5, e6] (S0 ++ [.lst (enc (L ++ due (d + 1) (R.map firstW)))] ++ m)) →
      forL (fun S' => S'[n]? = some (.lst chkL)) (mgTup 2 (mgCons (mgName 5) (mgCons (mgName 6) mgNil)))
        (mDrop (mBM wAppend (mVar 1) (mCons (mTup (mCons (mVar 5) (mCons (mBin wAdd (mVar 4) (mC (.int 1))) mNil))) mNil))) D R [some x, some (.ref S0.length), some (.int pc), some p, some (.int d), e5, e6] (S0 ++ [.lst (enc L)] ++ m)
  | [], L, e5, e6, m, _, _, hc, q => by
    refine ⟨hc, ?_⟩
    have := q e5 e6
    simpa [due] using this
  | y :: R, L, e5, e6, m, hf, hl, hc, q => by
    obtain ⟨s, ns, rfl⟩ := hf y List.mem_cons_self
    rw [List.length_cons] at hl
    refine ⟨hc, rfl, ?_⟩
    refine ⟨rfl, ?_⟩
    show isLst (.ref S0.length) _ ∧ _
    refine ⟨?_, by show 2 ≤ sizeLine; decide, ?_⟩
    · show oL (S0 ++ [.lst (enc L)] ++ m)[S0.length]? _
      rw [mid_at]
      trivial
    · show oL (S0 ++ [.lst (enc L)] ++ m)[S0.length]? _
      rw [mid_at]
      refine ⟨by unfold enc; rw [List.length_map]; omega, ?_⟩
      rw [new_set]
      have e : enc L ++ [.tup [s, .int (d + 1)]] = enc (L ++ [(s, d + 1)]) := by
        unfold enc
        rw [List.map_append]
        rfl
      rw [e]
      refine push_all hn R (L ++ [(s, d + 1)]) _ _ m (fun y hy => hf y (List.mem_cons_of_mem _ hy)) (by rw [List.length_append, List.length_singleton]; omega) ?_ fun e5 e6 => ?_
      · rw [mid_ne hn (o' := .lst (enc L))]
        exact hc
      · have := q e5 e6
        have e9 : L ++ due (d + 1) ((W.tup [s, ns] :: R).map firstW) = (L ++ [(s, d + 1)]) ++ due (d + 1) (R.map firstW) := by
          rw [List.append_assoc]
          rfl
        rw [e9] at this
        exact this
abbrev ShapedC : Con := Pur 1 (fun _ => True) fun a => match a with
  | [x] => .bl (shapedB x)
  | _ => .non
theorem pur_shaped {x : W} {S : Store} {Q : WK} (h : dat S x) (q : ∀ S', Ex S S' → Q (.bl (shapedB x)) S') : conR ShapedC [x] S Q := pur_call rfl trivial ⟨h, trivial⟩ q
theorem within_call {l : List W} {S : Store} {Q : WK} (hs : shapedB (.tup l) = true) (hd : dat S (.tup l)) (q : ∀ n S', Ex S S' → S.length ≤ n → S'[n]? = some (.lst (insW l)) → Q (.ref n) S') : conR WithinC [.tup l] S Q :=
  ⟨l, ⟨rfl, hs, hd⟩, fun w S' ⟨n, e, a, b, c⟩ => by rw [e]; exact q n S' a b c⟩
theorem shaped_tup {x : W} (h : shapedB x = true) : ∃ l, x = .tup l := by
  cases x <;> first | exact ⟨_, rfl⟩ | cases h
theorem last_or {α : Type} : ∀ L : List α, L = [] ∨ ∃ L' x, L = L' ++ [x]
  | [] => .inl rfl
  | a :: L => .inr (by
    rcases last_or L with h | ⟨L', x, h⟩
    · exact ⟨[], a, by rw [h]; rfl⟩
    · exact ⟨a :: L', x, by rw [h]; rfl⟩)
structure TodoOk (S : Store) (x : W) (pc : Nat) (L : List (W × Int)) : Prop where
  most : pc ≤ 300
  len : L.length ≤ 1 + 7 * pc
  dat : ∀ p ∈ L, dat S p.1
  fin : ∀ n B, 60 ≤ B → Mx B L n → ∃ t, x = tW t ∧ WF t ∧ nodes t = pc + n ∧ deep t ≤ B
  all : ∀ t, x = tW t → WF t → nodes t ≤ 300 → deep t ≤ 60 → ∃ n, Mx 60 L n ∧ pc + n = nodes t
theorem enc_snoc (L : List (W × Int)) (p : W × Int) : enc (L ++ [p]) = enc L ++ [.tup [p.1, .int p.2]] := by
  unfold enc
  rw [List.map_append]
  rfl
def tPush : MS := (mFor (mIt (mCB (conR WithinC) (mCons (mVar 3) mNil))) (mgTup 2 (mgCons (mgName 5) (mgCons (mgName 6) mgNil)))
      (mDrop (mBM wAppend (mVar 1) (mCons (mTup (mCons (mVar 5) (mCons (mBin wAdd (mVar 4) (mC (.int 1))) mNil))) mNil))))
def tBody : MS := (mSeq (mAsg (mBM0 wPop (mVar 1)) (mgTup 2 (mgCons (mgName 3) (mgCons (mgName 4) mgNil))))
      (mSeq (mAug 2 (wInt (fun i j => i + j) fun _ _ => True) (mC (.int 1)))
      (mSeq (mIfS (mOr (mTest (mBin wGt (mVar 2) (mC (.int (300))))) (mOr (mTest (mBin wGt (mVar 4) (mC (.int (60))))) (mNot (mTru (mCB (conR ShapedC) (mCons (mVar 3) mNil))))))
      (mRet (mC (.bl false)))
      mNext)
      tPush)))
theorem walk_lst {S : Store} {n : Nat} {l : List W} {R : (Store → Prop) → List W → Store → Prop} (h : S[n]? = some (.lst l)) : wIt (.ref n) S R = R (fun S' => S'[n]? = some (.lst l)) l S := by
  show oIt n S[n]? S R = _
  rw [h]
  rfl
theorem pop_read {S0 : Store} {m : Store} {L : List (W × Int)} {p : W} {d : Int} {env : EvS} {Q : EvS → Store → Prop} (hv : lk env 1 = some (.ref S0.length)) (q : Q ((env.set 3 (some p)).set 4 (some (.int d))) (S0 ++ [.lst (enc L)] ++ m)) :
    mBM0 wPop (mVar 1) env (S0 ++ [.lst (enc (L ++ [(p, d)]))] ++ m) fun w S1 => mgTup 2 (mgCons (mgName 3) (mgCons (mgName 4) mgNil)) w env S1 Q := by
  unfold mBM0 mVar
  rw [hv]
  refine ⟨?_, ?_⟩
  · show oL (S0 ++ [.lst _] ++ m)[S0.length]? _
    rw [mid_at]
    trivial
  · show oL (S0 ++ [.lst _] ++ m)[S0.length]? _
    rw [mid_at]
    show oW (enc (L ++ [(p, d)])).getLast? _
    rw [enc_snoc, List.getLast?_concat, List.dropLast_concat, new_set]
    exact ⟨rfl, rfl, q⟩
mutual
theorem dat_mid {S0 m : Store} {a b : List W} : ∀ {w : W}, dat (S0 ++ [.lst a] ++ m) w → dat (S0 ++ [.lst b] ++ m) w
  | .non, _ => trivial
  | .bl _, _ => trivial
  | .int _, _ => trivial
  | .str _, q => q
  | .tup l, q => ⟨q.1, dats_mid q.2⟩
  | .cl _, _ => trivial
  | .ref n, ⟨l, e⟩ => by
    by_cases h : n = S0.length
    · subst h
      exact ⟨b, mid_at _ _ _⟩
    · exact ⟨l, by rw [mid_ne h (o' := .lst a)]; exact e⟩
  | .adr _, q => q.elim
  | .ty _, q => q.elim
theorem dats_mid {S0 m : Store} {a b : List W} : ∀ {l : List W}, dats (S0 ++ [.lst a] ++ m) l → dats (S0 ++ [.lst b] ++ m) l
  | [], _ => trivial
  | _ :: _, q => ⟨dat_mid q.1, dats_mid q.2⟩
end
theorem loop_term {S0 : Store} {x : W} {D : MD} (k : ∀ b S', (b = true ↔ isT x) → Ex S0 S' → D.rt (.bl b) S') (kn : D.nx = fun _ S' => D.rt (.bl true) S') : ∀ (f : Nat) (pc : Nat) (L : List (W × Int)) (e3 e4 e5 e6 : Option W) (m : Store), f = 302 - pc → TodoOk (S0 ++ [.lst (enc L)] ++ m) x pc L →
    whL (mTru (mVar 1)) tBody D f [some x, some (.ref S0.length), some (.int pc), e3, e4, e5, e6] (S0 ++ [.lst (enc L)] ++ m)
  | 0, pc, L, e3, e4, e5, e6, m, hf, ok => by
    have := ok.most
    omega
  | f + 1, pc, L, e3, e4, e5, e6, m, hf, ok => by
    have S0len : ∀ (o : O) (m : Store), Ex S0 (S0 ++ [o] ++ m) := fun o m => ⟨[o] ++ m, by rw [List.append_assoc]⟩
    unfold whL
    simp only [mTru, mVar, lk, Ev.wTru]
    rw [mid_at]
    simp only [oTru]
    rcases last_or L with rfl | ⟨L', ⟨p, d⟩, rfl⟩
    · refine iteF ?_
      rw [kn]
      obtain ⟨t, e, w, hn, hd⟩ := ok.fin 0 60 (by decide) .nil
      have := ok.most
      exact k true _ ⟨fun _ => ⟨t, e, w, by omega, by omega⟩, fun _ => rfl⟩ (S0len _ _)
    · have ne : (!(enc (L' ++ [(p, d)])).isEmpty) = true := by
        rw [enc_snoc]
        cases enc L' <;> rfl
      rw [ne]
      refine iteT ?_
      -- whatever is refused is no term
      have bad : (pc + 1 > 300 ∨ d > 60 ∨ shapedB p = false) → ¬ isT x := fun h ⟨t, e, w, hn, hd⟩ => by
        obtain ⟨n, hm, he⟩ := ok.all t e w hn hd
        obtain ⟨a, c, rfl, h1, h2⟩ := Mx.split hm
        obtain ⟨s, rfl, w2, b2, rfl⟩ := Mx.one h2
        have p1 := nodes_pos s
        have p2 := deep_pos s
        rcases h with h | h | h
        · omega
        · omega
        · rw [shaped_tW s w2] at h
          cases h
      have hp : dat (S0 ++ [.lst (enc (L' ++ [(p, d)]))] ++ m) p := ok.dat _ (List.mem_append_right _ List.mem_cons_self)
      have ih := loop_term k kn f
      generalize hN : whL (mTru (mVar 1)) tBody D f = NX at ih ⊢
      unfold tBody
      simp only [mSeq, mAsg]
      refine pop_read (p := p) (d := d) rfl ?_
      simp only [List.set]
      simp only [mSeq, mIfS, mRet, mRetN, mAsg, mDrop, mTest, mBin, mChain, mTru, mAnd, mOr, mNot, mAndV, mOrV, mNotV, mIf, mVar, mC, mCons, mNil, mTup, mLst, mCB, mgName, mNext, mIt, mPar, mAug, lk, wLen_tup, wLe_int, wLt_int, wGt_int, wEq_int, wNe_int, wEq_str, wNe_str, wIx_tup, wAt0, wAt1, wAt2, wAt3, oW_s, tru_bl, List.set]
      refine ⟨trivial, ?_⟩
      simp only [mSeq, mIfS, mRet, mRetN, mAsg, mDrop, mTest, mBin, mChain, mTru, mAnd, mOr, mNot, mAndV, mOrV, mNotV, mIf, mVar, mC, mCons, mNil, mTup, mLst, mCB, mgName, mNext, mIt, mPar, mAug, lk, wLen_tup, wLe_int, wLt_int, wGt_int, wEq_int, wNe_int, wEq_str, wNe_str, wIx_tup, wAt0, wAt1, wAt2, wAt3, oW_s, tru_bl, List.set]
      have bad' : ∀ S', Ex S0 S' → (pc + 1 > 300 ∨ d > 60 ∨ shapedB p = false) → D.rt (.bl false) S' := fun S' hx h => k false S' ⟨(fun z => by cases z), fun z => absurd z (bad h)⟩ hx
      refine ifB (fun e => ifT (bad' _ (S0len _ _) (.inl (by have := of_decide_eq_true e; omega)))) fun e1 => ?_
      refine ifB (fun e => ifT (bad' _ (S0len _ _) (.inr (.inl (by have := of_decide_eq_true e; omega))))) fun e2 => ?_
      have e1 := of_decide_eq_false e1
      have e2 := of_decide_eq_false e2
      refine pur_shaped (dat_mid hp) fun S1 h1 => ?_
      simp only [mSeq, mIfS, mRet, mRetN, mAsg, mDrop, mTest, mBin, mChain, mTru, mAnd, mOr, mNot, mAndV, mOrV, mNotV, mIf, mVar, mC, mCons, mNil, mTup, mLst, mCB, mgName, mNext, mIt, mPar, mAug, lk, wLen_tup, wLe_int, wLt_int, wGt_int, wEq_int, wNe_int, wEq_str, wNe_str, wIx_tup, wAt0, wAt1, wAt2, wAt3, oW_s, tru_bl, List.set]
      refine ifNB (fun e3 => bad' _ ((S0len _ _).trans h1) (.inr (.inr e3))) fun e3 => ?_
      obtain ⟨l, rfl⟩ := shaped_tup e3
      unfold tPush
      simp only [mFor, mIt, mCB, mCons, mNil, mVar, lk]
      have hp1 := (dat_mid (b := enc L') hp).ex h1
      refine within_call e3 hp1 fun n S2 h2 hlen at2 => ?_
      rw [walk_lst at2]
      obtain ⟨m2, e9⟩ := h1.trans h2
      have hlen2 : S0.length < n := by
        obtain ⟨m3, e8⟩ := h1
        rw [e8] at hlen
        simp only [List.length_append, List.length_cons] at hlen
        omega
      have io := ins_ok e3 (hp1.ex h2)
      rw [e9, List.append_assoc] at at2 io ⊢
      have lsub : (subsW l).length ≤ 7 := by
        rw [← io.subs, List.length_map]
        exact io.few
      have okl := ok.len
      have okm := ok.most
      have okd := ok.dat
      rw [List.length_append, List.length_singleton] at okl
      refine push_all (Nat.ne_of_gt hlen2) (insW l) L' e5 e6 (m ++ m2) io.form (by have := io.few; exact Nat.le_trans (show L'.length + (insW l).length ≤ 3000 by omega) (by decide)) at2 fun e5 e6 => ?_
      rw [io.subs]
      have := ih (pc + 1) (L' ++ due (d + 1) (subsW l)) (some (.tup l)) (some (.int d)) e5 e6 (m ++ m2) (by omega) ⟨by omega, by
        have : (due (d + 1) (subsW l)).length = (subsW l).length := List.length_map ..
        rw [List.length_append, this]
        omega, fun q hq => ?_, fun n B hB hm => ?_, fun t e w hn hd => ?_⟩
      · exact this
      · rcases List.mem_append.mp hq with hq | hq
        · have h5 := okd q (List.mem_append_left _ hq)
          have h6 : dat (S0 ++ [.lst (enc (L' ++ due (d + 1) (subsW l)))] ++ m) q.1 := dat_mid h5
          exact h6.ex ⟨m2, by rw [List.append_assoc _ m m2]⟩
        · obtain ⟨s, hs, rfl⟩ := List.mem_map.mp hq
          exact dat_mid (io.dat s hs)
      · obtain ⟨a, c, rfl, h1, h2⟩ := Mx.split hm
        obtain ⟨s, q1, q2, q3, q4⟩ := sound rfl e3 (by omega) h2
        have hm2 : Mx B (L' ++ [(.tup l, d)]) (a + (nodes s + 0)) := Mx.app (by rw [q1]; exact .cons q2 q4 .nil) h1
        obtain ⟨t, r1, r2, r3, r4⟩ := ok.fin _ B hB hm2
        exact ⟨t, r1, r2, by omega, r4⟩
      · obtain ⟨n, hm, he⟩ := ok.all t e w hn hd
        obtain ⟨a, c, rfl, h1, h2⟩ := Mx.split hm
        obtain ⟨s, q1, q2, q3, rfl⟩ := Mx.one h2
        obtain ⟨l', q5, q6⟩ := subs_tW s q2
        rw [← q1] at q5
        cases q5
        obtain ⟨n', q7, q8⟩ := mx_tW s q2 q3
        exact ⟨a + n', Mx.app (by rw [q6]; exact q8) h1, by omega⟩
theorem vc_is_term {x : W} {S : Store} {D : MD} (h : dat S x) (k : ∀ b S', (b = true ↔ isT x) → Ex S S' → D.rt (.bl b) S') : m_is_term ShapedC WithinC D [some x, none, none, none, none, none, none] S := by
  refine ⟨by show 2 ≤ sizeLine; decide, by show 1 ≤ sizeLine; decide, 302, ?_⟩
  have := loop_term (S0 := S) (x := x) (D := { D with nx := fun _ S' => D.rt (.bl true) S' }) k rfl 302 0 [(x, 1)] none none none none [] rfl ⟨Nat.zero_le _, Nat.le_refl 1, fun p hp => ?_, fun n B hB hm => ?_, fun t e w hn hd => ?_⟩
  · rw [List.append_nil] at this
    exact this
  · rw [List.mem_singleton.mp hp]
    rw [List.append_nil]
    exact h.ex Ex.one
  · obtain ⟨t, e, w, b, rfl⟩ := Mx.one hm
    exact ⟨t, e, w, by omega, by omega⟩
  · subst e
    exact ⟨nodes t + 0, .cons w (by omega) .nil, by omega⟩
def IsTC : Con := ⟨W, fun x ws S => ws = [x] ∧ dat S x, fun x S w S' => ∃ b, w = .bl b ∧ (b = true ↔ isT x) ∧ Ex S S'⟩
end EvT

set_option Elab.async false
set_option linter.all false
set_option maxRecDepth 100000
set_option maxHeartbeats 1000000
namespace EvT
open PySem PySem.Spec PyProof.Rows L2 Ow Ev OwT
/-! ### named -/
def NamedC : Con := ⟨T, fun t ws S => ws = [tW t] ∧ WF t, fun t S w S' => w = .tup ((nmd t).map W.str) ∧ Ex S S'⟩
theorem wIn_strN {z : Str} (xs : List Str) {l : List W} {S : Store} {Q : WK} (hl : l = xs.map W.str) (q : Q (.bl (decide (z ∈ xs))) S) : wIn (.str z) (.tup l) S Q := by
  subst hl
  refine wIn_strs ?_
  rw [Bool.false_xor]
  exact q
section
variable {S : Store} {D : MD} {z : Str} {r : List W}
theorem named_go {z : Str} {l : List W} (k1 : z = "made" → ∃ w, wAt l 2 = some w ∧ D.rt w S) (k2 : z ≠ "made" → z ∈ [("name" : Str), "by"] → D.rt (.tup (cutG l (some 1) (some 2))) S)
    (k3 : z ≠ "made" → z ∉ [("name" : Str), "by"] → z ∈ twos → D.rt (.tup (cutG l (some 1) (some 3))) S) (k4 : z ≠ "made" → z ∉ [("name" : Str), "by"] → z ∉ twos → D.rt (.tup []) S) (h0 : wAt l 0 = some (.str z)) : m_named D [some (.tup l), none] S := by
  unfold m_named
  simp only [mSeq, mIfS, mRet, mRetN, mAsg, mDrop, mTest, mBin, mChain, mTru, mAnd, mOr, mNot, mAndV, mOrV, mNotV, mIf, mVar, mC, mCons, mNil, mTup, mLst, mCB, mgName, mNext, mIt, mPar, mAug, lk, wLen_tup, wLe_int, wLt_int, wGt_int, wEq_int, wNe_int, wEq_str, wNe_str, wIx_tup, wAt0, wAt1, wAt2, wAt3, oW_s, tru_bl, List.set]
  rw [h0]
  simp only [oW]
  simp only [mSeq, mIfS, mRet, mRetN, mAsg, mDrop, mTest, mBin, mChain, mTru, mAnd, mOr, mNot, mAndV, mOrV, mNotV, mIf, mVar, mC, mCons, mNil, mTup, mLst, mCB, mgName, mNext, mIt, mPar, mAug, lk, wLen_tup, wLe_int, wLt_int, wGt_int, wEq_int, wNe_int, wEq_str, wNe_str, wIx_tup, wAt0, wAt1, wAt2, wAt3, oW_s, tru_bl, List.set]
  refine ifB (fun e => ?_) fun e => ?_
  · obtain ⟨w, h1, h2⟩ := k1 (of_decide_eq_true e)
    rw [h1]
    exact h2
  have n1 := of_decide_eq_false e
  refine ⟨by show 2 ≤ sizeLine; decide, wIn_strN [("name" : Str), "by"] rfl ?_⟩
  simp only [mSeq, mIfS, mRet, mRetN, mAsg, mDrop, mTest, mBin, mChain, mTru, mAnd, mOr, mNot, mAndV, mOrV, mNotV, mIf, mVar, mC, mCons, mNil, mTup, mLst, mCB, mgName, mNext, mIt, mPar, mAug, lk, wLen_tup, wLe_int, wLt_int, wGt_int, wEq_int, wNe_int, wEq_str, wNe_str, wIx_tup, wAt0, wAt1, wAt2, wAt3, oW_s, tru_bl, List.set]
  refine ifB (fun e => k2 n1 (of_decide_eq_true e)) fun e => ?_
  have n2 := of_decide_eq_false e
  refine ⟨by show 5 ≤ sizeLine; decide, wIn_strN twos rfl ?_⟩
  simp only [mSeq, mIfS, mRet, mRetN, mAsg, mDrop, mTest, mBin, mChain, mTru, mAnd, mOr, mNot, mAndV, mOrV, mNotV, mIf, mVar, mC, mCons, mNil, mTup, mLst, mCB, mgName, mNext, mIt, mPar, mAug, lk, wLen_tup, wLe_int, wLt_int, wGt_int, wEq_int, wNe_int, wEq_str, wNe_str, wIx_tup, wAt0, wAt1, wAt2, wAt3, oW_s, tru_bl, List.set]
  refine ifB (fun e => k3 n1 n2 (of_decide_eq_true e)) fun e => ?_
  exact ⟨Nat.zero_le _, k4 n1 n2 (of_decide_eq_false e)⟩
theorem cut12 {a b : W} {r : List W} (h : r.length ≤ 1) : cutG (a :: b :: r) (some 1) (some 2) = [b] := by
  match r, h with
  | [], _ => rfl
  | [c], _ => rfl
theorem cut13 {a b c : W} : cutG [a, b, c] (some 1) (some 3) = [b, c] := rfl
theorem vc_named (t : T) (h : WF t) (k : ∀ S', Ex S S' → D.rt (.tup ((nmd t).map W.str)) S') : ∃ l, tW t = .tup l ∧ m_named D [some (.tup l), none] S := by
  have k := k S Ex.refl
  cases t with
  | num n => exact ⟨_, rfl, named_go (fun e => absurd e (by decide)) (fun _ e => absurd e (by decide)) (fun _ _ e => absurd e (by decide)) (fun _ _ _ => k) rfl⟩
  | nam x => exact ⟨_, rfl, named_go (fun e => absurd e (by decide)) (fun _ _ => by rw [cut12 (Nat.zero_le _)]; exact k) (fun _ e => absurd (by decide) e) (fun _ e => absurd (by decide) e) rfl⟩
  | fn x e => exact ⟨_, rfl, named_go (fun e => absurd e (by decide)) (fun _ e => absurd e (by decide)) (fun _ _ e => absurd e (by decide)) (fun _ _ _ => k) rfl⟩
  | two w x y =>
    refine ⟨_, rfl, named_go (fun e => ?_) (fun _ e => ?_) (fun _ _ _ => ?_) (fun _ _ e => absurd h.1 e) rfl⟩
    · subst e
      exact absurd h.1 (by decide)
    · rcases isTwo h.1 with rfl | rfl | rfl | rfl | rfl <;> exact absurd e (by decide)
    · rw [cut13]
      exact k
  | lt w x e b =>
    refine ⟨_, rfl, named_go (fun e => ?_) (fun _ e => ?_) (fun _ _ e => ?_) (fun _ _ _ => k) rfl⟩
    all_goals rcases h.1 with rfl | rfl <;> exact absurd e (by decide)
  | all ps b => exact ⟨_, rfl, named_go (fun e => absurd e (by decide)) (fun _ e => absurd e (by decide)) (fun _ _ e => absurd e (by decide)) (fun _ _ _ => k) rfl⟩
  | mk c xs => exact ⟨_, rfl, named_go (fun _ => ⟨_, rfl, k⟩) (fun e _ => absurd rfl e) (fun e _ _ => absurd rfl e) (fun e _ _ => absurd rfl e) rfl⟩
  | by_ x bs => exact ⟨_, rfl, named_go (fun e => absurd e (by decide)) (fun _ _ => by rw [cut12 (r := [W.tup (bW bs)]) (Nat.le_refl 1)]; exact k) (fun _ e => absurd (by decide) e) (fun _ e => absurd (by decide) e) rfl⟩
end
/-! ### what within tells, of a term -/
def inT (l : List (T × List Str)) : List W := l.map fun p => .tup [tW p.1, .tup (p.2.map W.str)]
theorem ins_ps (ns : List Str) : ∀ ps : Ps, (pW ps).map (fun p => W.tup [secW p, .tup (ns.map W.str)]) = inT (ps.subs ns)
  | .nil => rfl
  | .cons x e r => by
    show _ :: _ = _ :: _
    rw [ins_ps ns r]
    rfl
theorem ins_bs : ∀ bs : Bs, (bW bs).map brW = inT bs.subs
  | .nil => rfl
  | .cons c ys e r => by
    show _ :: _ = _ :: _
    rw [ins_bs r]
    rfl
theorem ins_tW : ∀ (t : T), WF t → ∃ l, tW t = .tup l ∧ insW l = inT (wn t)
  | .num n, _ => ⟨_, rfl, rfl⟩
  | .nam x, _ => ⟨_, rfl, rfl⟩
  | .fn x e, _ => ⟨_, rfl, rfl⟩
  | .two w x y, h => by
    refine ⟨_, rfl, ?_⟩
    rcases isTwo h.1 with rfl | rfl | rfl | rfl | rfl <;> rfl
  | .lt w x e b, h => by
    refine ⟨_, rfl, ?_⟩
    rcases h.1 with rfl | rfl <;> rfl
  | .all ps b, _ => by
    refine ⟨_, rfl, ?_⟩
    show (pW ps).map (fun p => W.tup [secW p, namesW (pW ps)]) ++ [W.tup [tW b, namesW (pW ps)]] = inT (ps.subs ps.names ++ [(b, ps.names)])
    unfold namesW
    rw [pW_fst, ins_ps]
    unfold inT
    rw [List.map_append]
    rfl
  | .mk c xs, _ => ⟨_, rfl, rfl⟩
  | .by_ x bs, _ => by
    refine ⟨_, rfl, ?_⟩
    show (bW bs).map brW = _
    rw [ins_bs]
    rfl
/-- a term is data -/
theorem isNm_len {x : Str} (h : isNm x = true) : x.length ≤ sizeLine := by
  unfold isNm at h
  rw [Bool.and_eq_true] at h
  have := of_decide_eq_true h.1
  exact Nat.le_trans this.2 (by decide)
theorem strs_dat {S : Store} : ∀ xs : List Str, (∀ x ∈ xs, isNm x = true) → dats S (xs.map W.str)
  | [], _ => trivial
  | x :: xs, h => ⟨isNm_len (h x List.mem_cons_self), strs_dat xs fun y hy => h y (List.mem_cons_of_mem _ hy)⟩
theorem two_len {w : Str} (h : w ∈ twos) : w.length ≤ sizeLine := by
  rcases isTwo h with rfl | rfl | rfl | rfl | rfl <;> decide
mutual
theorem dat_tW {S : Store} : ∀ (t : T), WF t → dat S (tW t)
  | .num n, _ => ⟨by show 2 ≤ sizeLine; decide, by show Str.length "num" ≤ sizeLine; decide, trivial, trivial⟩
  | .nam x, h => ⟨by show 2 ≤ sizeLine; decide, by show Str.length "name" ≤ sizeLine; decide, isNm_len h, trivial⟩
  | .fn x e, h => ⟨by show 3 ≤ sizeLine; decide, by show Str.length "fun" ≤ sizeLine; decide, isNm_len h.1, dat_tW e h.2, trivial⟩
  | .two w x y, h => ⟨by show 3 ≤ sizeLine; decide, two_len h.1, isNm_len h.2.1, isNm_len h.2.2, trivial⟩
  | .lt w x e b, h => ⟨by show 4 ≤ sizeLine; decide, by rcases h.1 with rfl | rfl <;> (show Str.length _ ≤ sizeLine; decide), isNm_len h.2.1, dat_tW e h.2.2.1, dat_tW b h.2.2.2, trivial⟩
  | .all ps b, h => ⟨by show 3 ≤ sizeLine; decide, by show Str.length "letall" ≤ sizeLine; decide, ⟨by rw [pW_len]; exact small (by have := h.1.2; omega), dat_pW ps h.2.2.1⟩, dat_tW b h.2.2.2, trivial⟩
  | .mk c xs, h => ⟨by show 3 ≤ sizeLine; decide, by show Str.length "made" ≤ sizeLine; decide, isNm_len h.1, ⟨by rw [List.length_map]; exact small (by have := h.2.1; omega), strs_dat xs h.2.2⟩, trivial⟩
  | .by_ x bs, h => ⟨by show 3 ≤ sizeLine; decide, by show Str.length "by" ≤ sizeLine; decide, isNm_len h.1, ⟨by rw [bW_len]; exact small (by have := h.2.1.2; omega), dat_bW bs h.2.2.2⟩, trivial⟩
theorem dat_pW {S : Store} : ∀ (ps : Ps), WFp ps → dats S (pW ps)
  | .nil, _ => trivial
  | .cons x e r, h => ⟨⟨by show 2 ≤ sizeLine; decide, isNm_len h.1, dat_tW e h.2.2.1, trivial⟩, dat_pW r h.2.2.2⟩
theorem dat_bW {S : Store} : ∀ (bs : Bs), WFb bs → dats S (bW bs)
  | .nil, _ => trivial
  | .cons c ys e r, h => ⟨⟨by show 3 ≤ sizeLine; decide, isNm_len h.1, ⟨by rw [List.length_map]; exact small (by have := h.2.1.1; omega), strs_dat ys h.2.1.2.2⟩, dat_tW e h.2.2.1, trivial⟩, dat_bW r h.2.2.2⟩
end
theorem wf_ps (ns : List Str) : ∀ ps : Ps, WFp ps → ∀ q ∈ ps.subs ns, WF q.1
  | .nil, _, q, h => by cases h
  | .cons x e r, w, q, h => by
    rcases List.mem_cons.mp h with rfl | h
    · exact w.2.2.1
    · exact wf_ps ns r w.2.2.2 q h
theorem wf_bs : ∀ bs : Bs, WFb bs → ∀ q ∈ bs.subs, WF q.1 ∧ q.2.length ≤ 3
  | .nil, _, q, h => by cases h
  | .cons c ys e r, w, q, h => by
    rcases List.mem_cons.mp h with rfl | h
    · exact ⟨w.2.2.1, w.2.1.1⟩
    · exact wf_bs r w.2.2.2 q h
theorem subs_ns (ns : List Str) : ∀ ps : Ps, ∀ q ∈ ps.subs ns, q.2 = ns
  | .nil, q, h => by cases h
  | .cons x e r, q, h => by
    rcases List.mem_cons.mp h with rfl | h
    · rfl
    · exact subs_ns ns r q h
/-- what lies in a term: terms, few names -/
theorem wf_wn : ∀ (t : T), WF t → ∀ q ∈ wn t, WF q.1 ∧ q.2.length ≤ 6
  | .num n, _, q, h => by cases h
  | .nam x, _, q, h => by cases h
  | .fn x e, w, q, h => by
    rw [List.mem_singleton.mp h]
    exact ⟨w.2, by show 1 ≤ 6; decide⟩
  | .two _ _ _, _, q, h => by cases h
  | .lt _ x e b, w, q, h => by
    rcases List.mem_cons.mp h with rfl | h
    · exact ⟨w.2.2.1, by show 0 ≤ 6; decide⟩
    · rw [List.mem_singleton.mp h]
      exact ⟨w.2.2.2, by show 1 ≤ 6; decide⟩
  | .all ps b, w, q, h => by
    rcases List.mem_append.mp h with h | h
    · refine ⟨wf_ps _ ps w.2.2.1 q h, ?_⟩
      rw [subs_ns _ ps q h]
      exact w.1.2
    · rw [List.mem_singleton.mp h]
      exact ⟨w.2.2.2, w.1.2⟩
  | .mk _ _, _, q, h => by cases h
  | .by_ x bs, w, q, h => by
    have := wf_bs bs w.2.2.2 q h
    exact ⟨this.1, by omega⟩
end EvT

set_option Elab.async false
set_option linter.all false
set_option maxRecDepth 100000
set_option maxHeartbeats 1000000
namespace EvT
open PySem PySem.Spec PyProof.Rows L2 Ow Ev OwT
/-! ### free_names -/
def dkv (ks : List Str) : List (Key × W) := ks.map fun k => (Sum.inr k, W.bl true)
def addK (ks : List Str) (x : Str) : List Str := if x ∈ ks then ks else ks ++ [x]
theorem any_dkv (x : Str) : ∀ ks : List Str, ((dkv ks).any fun kv => decide (kv.1 = (Sum.inr x : Key))) = decide (x ∈ ks)
  | [] => rfl
  | k :: ks => by
    show (decide ((Sum.inr k : Key) = Sum.inr x) || (dkv ks).any _) = _
    rw [any_dkv x ks]
    by_cases h : k = x
    · subst h
      rw [decide_eq_true rfl, Bool.true_or, decide_eq_true List.mem_cons_self]
    · rw [decide_eq_false (fun z => h (Sum.inr.inj z)), Bool.false_or, decide_eq_decide, List.mem_cons]
      exact ⟨.inr, fun z => z.elim (fun z => absurd z.symm h) id⟩
theorem put_dkv (ks : List Str) (x : Str) : putW (dkv ks) (Sum.inr x : Key) (.bl true) = dkv (addK ks x) := by
  unfold putW addK
  rw [any_dkv]
  by_cases h : x ∈ ks
  · rw [decide_eq_true h, if_pos rfl, if_pos h]
    have : ∀ ks : List Str, (dkv ks).map (fun kv => if kv.1 = (Sum.inr x : Key) then (kv.1, W.bl true) else kv) = dkv ks := fun ks => by
      unfold dkv
      rw [List.map_map]
      refine List.map_congr_left fun k _ => ?_
      show (if (Sum.inr k : Key) = Sum.inr x then ((Sum.inr k : Key), W.bl true) else (Sum.inr k, W.bl true)) = _
      split <;> rfl
    exact this ks
  · rw [decide_eq_false h, if_neg (by decide), if_neg h]
    unfold dkv
    rw [List.map_append]
    rfl
theorem mem_addK {ks : List Str} {x k : Str} : k ∈ addK ks x ↔ k ∈ ks ∨ k = x := by
  unfold addK
  split
  · constructor
    · exact .inl
    · rintro (h | rfl)
      · exact h
      · assumption
  · simp
theorem nd_addK {ks : List Str} {x : Str} (h : ks.Nodup) : (addK ks x).Nodup := by
  unfold addK
  split
  · exact h
  · rename_i n
    refine List.nodup_append.mpr ⟨h, by simp, fun a ha b hb => ?_⟩
    rw [List.mem_singleton.mp hb]
    exact fun z => n (z ▸ ha)
def foldN (ns : List Str) : List Str → List Str → List Str
  | ks, [] => ks
  | ks, x :: xs => foldN ns (if x ∈ ns then ks else addK ks x) xs
theorem mem_foldN {ns : List Str} {k : Str} : ∀ (xs ks : List Str), k ∈ foldN ns ks xs ↔ k ∈ ks ∨ (k ∈ xs ∧ k ∉ ns)
  | [], ks => by
    show k ∈ ks ↔ _
    simp
  | x :: xs, ks => by
    show k ∈ foldN ns (if x ∈ ns then ks else addK ks x) xs ↔ _
    rw [mem_foldN xs]
    split
    · rename_i h
      constructor
      · rintro (a | ⟨a, b⟩)
        · exact .inl a
        · exact .inr ⟨List.mem_cons_of_mem _ a, b⟩
      · rintro (a | ⟨a, b⟩)
        · exact .inl a
        · rcases List.mem_cons.mp a with rfl | a
          · exact absurd h b
          · exact .inr ⟨a, b⟩
    · rename_i h
      rw [mem_addK]
      constructor
      · rintro ((a | rfl) | ⟨a, b⟩)
        · exact .inl a
        · exact .inr ⟨List.mem_cons_self, h⟩
        · exact .inr ⟨List.mem_cons_of_mem _ a, b⟩
      · rintro (a | ⟨a, b⟩)
        · exact .inl (.inl a)
        · rcases List.mem_cons.mp a with rfl | a
          · exact .inl (.inr rfl)
          · exact .inr ⟨a, b⟩
theorem nd_foldN {ns : List Str} : ∀ (xs ks : List Str), ks.Nodup → (foldN ns ks xs).Nodup
  | [], ks, h => h
  | x :: xs, ks, h => by
    show (foldN ns (if x ∈ ns then ks else addK ks x) xs).Nodup
    refine nd_foldN xs _ ?_
    split
    · exact h
    · exact nd_addK h
def encF (L : List (T × List Str)) : List W := inT L
def stF (S0 : Store) (ks : List Str) (L : List (T × List Str)) (m : Store) : Store := S0 ++ ([.dK (dkv ks), .lst (encF L)] ++ m)
section
variable {S0 m : Store} {ks ks' : List Str} {L L' : List (T × List Str)}
theorem stF_d : (stF S0 ks L m)[S0.length]? = some (.dK (dkv ks)) := by
  unfold stF
  rw [List.getElem?_append_right (Nat.le_refl _), Nat.sub_self]
  rfl
theorem stF_l : (stF S0 ks L m)[S0.length + 1]? = some (.lst (encF L)) := by
  unfold stF
  rw [List.getElem?_append_right (Nat.le_add_right S0.length 1), Nat.add_sub_cancel_left]
  rfl
theorem stF_setd : (stF S0 ks L m).set S0.length (.dK (dkv ks')) = stF S0 ks' L m := by
  unfold stF
  rw [List.set_append_right _ _ (Nat.le_refl _), Nat.sub_self]
  rfl
theorem stF_setl : (stF S0 ks L m).set (S0.length + 1) (.lst (encF L')) = stF S0 ks L' m := by
  unfold stF
  rw [List.set_append_right _ _ (Nat.le_add_right S0.length 1), Nat.add_sub_cancel_left]
  rfl
theorem stF_ne {n : Nat} (h1 : n ≠ S0.length) (h2 : n ≠ S0.length + 1) : (stF S0 ks L m)[n]? = (stF S0 ks' L' m)[n]? := by
  rw [← stF_setl (L := L) (L' := L'), List.getElem?_set_ne (Ne.symm h2), ← stF_setd (ks := ks) (ks' := ks'), List.getElem?_set_ne (Ne.symm h1)]
theorem stF_ex : Ex S0 (stF S0 ks L m) := ⟨_, rfl⟩
theorem stF_app {m' : Store} : stF S0 ks L m ++ m' = stF S0 ks L (m ++ m') := by
  unfold stF
  simp
end
theorem encF_snoc (L : List (T × List Str)) (p : T × List Str) : encF (L ++ [p]) = encF L ++ [.tup [tW p.1, .tup (p.2.map W.str)]] := by
  unfold encF inT
  rw [List.map_append]
  rfl
/-- for name in named(part): if name not in bound: found[name] = True -/
theorem names_for {S0 : Store} {ns : List Str} {L : List (T × List Str)} {m : Store} {D : MD} {e0 e3 e6 e7 : Option W} {chk : Store → Prop} (hc : ∀ S, chk S) : ∀ (xs ks : List Str) (e5 : Option W), ks.length + xs.length < 3000 →
    (∀ e5, D.nx [e0, some (.ref S0.length), some (.ref (S0.length + 1)), e3, some (.tup (ns.map W.str)), e5, e6, e7] (stF S0 (foldN ns ks xs) L m)) →
    forL chk (mgName 5) (mIfS (mTest (mBin wNotIn (mVar 5) (mVar 4))) (mAsg (mC (.bl true)) (mgSub (mVar 1) (mVar 5))) mNext) D (xs.map W.str)
      [e0, some (.ref S0.length), some (.ref (S0.length + 1)), e3, some (.tup (ns.map W.str)), e5, e6, e7] (stF S0 ks L m)
  | [], ks, e5, _, q => ⟨hc _, q e5⟩
  | x :: xs, ks, e5, hl, q => by
    rw [List.length_cons] at hl
    refine ⟨hc _, ?_⟩
    simp only [mgName, List.set]
    simp only [mSeq, mIfS, mRet, mRetN, mAsg, mDrop, mTest, mBin, mChain, mTru, mAnd, mOr, mNot, mAndV, mOrV, mNotV, mIf, mVar, mC, mCons, mNil, mTup, mLst, mCB, mgName, mNext, mIt, mPar, mAug, lk, wLen_tup, wLe_int, wLt_int, wGt_int, wEq_int, wNe_int, wEq_str, wNe_str, wIx_tup, wAt0, wAt1, wAt2, wAt3, oW_s, tru_bl, List.set]
    refine wIn_strs ?_
    rw [Bool.true_xor]
    simp only [mSeq, mIfS, mRet, mRetN, mAsg, mDrop, mTest, mBin, mChain, mTru, mAnd, mOr, mNot, mAndV, mOrV, mNotV, mIf, mVar, mC, mCons, mNil, mTup, mLst, mCB, mgName, mNext, mIt, mPar, mAug, lk, wLen_tup, wLe_int, wLt_int, wGt_int, wEq_int, wNe_int, wEq_str, wNe_str, wIx_tup, wAt0, wAt1, wAt2, wAt3, oW_s, tru_bl, List.set]
    refine ifNB (fun e => ?_) fun e => ?_
    · have hx := of_decide_eq_false e
      unfold mgSub
      simp only [mSeq, mIfS, mRet, mRetN, mAsg, mDrop, mTest, mBin, mChain, mTru, mAnd, mOr, mNot, mAndV, mOrV, mNotV, mIf, mVar, mC, mCons, mNil, mTup, mLst, mCB, mgName, mNext, mIt, mPar, mAug, lk, wLen_tup, wLe_int, wLt_int, wGt_int, wEq_int, wNe_int, wEq_str, wNe_str, wIx_tup, wAt0, wAt1, wAt2, wAt3, oW_s, tru_bl, List.set]
      show match (stF S0 ks L m)[S0.length]? with
        | some (.lst l) => _
        | some (.dK l) => _
        | _ => False
      rw [stF_d]
      refine ⟨by unfold dkv; rw [List.length_map]; exact Nat.lt_of_lt_of_le (show ks.length < 3000 by omega) (by decide), ?_⟩
      rw [put_dkv, stF_setd]
      refine names_for hc xs (addK ks x) _ ?_ fun e5 => ?_
      · have : (addK ks x).length ≤ ks.length + 1 := by
          unfold addK
          split
          · omega
          · rw [List.length_append, List.length_singleton]
            exact Nat.le_refl _
        omega
      · have := q e5
        have e9 : foldN ns ks (x :: xs) = foldN ns (addK ks x) xs := by
          show foldN ns (if x ∈ ns then ks else addK ks x) xs = _
          rw [if_neg hx]
        rw [e9] at this
        exact this
    · have hx := of_decide_eq_true e
      refine names_for hc xs ks _ (by omega) fun e5 => ?_
      have := q e5
      have e9 : foldN ns ks (x :: xs) = foldN ns ks xs := by
        show foldN ns (if x ∈ ns then ks else addK ks x) xs = _
        rw [if_pos hx]
      rw [e9] at this
      exact this
end EvT

set_option Elab.async false
set_option linter.all false
set_option maxRecDepth 100000
set_option maxHeartbeats 1000000
namespace EvT
open PySem PySem.Spec PyProof.Rows L2 Ow Ev OwT
def sumN (L : List (T × List Str)) : Nat := (L.map fun p => nodes p.1).sum
theorem sumN_cons (p : T × List Str) (L : List (T × List Str)) : sumN (p :: L) = nodes p.1 + sumN L := by
  unfold sumN
  rw [List.map_cons, List.sum_cons]
theorem sumN_app : ∀ (A B : List (T × List Str)), sumN (A ++ B) = sumN A + sumN B
  | [], B => by
    show sumN B = 0 + sumN B
    omega
  | p :: A, B => by
    rw [List.cons_append, sumN_cons, sumN_cons, sumN_app A B]
    omega
theorem sumN_ps (ns : List Str) : ∀ ps : Ps, sumN (ps.subs ns) = nodesPs ps
  | .nil => rfl
  | .cons x e r => by
    show sumN ((e, ns) :: r.subs ns) = nodes e + nodesPs r
    rw [sumN_cons, sumN_ps ns r]
theorem sumN_bs : ∀ bs : Bs, sumN bs.subs = nodesBs bs
  | .nil => rfl
  | .cons c ys e r => by
    show sumN ((e, ys) :: r.subs) = nodes e + nodesBs r
    rw [sumN_cons, sumN_bs r]
theorem nodes_wn (t : T) : nodes t = 1 + sumN (wn t) := by
  cases t with
  | num n => rfl
  | nam x => rfl
  | fn x e => rfl
  | two w x y => rfl
  | lt w x e b =>
    show 1 + nodes e + nodes b = 1 + (nodes e + (nodes b + 0))
    omega
  | all ps b =>
    show 1 + nodesPs ps + nodes b = 1 + sumN (ps.subs ps.names ++ [(b, ps.names)])
    rw [sumN_app, sumN_ps]
    show _ = 1 + (nodesPs ps + (nodes b + 0))
    omega
  | mk c xs => rfl
  | by_ x bs =>
    show 1 + nodesBs bs = 1 + sumN bs.subs
    rw [sumN_bs]
theorem len_sumN : ∀ L : List (T × List Str), L.length ≤ sumN L
  | [] => Nat.le_refl _
  | p :: L => by
    rw [sumN_cons, List.length_cons]
    have := nodes_pos p.1
    have := len_sumN L
    omega
theorem each_sumN : ∀ (L : List (T × List Str)), ∀ p ∈ L, nodes p.1 ≤ sumN L
  | q :: L, p, h => by
    rw [sumN_cons]
    rcases List.mem_cons.mp h with rfl | h
    · omega
    · have := each_sumN L p h
      omega
theorem sumN_ext (ns : List Str) : ∀ L : List (T × List Str), sumN (L.map fun p => (p.1, ns ++ p.2)) = sumN L
  | [] => rfl
  | p :: L => by
    rw [List.map_cons, sumN_cons, sumN_cons, sumN_ext ns L]
theorem nmd_few : ∀ t : T, WF t → (nmd t).length ≤ 3
  | .num _, _ => Nat.zero_le _
  | .nam _, _ => by show 1 ≤ 3; decide
  | .fn _ _, _ => Nat.zero_le _
  | .two _ _ _, _ => by show 2 ≤ 3; decide
  | .lt _ _ _ _, _ => Nat.zero_le _
  | .all _ _, _ => Nat.zero_le _
  | .mk _ xs, h => h.2.1
  | .by_ _ _, _ => by show 1 ≤ 3; decide
def pushB : MS := (mDrop (mBM wAppend (mVar 2) (mCons (mTup (mCons (mVar 6) (mCons (mBin wAdd (mVar 4) (mVar 7)) mNil))) mNil)))
theorem push_free {S0 : Store} {ks : List Str} {ns : List Str} {D : MD} {e0 e3 e5 : Option W} {n : Nat} {chkL : List W} (h1 : n ≠ S0.length) (h2 : n ≠ S0.length + 1) :
    ∀ (R : List (T × List Str)) (L : List (T × List Str)) (e6 e7 : Option W) (m : Store), L.length + R.length ≤ 3000 → (∀ p ∈ R, ns.length + p.2.length ≤ 3000) → (stF S0 ks L m)[n]? = some (.lst chkL) →
      (∀ e6 e7, D.nx [e0, some (.ref S0.length), some (.ref (S0.length + 1)), e3, some (.tup (ns.map W.str)), e5, e6, e7] (stF S0 ks (L ++ R.map fun p => (p.1, ns ++ p.2)) m)) →
      forL (fun S' => S'[n]? = some (.lst chkL)) (mgTup 2 (mgCons (mgName 6) (mgCons (mgName 7) mgNil))) pushB D (inT R) [e0, some (.ref S0.length), some (.ref (S0.length + 1)), e3, some (.tup (ns.map W.str)), e5, e6, e7] (stF S0 ks L m)
  | [], L, e6, e7, m, _, _, hc, q => by
    have := q e6 e7
    rw [List.map_nil, List.append_nil] at this
    exact ⟨hc, this⟩
  | p :: R, L, e6, e7, m, hl, hr, hc, q => by
    rw [List.length_cons] at hl
    refine ⟨hc, rfl, ⟨rfl, ?_⟩⟩
    have big : 3000 ≤ sizeLine := by decide
    show isLst (.ref (S0.length + 1)) (stF S0 ks L m) ∧ _
    refine ⟨?_, ?_, by show 2 ≤ sizeLine; decide, ?_⟩
    · show oL (stF S0 ks L m)[S0.length + 1]? _
      rw [stF_l]
      trivial
    · rw [List.length_map, List.length_map]
      exact Nat.le_trans (hr p List.mem_cons_self) big
    · show oL (stF S0 ks L m)[S0.length + 1]? _
      rw [stF_l]
      refine ⟨by unfold encF inT; rw [List.length_map]; exact Nat.lt_of_lt_of_le (show L.length < 3000 by omega) big, ?_⟩
      have e : encF L ++ [.tup [tW p.1, .tup (ns.map W.str ++ p.2.map W.str)]] = encF (L ++ [(p.1, ns ++ p.2)]) := by
        rw [encF_snoc, List.map_append]
      rw [e, stF_setl]
      refine push_free h1 h2 R (L ++ [(p.1, ns ++ p.2)]) _ _ m (by rw [List.length_append, List.length_singleton]; omega) (fun y hy => hr y (List.mem_cons_of_mem _ hy)) ?_ fun e6 e7 => ?_
      · rw [stF_ne h1 h2 (ks' := ks) (L' := L)]
        exact hc
      · have := q e6 e7
        rw [List.append_assoc]
        exact this
structure FreeOk (t0 : T) (fs ks : List Str) (L : List (T × List Str)) : Prop where
  nd : ks.Nodup
  sub : ∀ k ∈ ks, Free k t0
  all : ∀ k, Free k t0 → k ∈ ks ∨ ∃ p ∈ L, Free k p.1 ∧ k ∉ p.2
  wf : ∀ p ∈ L, WF p.1
  few : ∀ p ∈ L, p.2.length + 6 * nodes p.1 ≤ 2000
  own : ∀ p ∈ L, ∀ k, Free k p.1 → k ∉ p.2 → Free k t0
  size : sumN L ≤ 300
theorem FreeOk.step {t0 : T} {fs ks : List Str} {L : List (T × List Str)} {t : T} {ns : List Str} (h : FreeOk t0 fs ks (L ++ [(t, ns)])) : FreeOk t0 fs (foldN ns ks (nmd t)) (L ++ (wn t).map fun p => (p.1, ns ++ p.2)) := by
  have ht := List.mem_append_right L (List.mem_cons_self (a := (t, ns)) (l := []))
  have wt := h.wf _ ht
  refine ⟨nd_foldN _ _ h.nd, fun k hk => ?_, fun k hk => ?_, fun p hp => ?_, fun p hp => ?_, fun p hp => ?_, ?_⟩
  · rcases (mem_foldN _ _).mp hk with hk | ⟨a, b⟩
    · exact h.sub k hk
    · exact h.own _ ht k ((free_iff k t).mpr (.inl a)) b
  · rcases h.all k hk with a | ⟨p, hp, a, b⟩
    · exact .inl ((mem_foldN _ _).mpr (.inl a))
    · rcases List.mem_append.mp hp with hp | hp
      · exact .inr ⟨p, List.mem_append_left _ hp, a, b⟩
      · rw [List.mem_singleton.mp hp] at a b
        rcases (free_iff k t).mp a with a | ⟨q, hq, a, c⟩
        · exact .inl ((mem_foldN _ _).mpr (.inr ⟨a, b⟩))
        · refine .inr ⟨(q.1, ns ++ q.2), List.mem_append_right _ (List.mem_map.mpr ⟨q, hq, rfl⟩), a, fun z => ?_⟩
          rcases List.mem_append.mp z with z | z
          · exact b z
          · exact c z
  · rcases List.mem_append.mp hp with hp | hp
    · exact h.wf p (List.mem_append_left _ hp)
    · obtain ⟨q, hq, rfl⟩ := List.mem_map.mp hp
      exact (wf_wn t wt q hq).1
  · rcases List.mem_append.mp hp with hp | hp
    · exact h.few p (List.mem_append_left _ hp)
    · obtain ⟨q, hq, rfl⟩ := List.mem_map.mp hp
      have a := h.few _ ht
      have b := (wf_wn t wt q hq).2
      have c := each_sumN (wn t) q hq
      have d := nodes_wn t
      show (ns ++ q.2).length + 6 * nodes q.1 ≤ 2000
      rw [List.length_append]
      have a : ns.length + 6 * nodes t ≤ 2000 := a
      omega
  · rcases List.mem_append.mp hp with hp | hp
    · exact h.own p (List.mem_append_left _ hp)
    · obtain ⟨q, hq, rfl⟩ := List.mem_map.mp hp
      intro k a b
      have b : k ∉ ns ++ q.2 := b
      exact h.own _ ht k ((free_iff k t).mpr (.inr ⟨q, hq, a, fun z => b (List.mem_append_right _ z)⟩)) fun z => b (List.mem_append_left _ z)
  · have a := h.size
    rw [sumN_app] at a
    rw [sumN_app, sumN_ext]
    have d := nodes_wn t
    have e : sumN [(t, ns)] = nodes t + 0 := rfl
    omega
end EvT

set_option Elab.async false
set_option linter.all false
set_option maxRecDepth 100000
set_option maxHeartbeats 1000000
namespace EvT
open PySem PySem.Spec PyProof.Rows L2 Ow Ev OwT
def fBody : MS := (mSeq (mAsg (mBM0 wPop (mVar 2)) (mgTup 2 (mgCons (mgName 3) (mgCons (mgName 4) mgNil))))
  (mSeq (mFor (mIt (mCB (conR NamedC) (mCons (mVar 3) mNil))) (mgName 5)
  (mIfS (mTest (mBin wNotIn (mVar 5) (mVar 4)))
  (mAsg (mC (.bl true)) (mgSub (mVar 1) (mVar 5)))
  mNext))
  (mFor (mIt (mCB (conR WithinC) (mCons (mVar 3) mNil))) (mgTup 2 (mgCons (mgName 6) (mgCons (mgName 7) mgNil)))
  pushB)))
theorem named_call {t : T} {S : Store} {Q : WK} (h : WF t) (q : ∀ S', Ex S S' → Q (.tup ((nmd t).map W.str)) S') : conR NamedC [tW t] S Q :=
  ⟨t, ⟨rfl, h⟩, fun w S' ⟨a, b⟩ => by rw [a]; exact q S' b⟩
theorem popF_read {S0 m : Store} {ks : List Str} {L : List (T × List Str)} {t : T} {ns : List Str} {env : EvS} {Q : EvS → Store → Prop} (hv : lk env 2 = some (.ref (S0.length + 1))) (q : Q ((env.set 3 (some (tW t))).set 4 (some (.tup (ns.map W.str)))) (stF S0 ks L m)) :
    mBM0 wPop (mVar 2) env (stF S0 ks (L ++ [(t, ns)]) m) fun w S1 => mgTup 2 (mgCons (mgName 3) (mgCons (mgName 4) mgNil)) w env S1 Q := by
  unfold mBM0 mVar
  rw [hv]
  refine ⟨?_, ?_⟩
  · show oL (stF S0 ks _ m)[S0.length + 1]? _
    rw [stF_l]
    trivial
  · show oL (stF S0 ks (L ++ [(t, ns)]) m)[S0.length + 1]? _
    rw [stF_l]
    show oW (encF (L ++ [(t, ns)])).getLast? _
    rw [encF_snoc, List.getLast?_concat, List.dropLast_concat, stF_setl]
    exact ⟨rfl, rfl, q⟩
theorem loop_free {S0 : Store} {t0 : T} {fs : List Str} {D : MD} {e0 : Option W} (hfs : fs.length < 64) (hf : ∀ k, Free k t0 → k ∈ fs)
    (k : ∀ (ks : List Str) (e3 e4 e5 e6 e7 : Option W) (m : Store), ks.Nodup → (∀ k, k ∈ ks ↔ Free k t0) → D.nx [e0, some (.ref S0.length), some (.ref (S0.length + 1)), e3, e4, e5, e6, e7] (stF S0 ks [] m)) :
    ∀ (f : Nat) (ks : List Str) (L : List (T × List Str)) (e3 e4 e5 e6 e7 : Option W) (m : Store), sumN L < f → FreeOk t0 fs ks L → whL (mTru (mVar 2)) fBody D f [e0, some (.ref S0.length), some (.ref (S0.length + 1)), e3, e4, e5, e6, e7] (stF S0 ks L m)
  | 0, ks, L, e3, e4, e5, e6, e7, m, h, ok => by omega
  | f + 1, ks, L, e3, e4, e5, e6, e7, m, h, ok => by
    unfold whL
    simp only [mTru, mVar, lk, Ev.wTru]
    rw [stF_l]
    simp only [oTru]
    rcases last_or L with rfl | ⟨L, ⟨t, ns⟩, rfl⟩
    · refine iteF (k ks _ _ _ _ _ m ok.nd fun x => ⟨ok.sub x, fun hx => ?_⟩)
      rcases ok.all x hx with a | ⟨p, hp, _⟩
      · exact a
      · cases hp
    · have ne : (!(encF (L ++ [(t, ns)])).isEmpty) = true := by
        rw [encF_snoc]
        cases encF L <;> rfl
      rw [ne]
      refine iteT ?_
      have ih := loop_free (S0 := S0) (e0 := e0) hfs hf k f
      generalize hN : whL (mTru (mVar 2)) fBody D f = NX at ih ⊢
      have step := ok.step
      have ht := List.mem_append_right L (List.mem_cons_self (a := (t, ns)) (l := []))
      have wt := ok.wf _ ht
      unfold fBody
      simp only [mSeq, mAsg]
      refine popF_read (t := t) (ns := ns) rfl ?_
      simp only [List.set]
      simp only [mFor, mIt, mCB, mCons, mNil, mVar, lk]
      refine named_call wt fun S1 h1 => ?_
      obtain ⟨m1, rfl⟩ := h1
      rw [stF_app]
      have kfs : ks.length ≤ fs.length := nodup_sub ks fs ok.nd fun x hx => hf x (ok.sub x hx)
      refine names_for (fun _ => trivial) (nmd t) ks e5 (by have := nmd_few t wt; omega) fun e5 => ?_
      obtain ⟨l, el, hi⟩ := ins_tW t wt
      have hs := shaped_tW t wt
      have hd : dat (stF S0 (foldN ns ks (nmd t)) L (m ++ m1)) (tW t) := dat_tW t wt
      show conR WithinC [tW t] _ _
      rw [el] at hs hd ⊢
      refine within_call hs hd fun n S2 h2 hlen at2 => ?_
      rw [walk_lst at2, hi]
      rw [hi] at at2
      have hl2 : S0.length + 1 < n := by
        have : (stF S0 (foldN ns ks (nmd t)) L (m ++ m1)).length = S0.length + (2 + (m ++ m1).length) := by
          unfold stF
          rw [List.length_append, List.length_append]
          rfl
        omega
      obtain ⟨m2, rfl⟩ := h2
      rw [stF_app] at at2 ⊢
      have sz := ok.size
      have a1 := len_sumN (L ++ [(t, ns)])
      have a2 := nodes_wn t
      have a3 := len_sumN (wn t)
      have a4 : sumN (L ++ [(t, ns)]) = sumN L + (nodes t + 0) := sumN_app L [(t, ns)]
      rw [List.length_append] at a1
      refine push_free (by omega) (by omega) (wn t) L e6 e7 _ (by omega) (fun q hq => ?_) at2 fun e6 e7 => ?_
      · have b := ok.few _ ht
        have b : ns.length + 6 * nodes t ≤ 2000 := b
        have c := (wf_wn t wt q hq).2
        omega
      · rw [← el]
        have := ih (foldN ns ks (nmd t)) (L ++ (wn t).map fun p => (p.1, ns ++ p.2)) (some (tW t)) (some (.tup (ns.map W.str))) e5 e6 e7 (m ++ m1 ++ m2) (by rw [sumN_app, sumN_ext]; omega) step
        exact this
def FreeC : Con := ⟨T, fun t ws S => ws = [tW t] ∧ WF t ∧ nodes t ≤ 300 ∧ ∃ fs : List Str, fs.length < 64 ∧ ∀ k, Free k t → k ∈ fs,
  fun t S w S' => ∃ n ys, w = .ref n ∧ Ex S S' ∧ S.length ≤ n ∧ S'[n]? = some (.lst (ys.map W.str)) ∧ ys.Nodup ∧ sortedS ys = true ∧ ∀ k, k ∈ ys ↔ Free k t⟩
theorem vc_free {t : T} {S : Store} {D : MD} (wt : WF t) (sz : nodes t ≤ 300) {fs : List Str} (hfs : fs.length < 64) (hf : ∀ k, Free k t → k ∈ fs)
    (k : ∀ n ys S', Ex S S' → S.length ≤ n → S'[n]? = some (.lst (ys.map W.str)) → ys.Nodup → sortedS ys = true → (∀ k, k ∈ ys ↔ Free k t) → D.rt (.ref n) S') : m_free_names NamedC WithinC D [some (tW t), none, none, none, none, none, none, none] S := by
  show _ ≤ sizeLine ∧ _ ≤ sizeLine ∧ _ ≤ sizeLine ∧ _
  refine ⟨by show 0 ≤ sizeLine; decide, by show 2 ≤ sizeLine; decide, by show 1 ≤ sizeLine; decide, 302, ?_⟩
  have e : S ++ [O.dK []] ++ [.lst [.tup [tW t, .tup []]]] = stF S [] [(t, [])] [] := by
    unfold stF
    simp [dkv, encF, inT]
  have := loop_free (S0 := S) (e0 := some (tW t)) (D := { D with nx := fun e S' => mRet (mCB wSortD (mCons (mVar 1) mNil)) D e S' }) hfs hf (fun ks e3 e4 e5 e6 e7 m nd mem => ?_) 302 [] [(t, [])] none none none none none [] (by show nodes t + 0 < 302; omega) ⟨List.nodup_nil, (fun k h => by cases h), fun k h => .inr ⟨_, List.mem_cons_self, h, List.not_mem_nil⟩, fun p hp => ?_, fun p hp => ?_, fun p hp => ?_, by show nodes t + 0 ≤ 300; omega⟩
  · rw [← e] at this
    have e2 : (S ++ [O.dK []]).length = S.length + 1 := by rw [List.length_append]; rfl
    rw [← e2] at this
    exact this
  · simp only [mSeq, mIfS, mRet, mRetN, mAsg, mDrop, mTest, mBin, mChain, mTru, mAnd, mOr, mNot, mAndV, mOrV, mNotV, mIf, mVar, mC, mCons, mNil, mTup, mLst, mCB, mgName, mNext, mIt, mPar, mAug, lk, wLen_tup, wLe_int, wLt_int, wGt_int, wEq_int, wNe_int, wEq_str, wNe_str, wIx_tup, wAt0, wAt1, wAt2, wAt3, oW_s, tru_bl, List.set]
    show oD (stF S ks [] m)[S.length]? _
    rw [stF_d]
    have kfs : ks.length ≤ fs.length := nodup_sub ks fs nd fun x hx => hf x ((mem x).mp hx)
    refine ⟨ks, by unfold dkv; rw [List.map_map]; rfl, by omega, fun ys pm so => ?_⟩
    refine k _ ys _ (stF_ex.trans Ex.one) (by unfold stF; rw [List.length_append]; omega) (new_at _ _) (pm.nodup_iff.mpr nd) so fun x => ?_
    rw [pm.mem_iff]
    exact mem x
  · rw [List.mem_singleton.mp hp]
    exact wt
  · rw [List.mem_singleton.mp hp]
    show 0 + 6 * nodes t ≤ 2000
    omega
  · rw [List.mem_singleton.mp hp]
    exact fun _ h _ => h
end EvT

set_option Elab.async false
set_option linter.all false
set_option maxRecDepth 100000
set_option maxHeartbeats 1000000
namespace Ev05
open PySem PySem.Spec PyProof.Rows L2 Ow Ev
def m_x_law_feed  : MS :=
  (mSeq (mAsg (mIf (mTest (mBin wLt (mVar 1) (mCB wLen (mCons (mVar 0) mNil)))) (mBin wIx (mVar 0) (mVar 1)) (mBin wAdd (mBin wMul (mC (.int 71)) (mVar 1)) (mC (.int 23)))) (mgName 2))
  (mSeq (mAsg (mCB wMax (mCons (mC (.int 0)) (mCons (mBin wSub (mCB wAbs (mCons (mVar 2) mNil)) (mBin wPow (mC (.int 10)) (mC (.int 18)))) mNil))) (mgName 3))
  (mSeq (mAsg (mBin wMod (mBin wAdd (mBin wAdd (mBin wMul (mVar 2) (mC (.int 6364136223846793005))) (mBin wMul (mC (.int 9973)) (mVar 1))) (mC (.int 1442695040888963407))) (mC (.int 2305843009213693951))) (mgName 4))
  (mRet (mLst (mCons (mVar 3) (mCons (mVar 4) mNil)))))))
def m_x_law_take  : MS :=
  (mSeq (mIfS (mTest (mBin wGt (mBin wIx (mVar 0) (mC (.int 0))) (mC (.int 0))))
  (mSeq (mAsg (mBin wMod (mBin wIx (mVar 0) (mC (.int 0))) (mVar 1)) (mgName 2))
  (mSeq (mAsg (mBin wFdiv (mBin wIx (mVar 0) (mC (.int 0))) (mVar 1)) (mgSub (mVar 0) (mC (.int 0))))
  (mRet (mVar 2))))
  mNext)
  (mSeq (mAsg (mBin wMod (mBin wAdd (mBin wMul (mBin wIx (mVar 0) (mC (.int 1))) (mC (.int 6364136223846793005))) (mC (.int 1442695040888963407))) (mC (.int 2305843009213693951))) (mgSub (mVar 0) (mC (.int 1))))
  (mRet (mBin wMod (mBin wFdiv (mBin wIx (mVar 0) (mC (.int 1))) (mC (.int 65536))) (mVar 1)))))
def m_x_law_pick (C_x_law_take : Con) : MS :=
  (mRet (mBin wIx (mVar 1) (mCB (conR C_x_law_take) (mCons (mVar 0) (mCons (mCB wLen (mCons (mVar 1) mNil)) mNil)))))
def m_x_law_names (C_x_law_take : Con) (C_x_law_pick : Con) : MS :=
  (mSeq (mAsg (mC (.str "abcdefghijklmnopqrstuvwxyz")) (mgName 1))
  (mSeq (mAsg (mTup (mCons (mCB (conR C_x_law_take) (mCons (mVar 0) (mCons (mC (.int 26)) mNil))) (mCons (mBin wMul (mBin wIx (mVar 1) (mCB (conR C_x_law_take) (mCons (mVar 0) (mCons (mC (.int 26)) mNil)))) (mCB (conR C_x_law_take) (mCons (mVar 0) (mCons (mC (.int 8)) mNil)))) mNil))) (mgTup 2 (mgCons (mgName 2) (mgCons (mgName 3) mgNil))))
  (mSeq (mAsg (mLc (mRg1 (mCons (mC (.int 8)) mNil)) (mgName 7) mYes (mBin wAdd (mBin wIx (mVar 1) (mBin wMod (mBin wAdd (mVar 2) (mBin wMul (mC (.int 5)) (mVar 7))) (mC (.int 26)))) (mVar 3)) [7]) (mgName 4))
  (mSeq (mAsg (mLst (mCons (mC (.str "num")) (mCons (mC (.str "name")) (mCons (mC (.str "fun")) (mCons (mC (.str "call")) (mCons (mC (.str "let")) (mCons (mC (.str "now")) (mCons (mC (.str "letall")) (mCons (mC (.str "made")) (mCons (mC (.str "by")) (mCons (mC (.str "sum")) (mCons (mC (.str "minus")) (mCons (mC (.str "less")) mNil))))))))))))) (mgName 5))
  (mSeq (mAsg (mBin wAdd (mVar 5) (mLst (mCons (mC (.str "same")) (mCons (mC (.str "yes")) mNil)))) (mgName 5))
  (mSeq (mFor (mRg1 (mCons (mCB (conR C_x_law_pick) (mCons (mVar 0) (mCons (mLst (mCons (mC (.int 0)) (mCons (mC (.int 0)) (mCons (mC (.int 1)) (mCons (mC (.int 4)) mNil))))) mNil))) mNil)) (mgName 6)
  (mAsg (mCB (conR C_x_law_pick) (mCons (mVar 0) (mCons (mVar 5) mNil))) (mgSub (mVar 4) (mCB (conR C_x_law_take) (mCons (mVar 0) (mCons (mC (.int 8)) mNil))))))
  (mRet (mVar 4))))))))
def m_x_law_few (C_x_law_take : Con) (C_x_law_pick : Con) : MS :=
  (mSeq (mAsg (mLst mNil) (mgName 3))
  (mSeq (mFor (mRg1 (mCons (mCB (conR C_x_law_take) (mCons (mVar 0) (mCons (mBin wAdd (mVar 2) (mC (.int 1))) mNil))) mNil)) (mgName 4)
  (mSeq (mAsg (mCB (conR C_x_law_pick) (mCons (mVar 0) (mCons (mVar 1) mNil))) (mgName 5))
  (mIfS (mTest (mBin wNotIn (mVar 5) (mVar 3)))
  (mDrop (mBM wAppend (mVar 3) (mCons (mVar 5) mNil)))
  mNext)))
  (mRet (mCB wTuple (mCons (mVar 3) mNil)))))
def m_x_law_made (C_x_law_take : Con) (C_x_law_pick : Con) : MS :=
  (mSeq (mAsg (mLc (mRg1 (mCons (mCB (conR C_x_law_take) (mCons (mVar 0) (mCons (mC (.int 4)) mNil))) mNil)) (mgName 3) mYes (mCB (conR C_x_law_pick) (mCons (mVar 0) (mCons (mVar 1) mNil))) [3]) (mgName 2))
  (mRet (mTup (mCons (mC (.str "made")) (mCons (mCB (conR C_x_law_pick) (mCons (mVar 0) (mCons (mVar 1) mNil))) (mCons (mCB wTuple (mCons (mVar 2) mNil)) mNil))))))
def m_x_law_leaf (C_x_law_take : Con) (C_x_law_pick : Con) (C_x_law_made : Con) : MS :=
  (mSeq (mAsg (mCB (conR C_x_law_take) (mCons (mVar 0) (mCons (mC (.int 5)) mNil))) (mgName 2))
  (mSeq (mIfS (mTest (mBin wEq (mVar 2) (mC (.int 0))))
  (mRet (mTup (mCons (mC (.str "num")) (mCons (mCB (conR C_x_law_pick) (mCons (mVar 0) (mCons (mLst (mCons (mC (.int 0)) (mCons (mC (.int 1)) (mCons (mNeg (mC (.int 1))) (mCons (mBin wPow (mC (.int 10)) (mC (.int 18))) (mCons (mBin wSub (mC (.int 0)) (mBin wPow (mC (.int 10)) (mC (.int 18)))) (mCons (mBin wSub (mCB (conR C_x_law_take) (mCons (mVar 0) (mCons (mC (.int 99)) mNil))) (mC (.int 40))) mNil))))))) mNil))) mNil))))
  mNext)
  (mSeq (mIfS (mTest (mBin wEq (mVar 2) (mC (.int 1))))
  (mRet (mCB (conR C_x_law_made) (mCons (mVar 0) (mCons (mVar 1) mNil))))
  mNext)
  (mSeq (mIfS (mTest (mBin wEq (mVar 2) (mC (.int 2))))
  (mRet (mTup (mCons (mC (.str "name")) (mCons (mCB (conR C_x_law_pick) (mCons (mVar 0) (mCons (mVar 1) mNil))) mNil))))
  mNext)
  (mSeq (mAsg (mCB (conR C_x_law_pick) (mCons (mVar 0) (mCons (mLst (mCons (mC (.str "call")) (mCons (mC (.str "sum")) (mCons (mC (.str "minus")) (mCons (mC (.str "less")) (mCons (mC (.str "same")) (mCons (mC (.str "call")) mNil))))))) mNil))) (mgName 3))
  (mRet (mTup (mCons (mVar 3) (mCons (mCB (conR C_x_law_pick) (mCons (mVar 0) (mCons (mVar 1) mNil))) (mCons (mCB (conR C_x_law_pick) (mCons (mVar 0) (mCons (mVar 1) mNil))) mNil))))))))))
def m_x_law_worth (C_x_law_take : Con) (C_x_law_made : Con) (C_x_law_term : Con) (C_x_law_pick : Con) : MS :=
  (mSeq (mAsg (mBin wSub (mBin wIx (mVar 2) (mC (.int 0))) (mC (.int 1))) (mgSub (mVar 2) (mC (.int 0))))
  (mSeq (mIfS (mTest (mBin wEq (mCB (conR C_x_law_take) (mCons (mVar 0) (mCons (mC (.int 3)) mNil))) (mC (.int 0))))
  (mRet (mCB (conR C_x_law_made) (mCons (mVar 0) (mCons (mVar 1) mNil))))
  mNext)
  (mRet (mTup (mCons (mC (.str "fun")) (mCons (mCB (conR C_x_law_pick) (mCons (mVar 0) (mCons (mVar 1) mNil))) (mCons (mCB (conR C_x_law_term) (mCons (mVar 0) (mCons (mVar 1) (mCons (mVar 2) (mCons (mBin wSub (mVar 3) (mC (.int 1))) mNil))))) mNil)))))))
def m_x_law_term (C_x_law_take : Con) (C_x_law_leaf : Con) (C_x_law_term : Con) (C_x_law_pick : Con) (C_x_law_few : Con) (C_x_law_worth : Con) : MS :=
  (mSeq (mAsg (mBin wSub (mBin wIx (mVar 2) (mC (.int 0))) (mC (.int 1))) (mgSub (mVar 2) (mC (.int 0))))
  (mSeq (mAsg (mCB (conR C_x_law_take) (mCons (mVar 0) (mCons (mC (.int 7)) mNil))) (mgName 4))
  (mSeq (mIfS (mOr (mTest (mBin wLt (mVar 3) (mC (.int 1)))) (mOr (mTest (mBin wLt (mBin wIx (mVar 2) (mC (.int 0))) (mC (.int 1)))) (mTest (mBin wEq (mVar 4) (mC (.int 0))))))
  (mRet (mCB (conR C_x_law_leaf) (mCons (mVar 0) (mCons (mVar 1) mNil))))
  mNext)
  (mSeq (mIfS (mTest (mBin wEq (mVar 4) (mC (.int 1))))
  (mRet (mTup (mCons (mC (.str "fun")) (mCons (mCB (conR C_x_law_pick) (mCons (mVar 0) (mCons (mVar 1) mNil))) (mCons (mCB (conR C_x_law_term) (mCons (mVar 0) (mCons (mVar 1) (mCons (mVar 2) (mCons (mBin wSub (mVar 3) (mC (.int 1))) mNil))))) mNil)))))
  mNext)
  (mSeq (mIfS (mTest (mBin wEq (mVar 4) (mC (.int 2))))
  (mSeq (mAsg (mCB (conR C_x_law_few) (mCons (mVar 0) (mCons (mVar 1) (mCons (mC (.int 6)) mNil)))) (mgName 5))
  (mSeq (mAsg (mIf (mTest (mBin wNe (mVar 5) (mTup mNil))) (mVar 5) (mCB wTuple (mCons (mSl (mVar 1) mNoP (mP (mC (.int 1)))) mNil))) (mgName 5))
  (mSeq (mAsg (mCB wTuple (mCons (mLc (mIt (mVar 5)) (mgName 11) mYes (mTup (mCons (mVar 11) (mCons (mCB (conR C_x_law_worth) (mCons (mVar 0) (mCons (mVar 1) (mCons (mVar 2) (mCons (mBin wSub (mVar 3) (mC (.int 1))) mNil))))) mNil))) [11]) mNil)) (mgName 6))
  (mRet (mTup (mCons (mC (.str "letall")) (mCons (mVar 6) (mCons (mCB (conR C_x_law_term) (mCons (mVar 0) (mCons (mVar 1) (mCons (mVar 2) (mCons (mBin wSub (mVar 3) (mC (.int 1))) mNil))))) mNil))))))))
  mNext)
  (mSeq (mIfS (mTest (mBin wEq (mVar 4) (mC (.int 3))))
  (mSeq (mAsg (mCB (conR C_x_law_few) (mCons (mVar 0) (mCons (mVar 1) (mCons (mC (.int 6)) mNil)))) (mgName 5))
  (mSeq (mAsg (mLst mNil) (mgName 7))
  (mSeq (mFor (mIt (mIf (mTest (mBin wNe (mVar 5) (mTup mNil))) (mVar 5) (mCB wTuple (mCons (mSl (mVar 1) mNoP (mP (mC (.int 1)))) mNil)))) (mgName 8)
  (mSeq (mAsg (mCB (conR C_x_law_few) (mCons (mVar 0) (mCons (mVar 1) (mCons (mC (.int 3)) mNil)))) (mgName 9))
  (mDrop (mBM wAppend (mVar 7) (mCons (mTup (mCons (mVar 8) (mCons (mVar 9) (mCons (mCB (conR C_x_law_term) (mCons (mVar 0) (mCons (mVar 1) (mCons (mVar 2) (mCons (mBin wSub (mVar 3) (mC (.int 1))) mNil))))) mNil)))) mNil)))))
  (mRet (mTup (mCons (mC (.str "by")) (mCons (mCB (conR C_x_law_pick) (mCons (mVar 0) (mCons (mVar 1) mNil))) (mCons (mCB wTuple (mCons (mVar 7) mNil)) mNil))))))))
  mNext)
  (mSeq (mAsg (mCB (conR C_x_law_term) (mCons (mVar 0) (mCons (mVar 1) (mCons (mVar 2) (mCons (mBin wSub (mVar 3) (mC (.int 1))) mNil))))) (mgName 10))
  (mSeq (mAsg (mCB (conR C_x_law_pick) (mCons (mVar 0) (mCons (mLst (mCons (mC (.str "let")) (mCons (mC (.str "let")) (mCons (mC (.str "now")) mNil)))) mNil))) (mgName 8))
  (mRet (mTup (mCons (mVar 8) (mCons (mCB (conR C_x_law_pick) (mCons (mVar 0) (mCons (mVar 1) mNil))) (mCons (mVar 10) (mCons (mCB (conR C_x_law_term) (mCons (mVar 0) (mCons (mVar 1) (mCons (mVar 2) (mCons (mBin wSub (mVar 3) (mC (.int 1))) mNil))))) mNil))))))))))))))
def m_x_law_open (C_x_law_open : Con) : MS :=
  (mSeq (mAsg (mBin wIx (mVar 0) (mC (.int 0))) (mgName 2))
  (mSeq (mIfS (mTest (mBin wEq (mVar 2) (mC (.str "num"))))
  (mRet (mLst mNil))
  mNext)
  (mSeq (mAsg (mLst mNil) (mgName 3))
  (mSeq (mAsg (mLst mNil) (mgName 4))
  (mSeq (mIfS (mTest (mBin wEq (mVar 2) (mC (.str "made"))))
  (mAsg (mCB wList (mCons (mBin wIx (mVar 0) (mC (.int 2))) mNil)) (mgName 3))
  (mIfS (mTest (mBin wEq (mVar 2) (mC (.str "by"))))
  (mSeq (mAsg (mLst (mCons (mBin wIx (mVar 0) (mC (.int 1))) mNil)) (mgName 3))
  (mAsg (mLc (mIt (mBin wIx (mVar 0) (mC (.int 2)))) (mgName 8) mYes (mTup (mCons (mBin wIx (mVar 8) (mC (.int 2))) (mCons (mCB wList (mCons (mBin wIx (mVar 8) (mC (.int 1))) mNil)) mNil))) [8]) (mgName 4)))
  (mIfS (mTest (mBin wEq (mVar 2) (mC (.str "fun"))))
  (mAsg (mLst (mCons (mTup (mCons (mBin wIx (mVar 0) (mC (.int 2))) (mCons (mLst (mCons (mBin wIx (mVar 0) (mC (.int 1))) mNil)) mNil))) mNil)) (mgName 4))
  (mIfS (mTest (mBin wIn (mVar 2) (mLst (mCons (mC (.str "let")) (mCons (mC (.str "now")) mNil)))))
  (mAsg (mLst (mCons (mTup (mCons (mBin wIx (mVar 0) (mC (.int 2))) (mCons (mLst mNil) mNil))) (mCons (mTup (mCons (mBin wIx (mVar 0) (mC (.int 3))) (mCons (mLst (mCons (mBin wIx (mVar 0) (mC (.int 1))) mNil)) mNil))) mNil))) (mgName 4))
  (mIfS (mTest (mBin wEq (mVar 2) (mC (.str "letall"))))
  (mSeq (mAsg (mLc (mIt (mBin wIx (mVar 0) (mC (.int 1)))) (mgName 9) mYes (mBin wIx (mVar 9) (mC (.int 0))) [9]) (mgName 5))
  (mAsg (mBin wAdd (mLc (mIt (mBin wIx (mVar 0) (mC (.int 1)))) (mgName 9) mYes (mTup (mCons (mBin wIx (mVar 9) (mC (.int 1))) (mCons (mVar 5) mNil))) [9]) (mLst (mCons (mTup (mCons (mBin wIx (mVar 0) (mC (.int 2))) (mCons (mVar 5) mNil))) mNil))) (mgName 4)))
  (mAsg (mCB wList (mCons (mSl (mVar 0) (mP (mC (.int 1))) mNoP) mNil)) (mgName 3)))))))
  (mSeq (mAsg (mLc (mIt (mVar 3)) (mgName 10) (mTest (mBin wNotIn (mVar 10) (mVar 1))) (mVar 10) [10]) (mgName 3))
  (mSeq (mFor (mIt (mVar 4)) (mgTup 2 (mgCons (mgName 6) (mgCons (mgName 7) mgNil)))
  (mAsg (mBin wAdd (mVar 3) (mCB (conR C_x_law_open) (mCons (mVar 6) (mCons (mBin wAdd (mVar 1) (mVar 7)) mNil)))) (mgName 3)))
  (mRet (mVar 3)))))))))
def m_x_law_bound (C_x_law_take : Con) : MS :=
  (mSeq (mFor (mIt (mVar 2)) (mgName 3)
  (mSeq (mAsg (mCB (conR C_x_law_take) (mCons (mVar 0) (mCons (mC (.int 5)) mNil))) (mgName 4))
  (mIfS (mTest (mBin wEq (mVar 4) (mC (.int 0))))
  (mAsg (mTup (mCons (mC (.str "fun")) (mCons (mVar 3) (mCons (mVar 1) mNil)))) (mgName 1))
  (mIfS (mTest (mBin wEq (mVar 4) (mC (.int 1))))
  (mAsg (mTup (mCons (mC (.str "now")) (mCons (mVar 3) (mCons (mTup (mCons (mC (.str "num")) (mCons (mC (.int 1)) mNil))) (mCons (mVar 1) mNil))))) (mgName 1))
  (mIfS (mTest (mBin wEq (mVar 4) (mC (.int 2))))
  (mAsg (mTup (mCons (mC (.str "letall")) (mCons (mTup (mCons (mTup (mCons (mVar 3) (mCons (mTup (mCons (mC (.str "made")) (mCons (mC (.str "c")) (mCons (mTup (mCons (mVar 3) mNil)) mNil)))) mNil))) mNil)) (mCons (mVar 1) mNil)))) (mgName 1))
  (mIfS (mTest (mBin wEq (mVar 4) (mC (.int 3))))
  (mAsg (mTup (mCons (mC (.str "let")) (mCons (mVar 3) (mCons (mTup (mCons (mC (.str "num")) (mCons (mC (.int 0)) mNil))) (mCons (mTup (mCons (mC (.str "by")) (mCons (mVar 3) (mCons (mTup (mCons (mTup (mCons (mC (.str "c")) (mCons (mTup mNil) (mCons (mTup (mCons (mC (.str "num")) (mCons (mC (.int 1)) mNil))) mNil)))) (mCons (mTup (mCons (mC (.str "d")) (mCons (mTup (mCons (mVar 3) mNil)) (mCons (mVar 1) mNil)))) mNil))) mNil)))) mNil))))) (mgName 1))
  (mAsg (mTup (mCons (mC (.str "let")) (mCons (mVar 3) (mCons (mTup (mCons (mC (.str "num")) (mCons (mC (.int 0)) mNil))) (mCons (mVar 1) mNil))))) (mgName 1))))))))
  (mRet (mVar 1)))
def m_x_law_otherwise (C_x_law_take : Con) (C_x_law_otherwise : Con) : MS :=
  (mSeq (mIfS (mTru (mCB wIsi (mCons (mVar 1) (mCons (mC (.ty "str")) mNil))))
  (mRet (mVar 2))
  mNext)
  (mSeq (mIfS (mOr (mNot (mTru (mCB wIsi (mCons (mVar 1) (mCons (mC (.ty "tuple")) mNil))))) (mTest (mBin wEq (mVar 1) (mTup mNil))))
  (mRet (mVar 1))
  mNext)
  (mSeq (mAsg (mCB (conR C_x_law_take) (mCons (mVar 0) (mCons (mCB wLen (mCons (mVar 1) mNil)) mNil))) (mgName 3))
  (mSeq (mIfS (mAnd (mTest (mBin wEq (mVar 3) (mC (.int 0)))) (mAnd (mTru (mCB wIsi (mCons (mBin wIx (mVar 1) (mC (.int 0))) (mCons (mC (.ty "str")) mNil)))) (mTest (mBin wGt (mCB wLen (mCons (mVar 1) mNil)) (mC (.int 1))))))
  (mAsg (mBin wSub (mCB wLen (mCons (mVar 1) mNil)) (mC (.int 1))) (mgName 3))
  mNext)
  (mRet (mBin wAdd (mBin wAdd (mSl (mVar 1) mNoP (mP (mVar 3))) (mTup (mCons (mCB (conR C_x_law_otherwise) (mCons (mVar 0) (mCons (mBin wIx (mVar 1) (mVar 3)) (mCons (mVar 2) mNil)))) mNil))) (mSl (mVar 1) (mP (mBin wAdd (mVar 3) (mC (.int 1)))) mNoP)))))))
def m_law (C_x_law_feed : Con) (C_x_law_names : Con) (C_x_law_take : Con) (C_x_law_term : Con) (C_x_law_pick : Con) (C_x_law_open : Con) (C_x_law_bound : Con) (C_x_law_otherwise : Con) (C_is_term : Con) (C_is_program : Con) : MS :=
  (mSeq (mFor (mRg1 (mCons (mCB wMax (mCons (mC (.int 2)) (mCons (mCB wMin (mCons (mC (.int 5)) (mCons (mCB wLen (mCons (mVar 0) mNil)) mNil))) mNil))) mNil)) (mgName 1)
  (mSeq (mAsg (mCB (conR C_x_law_feed) (mCons (mVar 0) (mCons (mVar 1) mNil))) (mgName 2))
  (mSeq (mAsg (mSl (mCB (conR C_x_law_names) (mCons (mVar 2) mNil)) mNoP (mP (mBin wAdd (mC (.int 1)) (mCB (conR C_x_law_take) (mCons (mVar 2) (mCons (mC (.int 8)) mNil)))))) (mgName 3))
  (mSeq (mAsg (mCB (conR C_x_law_term) (mCons (mVar 2) (mCons (mVar 3) (mCons (mLst (mCons (mCB (conR C_x_law_pick) (mCons (mVar 2) (mCons (mLst (mCons (mC (.int 3)) (mCons (mC (.int 10)) (mCons (mC (.int 30)) (mCons (mC (.int 60)) mNil))))) mNil))) mNil)) (mCons (mBin wAdd (mC (.int 1)) (mCB (conR C_x_law_take) (mCons (mVar 2) (mCons (mC (.int 8)) mNil)))) mNil))))) (mgName 4))
  (mSeq (mAsg (mSortSet (mCB (conR C_x_law_open) (mCons (mVar 4) (mCons (mLst mNil) mNil)))) (mgName 5))
  (mSeq (mAsg (mCB (conR C_x_law_take) (mCons (mVar 2) (mCons (mBin wAdd (mCB wLen (mCons (mVar 5) mNil)) (mC (.int 1))) mNil))) (mgName 6))
  (mSeq (mAsg (mCB (conR C_x_law_bound) (mCons (mVar 2) (mCons (mVar 4) (mCons (mBin wAdd (mSl (mVar 5) (mP (mVar 6)) mNoP) (mSl (mVar 5) mNoP (mP (mVar 6)))) mNil)))) (mgName 7))
  (mSeq (mAsg (mLst (mCons (mVar 4) (mCons (mVar 7) (mCons (mCB (conR C_x_law_bound) (mCons (mVar 2) (mCons (mVar 4) (mCons (mSl (mVar 5) (mP (mC (.int 1))) mNoP) mNil)))) mNil)))) (mgName 8))
  (mSeq (mFor (mRg1 (mCons (mC (.int 4)) mNil)) (mgName 9)
  (mDrop (mBM wAppend (mVar 8) (mCons (mCB (conR C_x_law_otherwise) (mCons (mVar 2) (mCons (mVar 7) (mCons (mCB (conR C_x_law_pick) (mCons (mVar 2) (mCons (mBin wAdd (mLst (mCons (mC (.str "qq")) (mCons (mC (.str "qq")) mNil))) (mVar 3)) mNil))) mNil)))) mNil))))
  (mSeq (mFor (mIt (mVar 8)) (mgName 10)
  (mSeq (mAsg (mAndV (mCB (conR C_is_term) (mCons (mVar 10) mNil)) (mBin wEq (mCB (conR C_x_law_open) (mCons (mVar 10) (mCons (mLst mNil) mNil))) (mLst mNil))) (mgName 11))
  (mSeq (mAsg (mCB (conR C_is_program) (mCons (mVar 10) mNil)) (mgName 12))
  (mIfS (mOr (mNot (mTru (mCB wIsi (mCons (mVar 12) (mCons (mC (.ty "bool")) mNil))))) (mTest (mBin wNe (mVar 12) (mVar 11))))
  (mRet (mC (.bl false)))
  mNext))))
  (mIfS (mTest (mBin (wIsN true) (mCB (conR C_is_program) (mCons (mVar 7) mNil)) (mC (.bl true))))
  (mRet (mC (.bl false)))
  mNext)))))))))))
  (mSeq (mAsg (mLst (mCons (mC .non) (mCons (mC (.bl true)) (mCons (mC (.int 0)) (mCons (mC (.str "a")) (mCons (mTup mNil) (mCons (mLst mNil) (mCons (mTup (mCons (mC (.str "name")) (mCons (mC (.str "a")) mNil))) (mCons (mLst (mCons (mC (.str "num")) (mCons (mC (.int 1)) mNil))) (mCons (mTup (mCons (mC (.str "num")) (mCons (mC (.bl true)) mNil))) (mCons (mTup (mCons (mC (.str "fun")) (mCons (mC (.str "a")) mNil))) mNil))))))))))) (mgName 13))
  (mSeq (mDrop (mBM wAppend (mVar 13) (mCons (mTup (mCons (mC (.str "fun")) (mCons (mC (.str "a")) (mCons (mC (.str "a")) mNil)))) mNil)))
  (mRet (mBin wEq (mLc (mIt (mVar 13)) (mgName 10) (mTest (mBin (wIsN true) (mCB (conR C_is_program) (mCons (mVar 10) mNil)) (mC (.bl false)))) (mVar 10) [10]) (mLst mNil))))))
end Ev05

set_option Elab.async false
set_option linter.all false
set_option maxRecDepth 100000
set_option maxHeartbeats 1000000
/-! The law's sources of numbers, names. -/
namespace Ev05
open PySem PySem.Spec PyProof.Rows L2 Ow Ev OwT EvT
/-- S' is S but at ps, and for what is new -/
structure Fx (ps : List Nat) (S S' : Store) : Prop where
  len : S.length ≤ S'.length
  keep : ∀ n o, n ∉ ps → S[n]? = some o → S'[n]? = some o
theorem Fx.refl {ps : List Nat} {S : Store} : Fx ps S S := ⟨Nat.le_refl _, fun _ _ _ e => e⟩
theorem Fx.trans {ps : List Nat} {A B C : Store} (a : Fx ps A B) (b : Fx ps B C) : Fx ps A C := ⟨Nat.le_trans a.len b.len, fun n o h e => b.keep n o h (a.keep n o h e)⟩
theorem Fx.ex {ps : List Nat} {S S' : Store} (h : Ex S S') : Fx ps S S' := ⟨h.len, fun n o _ e => h.at e⟩
theorem Fx.mono {ps qs : List Nat} {S S' : Store} (h : Fx ps S S') (k : ∀ n ∈ ps, n ∈ qs) : Fx qs S S' := ⟨h.len, fun n o hn e => h.keep n o (fun z => hn (k n z)) e⟩
theorem Fx.set {ps : List Nat} {S : Store} {n : Nat} {o : O} (h : n ∈ ps) : Fx ps S (S.set n o) := ⟨by rw [List.length_set]; exact Nat.le_refl _, fun m u hm e => by
  rw [List.getElem?_set_ne (fun z => hm (by rw [← z]; exact h))]
  exact e⟩
def big : Int := 2305843009213693951
def FdS (S : Store) (p : Nat) : Prop := ∃ d st : Int, S[p]? = some (.lst [.int d, .int st]) ∧ 0 ≤ d ∧ 0 ≤ st ∧ st < big
def FeedC : Con := ⟨List Int × W × Nat, fun (l, x, k) ws S => ws = [x, .int k] ∧ seqW x S = some (l.map W.int), fun _ S w S' => ∃ p, w = .ref p ∧ Ex S S' ∧ S.length ≤ p ∧ FdS S' p⟩
theorem get_set {S : Store} {n : Nat} {o o' : O} (h : S[n]? = some o) : (S.set n o')[n]? = some o' := List.getElem?_set_self (List.getElem?_eq_some_iff.mp h).1
theorem lt_len {S : Store} {n : Nat} {o : O} (h : S[n]? = some o) : n < S.length := (List.getElem?_eq_some_iff.mp h).1
theorem max_0 (j : Int) : (0 : Int) ≤ (fun i j : Int => if j > i then j else i) 0 j := by
  show (0 : Int) ≤ if j > 0 then j else 0
  by_cases h : j > 0
  · rw [if_pos h]
    omega
  · rw [if_neg h]
    omega
section
variable {S : Store} {D : MD}
theorem feed_rest {c : Int} {k : Nat} {x : W} (q : ∀ p S', Ex S S' → S.length ≤ p → FdS S' p → D.rt (.ref p) S') :
    (mSeq (mAsg (mCB wMax (mCons (mC (.int 0)) (mCons (mBin wSub (mCB wAbs (mCons (mVar 2) mNil)) (mBin wPow (mC (.int 10)) (mC (.int 18)))) mNil))) (mgName 3))
  (mSeq (mAsg (mBin wMod (mBin wAdd (mBin wAdd (mBin wMul (mVar 2) (mC (.int 6364136223846793005))) (mBin wMul (mC (.int 9973)) (mVar 1))) (mC (.int 1442695040888963407))) (mC (.int 2305843009213693951))) (mgName 4))
  (mRet (mLst (mCons (mVar 3) (mCons (mVar 4) mNil)))))) D [some x, some (.int k), some (.int c), none, none] S := by
  simp only [mSeq, mIfS, mRet, mRetN, mAsg, mDrop, mTest, mBin, mChain, mTru, mAnd, mOr, mNot, mAndV, mOrV, mNotV, mIf, mVar, mC, mCons, mNil, mTup, mLst, mCB, mgName, mNext, mIt, mPar, mAug, lk, wLen_tup, wLe_int, wLt_int, wGt_int, wEq_int, wNe_int, wEq_str, wNe_str, wIx_tup, wAt0, wAt1, wAt2, wAt3, oW_s, tru_bl, List.set]
  refine ⟨⟨by decide, by decide, by decide⟩, trivial, ?_⟩
  refine ⟨.inr (by decide), .inl (by decide), ?_⟩
  refine ⟨by show (0 : Int) < 2305843009213693951; decide, by show 2 ≤ sizeLine; decide, ?_⟩
  refine q _ _ Ex.one (Nat.le_refl _) ⟨_, _, new_at S _, ?_, Int.emod_nonneg _ (by decide), Int.emod_lt_of_pos _ (by decide)⟩
  exact max_0 _
theorem ix_seqA {s : W} {l : List W} {S : Store} {i : Int} {w : W} {Q : WK} (hl : seqW s S = some l) (hi : wAt l i = some w) (q : Q w S) : wIx s (.int i) S Q := by
  cases s with
  | tup m =>
    cases hl
    show oW (wAt l i) _
    rw [hi]
    exact q
  | cl m =>
    cases hl
    show oW (wAt l i) _
    rw [hi]
    exact q
  | ref n =>
    unfold seqW at hl
    dsimp only at hl
    cases e : S[n]? with
    | none => rw [e] at hl; cases hl
    | some o =>
      rw [e] at hl
      cases o with
      | lst m =>
        cases hl
        show oIx (.int i) S[n]? fun w => Q w S
        rw [e]
        show oW (wAt l i) _
        rw [hi]
        exact q
      | _ => cases hl
  | _ => cases hl
theorem vc_feed {l : List Int} {x : W} {k : Nat} (h : seqW x S = some (l.map W.int)) (q : ∀ p S', Ex S S' → S.length ≤ p → FdS S' p → D.rt (.ref p) S') : m_x_law_feed D [some x, some (.int k), none, none, none] S := by
  unfold m_x_law_feed
  rw [show ∀ a b : MS, mSeq a b D [some x, some (.int k), none, none, none] S = a { D with nx := fun e S' => b D e S' } [some x, some (.int k), none, none, none] S from fun _ _ => rfl]
  simp only [mAsg, mIf, mTest, mBin, mVar, lk, mCB, mCons, mNil]
  refine len_seq h ?_
  rw [wLt_int]
  refine ifB (fun e => ?_) fun e => ?_
  · have hk : k < l.length := by
      have := of_decide_eq_true e
      rw [List.length_map] at this
      omega
    refine ix_seqA h (w := .int l[k]) (by rw [wAt_nat (by omega), Int.toNat_natCast, List.getElem?_map, List.getElem?_eq_getElem hk]; rfl) ?_
    exact feed_rest q
  · refine ⟨.inl (by decide), ?_⟩
    exact feed_rest q
end
end Ev05

set_option Elab.async false
set_option linter.all false
set_option maxRecDepth 100000
set_option maxHeartbeats 1000000
namespace Ev05
open PySem PySem.Spec PyProof.Rows L2 Ow Ev OwT EvT
def TakeC : Con := ⟨Nat × Int, fun (p, m) ws S => ws = [.ref p, .int m] ∧ FdS S p ∧ 0 < m ∧ m < 1000000, fun (p, m) S w S' => ∃ r : Int, w = .int r ∧ 0 ≤ r ∧ r < m ∧ Fx [p] S S' ∧ FdS S' p⟩
theorem take_call {p : Nat} {m : Int} {S : Store} {Q : WK} (h : FdS S p) (h0 : 0 < m) (h1 : m < 1000000) (q : ∀ (r : Int) S', 0 ≤ r → r < m → Fx [p] S S' → FdS S' p → Q (.int r) S') : conR TakeC [.ref p, .int m] S Q :=
  ⟨(p, m), ⟨rfl, h, h0, h1⟩, fun w S' ⟨r, e, a, b, c, d⟩ => by rw [e]; exact q r S' a b c d⟩
section
variable {S : Store} {D : MD}
theorem ix_at {S : Store} {n : Nat} {l : List W} {i : Int} {w : W} {Q : WK} (h : S[n]? = some (.lst l)) (hi : wAt l i = some w) (q : Q w S) : wIx (.ref n) (.int i) S Q := by
  show oIx (.int i) S[n]? fun w => Q w S
  rw [h]
  show oW (wAt l i) _
  rw [hi]
  exact q
theorem set_at {S : Store} {n : Nat} {l : List W} {i : Int} {c : Nat} {v : W} {k : Store → Prop} (h : S[n]? = some (.lst l)) (hc : ixN l.length i = some c) (q : k (S.set n (.lst (l.set c v)))) : wSet (.ref n) (.int i) v S k := by
  unfold wSet
  dsimp only
  rw [h]
  show oW (ixN l.length i) _
  rw [hc]
  exact q
theorem vc_take {p : Nat} {m : Int} (h : FdS S p) (h0 : 0 < m) (h1 : m < 1000000) (q : ∀ (r : Int) S', 0 ≤ r → r < m → Fx [p] S S' → FdS S' p → D.rt (.int r) S') : m_x_law_take D [some (.ref p), some (.int m), none] S := by
  obtain ⟨d, st, e, hd, hs1, hs2⟩ := h
  unfold m_x_law_take
  simp only [mSeq, mIfS, mTest, mBin, mVar, mC, lk, mAsg, mRet, mNext]
  refine ix_at e wAt0 ?_
  rw [wGt_int]
  refine ifB (fun g => ?_) fun g => ?_
  · refine ix_at e wAt0 ?_
    refine ⟨h0, ?_⟩
    simp only [mgName, List.set]
    refine ix_at e wAt0 ?_
    refine ⟨⟨h0, by omega⟩, ?_⟩
    unfold mgSub
    simp only [mVar, mC, lk]
    refine set_at e (c := 0) rfl ?_
    refine q _ _ (Int.emod_nonneg _ (by omega)) (Int.emod_lt_of_pos _ h0) (Fx.set (List.mem_singleton.mpr rfl)) ⟨_, _, get_set e, Int.ediv_nonneg hd (by omega), hs1, hs2⟩
  · refine ix_at e wAt1 ?_
    refine ⟨.inr (by decide), ?_⟩
    refine ⟨by show (0 : Int) < 2305843009213693951; decide, ?_⟩
    unfold mgSub
    simp only [mVar, mC, lk]
    refine set_at e (c := 1) rfl ?_
    refine ix_at (get_set e) wAt1 ?_
    refine ⟨⟨by decide, by decide⟩, ?_⟩
    refine ⟨h0, ?_⟩
    exact q _ _ (Int.emod_nonneg _ (by omega)) (Int.emod_lt_of_pos _ h0) (Fx.set (List.mem_singleton.mpr rfl)) ⟨_, _, get_set e, hd, Int.emod_nonneg _ (by decide), Int.emod_lt_of_pos _ (by decide)⟩
end
/-- some[take(feed, len(some))] -/
def PickC : Con := ⟨Nat × W × List W, fun (p, s, l) ws S => ws = [.ref p, s] ∧ FdS S p ∧ s ≠ .ref p ∧ seqW s S = some l ∧ 0 < l.length ∧ l.length < 1000000, fun (p, s, l) S w S' => w ∈ l ∧ Fx [p] S S' ∧ FdS S' p⟩
theorem pick_call {p : Nat} {s : W} {l : List W} {S : Store} {Q : WK} (h : FdS S p) (hs : s ≠ .ref p) (hl : seqW s S = some l) (h0 : 0 < l.length) (h1 : l.length < 1000000) (q : ∀ w S', w ∈ l → Fx [p] S S' → FdS S' p → Q w S') : conR PickC [.ref p, s] S Q :=
  ⟨(p, s, l), ⟨rfl, h, hs, hl, h0, h1⟩, fun w S' ⟨a, b, c⟩ => q w S' a b c⟩
theorem seq_keep {ps : List Nat} {s : W} {l : List W} {S S' : Store} (hl : seqW s S = some l) (f : Fx ps S S') (hs : ∀ n ∈ ps, s ≠ .ref n) : seqW s S' = some l := by
  cases s with
  | ref n =>
    unfold seqW at hl ⊢
    dsimp only at hl ⊢
    cases e : S[n]? with
    | none => rw [e] at hl; cases hl
    | some o =>
      rw [e] at hl
      rw [f.keep n o (fun z => hs n z rfl) e]
      exact hl
  | _ => exact hl
theorem ix_seq {s : W} {l : List W} {S : Store} {i : Int} {w : W} {Q : WK} (hl : seqW s S = some l) (hi : wAt l i = some w) (q : Q w S) : wIx s (.int i) S Q := by
  cases s with
  | tup m =>
    cases hl
    show oW (wAt l i) _
    rw [hi]
    exact q
  | cl m =>
    cases hl
    show oW (wAt l i) _
    rw [hi]
    exact q
  | ref n =>
    unfold seqW at hl
    dsimp only at hl
    cases e : S[n]? with
    | none => rw [e] at hl; cases hl
    | some o =>
      rw [e] at hl
      cases o with
      | lst m =>
        cases hl
        exact ix_at e hi q
      | _ => cases hl
  | _ => cases hl
theorem vc_pick {S : Store} {D : MD} {p : Nat} {s : W} {l : List W} (h : FdS S p) (hs : s ≠ .ref p) (hl : seqW s S = some l) (h0 : 0 < l.length) (h1 : l.length < 1000000) (q : ∀ w S', w ∈ l → Fx [p] S S' → FdS S' p → D.rt w S') : m_x_law_pick TakeC D [some (.ref p), some s] S := by
  unfold m_x_law_pick
  simp only [mSeq, mIfS, mRet, mRetN, mAsg, mDrop, mTest, mBin, mChain, mTru, mAnd, mOr, mNot, mAndV, mOrV, mNotV, mIf, mVar, mC, mCons, mNil, mTup, mLst, mCB, mgName, mNext, mIt, mPar, mAug, lk, wLen_tup, wLe_int, wLt_int, wGt_int, wEq_int, wNe_int, wEq_str, wNe_str, wIx_tup, wAt0, wAt1, wAt2, wAt3, oW_s, tru_bl, List.set]
  refine len_seq hl ?_
  refine take_call h (by omega) (by omega) fun r S' r0 r1 f fd => ?_
  obtain ⟨w, hw⟩ : ∃ w, l[r.toNat]? = some w := ⟨_, List.getElem?_eq_getElem (by omega)⟩
  refine ix_seq (seq_keep hl f fun n hn => by rw [List.mem_singleton.mp hn]; exact hs) (w := w) (by rw [wAt_nat r0]; exact hw) ?_
  exact q w S' (List.mem_of_getElem? hw) f fd
end Ev05

set_option Elab.async false
set_option linter.all false
set_option maxRecDepth 100000
set_option maxHeartbeats 1000000
namespace Ev05
open PySem PySem.Spec PyProof.Rows L2 Ow Ev OwT EvT
theorem rep_key (c : Nat) : ∀ (k : Nat) (acc : Array Nat), (∀ d ∈ acc.toList, d = c) → ((List.replicate k (#[c] : Array Nat)).foldl (· ++ ·) acc).size = acc.size + k ∧ ∀ d ∈ ((List.replicate k (#[c] : Array Nat)).foldl (· ++ ·) acc).toList, d = c
  | 0, acc, h => ⟨rfl, h⟩
  | k + 1, acc, h => by
    rw [List.replicate_succ, List.foldl_cons]
    obtain ⟨a, b⟩ := rep_key c k (acc ++ #[c]) (fun d hd => by
      rw [Array.toList_append] at hd
      rcases List.mem_append.mp hd with hd | hd
      · exact h d hd
      · simpa using hd)
    refine ⟨?_, b⟩
    rw [a, Array.size_append]
    show acc.size + 1 + k = acc.size + (k + 1)
    omega
theorem rep_sign (c : Nat) {n : Int} (h0 : 0 ≤ n) : (strRep ⟨#[c]⟩ n).length = n.toNat ∧ ∀ d ∈ (strRep ⟨#[c]⟩ n).cps.toList, d = c := by
  unfold strRep
  by_cases h : n < 1
  · rw [if_pos h]
    have : n = 0 := by omega
    subst this
    exact ⟨rfl, fun d hd => by cases hd⟩
  · rw [if_neg h]
    obtain ⟨a, b⟩ := rep_key c n.toNat #[] (fun d hd => by cases hd)
    refine ⟨?_, b⟩
    show ((List.replicate n.toNat (#[c] : Array Nat)).foldl (· ++ ·) #[]).size = n.toNat
    rw [a]
    show 0 + n.toNat = n.toNat
    omega
def AZ : Str := "abcdefghijklmnopqrstuvwxyz"
theorem az_ok : ∀ c ∈ AZ.cps.toList, 97 ≤ c ∧ c ≤ 122 := by decide +kernel
theorem az_len : AZ.cps.toList.length = 26 := by decide +kernel
def words : List Str := ["num", "name", "fun", "call", "let", "now", "letall", "made", "by", "sum", "minus", "less", "same", "yes"]
theorem words_ok : ∀ x ∈ words, isNm x = true := by
  have h : words.all isNm = true := by decide +kernel
  exact fun x hx => List.all_eq_true.mp h x hx
/-- one sign, and a tail of up to seven more -/
theorem nm_cat {c : Nat} {t : Str} (hc : c ∈ AZ.cps.toList) (ht : t.length ≤ 7) (hz : ∀ d ∈ t.cps.toList, 97 ≤ d ∧ d ≤ 122) : isNm ((⟨#[c]⟩ : Str) ++ t) = true := by
  have e : ((⟨#[c]⟩ : Str) ++ t).cps.toList = c :: t.cps.toList := by
    show ((#[c] : Array Nat) ++ t.cps).toList = _
    rw [Array.toList_append]
    rfl
  have l : ((⟨#[c]⟩ : Str) ++ t).length = 1 + t.length := by
    show ((#[c] : Array Nat) ++ t.cps).size = _
    rw [Array.size_append]
    rfl
  unfold isNm
  rw [e, l, decide_eq_true (by omega), Bool.true_and, List.all_cons, Bool.and_eq_true, List.all_eq_true]
  exact ⟨decide_eq_true (az_ok c hc), fun d hd => decide_eq_true (hz d hd)⟩
def NamesC : Con := ⟨Nat, fun p ws S => ws = [.ref p] ∧ FdS S p, fun p S w S' => ∃ (n : Nat) (ns : List Str), w = .ref n ∧ Fx [p] S S' ∧ FdS S' p ∧ S.length ≤ n ∧ S'[n]? = some (.lst (ns.map W.str)) ∧ ns.length = 8 ∧ ∀ x ∈ ns, isNm x = true⟩
theorem FdS.lt {S : Store} {p : Nat} (h : FdS S p) : p < S.length := by
  obtain ⟨d, st, e, _⟩ := h
  exact lt_len e
theorem FdS.ex {S S' : Store} {p : Nat} (h : FdS S p) (e : Ex S S') : FdS S' p := by
  obtain ⟨d, st, a, r⟩ := h
  exact ⟨d, st, e.at a, r⟩
theorem str_ix {z : Str} {i : Int} {c : Nat} {S : Store} {Q : WK} (hl : z.length ≤ sizeLine) (h : wAt z.cps.toList i = some c) (q : Q (.str ⟨#[c]⟩) S) : wIx (.str z) (.int i) S Q := by
  refine ⟨hl, ?_⟩
  rw [h]
  exact q
theorem az_at {r : Int} (h0 : 0 ≤ r) (h1 : r < 26) : ∃ c, wAt AZ.cps.toList r = some c ∧ c ∈ AZ.cps.toList := by
  obtain ⟨c, hc⟩ : ∃ c, AZ.cps.toList[r.toNat]? = some c := ⟨_, List.getElem?_eq_getElem (by rw [az_len]; omega)⟩
  exact ⟨c, by rw [wAt_nat h0]; exact hc, List.mem_of_getElem? hc⟩
/-- found[take(feed, 8)] = pick(feed, words), some times -/
theorem names_turns {p f w : Nat} {D : MD} {e1 e2 e3 e7 : Option W} (hfp : f ≠ p) (hwp : w ≠ p) (hwf : w ≠ f) : ∀ (ws : List W) (S : Store) (ns : List Str) (e6 : Option W), FdS S p → S[f]? = some (.lst (ns.map W.str)) → ns.length = 8 → (∀ x ∈ ns, isNm x = true) → S[w]? = some (.lst (words.map W.str)) →
    (∀ (S' : Store) (ns : List Str) (e6 : Option W), Fx [p, f] S S' → FdS S' p → S'[f]? = some (.lst (ns.map W.str)) → ns.length = 8 → (∀ x ∈ ns, isNm x = true) → D.nx [some (.ref p), e1, e2, e3, some (.ref f), some (.ref w), e6, e7] S') →
    forL (fun _ => True) (mgName 6) (mAsg (mCB (conR PickC) (mCons (mVar 0) (mCons (mVar 5) mNil))) (mgSub (mVar 4) (mCB (conR TakeC) (mCons (mVar 0) (mCons (mC (.int 8)) mNil))))) D ws [some (.ref p), e1, e2, e3, some (.ref f), some (.ref w), e6, e7] S
  | [], S, ns, e6, fd, hf, hl, hn, hw, q => ⟨trivial, q S ns e6 Fx.refl fd hf hl hn⟩
  | y :: ws, S, ns, e6, fd, hf, hl, hn, hw, q => by
    refine ⟨trivial, ?_⟩
    simp only [mgName, List.set, mAsg, mCB, mCons, mNil, mVar, mC, lk, mgSub]
    refine pick_call (l := words.map W.str) fd (fun z => hwp (W.ref.inj z)) (by unfold seqW; dsimp only; rw [hw]) (by decide) (by decide) fun x S1 hx f1 fd1 => ?_
    refine take_call fd1 (by decide) (by decide) fun r S2 r0 r1 f2 fd2 => ?_
    obtain ⟨x, hxw, rfl⟩ := List.mem_map.mp hx
    have hf2 : S2[f]? = some (.lst (ns.map W.str)) := f2.keep _ _ (by simpa using hfp) (f1.keep _ _ (by simpa using hfp) hf)
    have hw2 : S2[w]? = some (.lst (words.map W.str)) := f2.keep _ _ (by simpa using hwp) (f1.keep _ _ (by simpa using hwp) hw)
    have hix : ixN (ns.map W.str).length r = some r.toNat := by
      rw [List.length_map, hl]
      unfold ixN
      rw [if_pos (by omega)]
      first | rfl | (rw [if_pos (by omega)])
    refine set_at hf2 hix ?_
    have e9 : (ns.map W.str).set r.toNat (.str x) = (ns.set r.toNat x).map W.str := by rw [List.map_set]
    rw [e9]
    have fx : Fx [p, f] S (S2.set f (.lst ((ns.set r.toNat x).map W.str))) := ((f1.trans f2).mono fun n hn => List.mem_cons.mpr (.inl (List.mem_singleton.mp hn))).trans (Fx.set (List.mem_cons_of_mem _ List.mem_cons_self))
    refine names_turns hfp hwp hwf ws _ (ns.set r.toNat x) _ ?_ (get_set hf2) (by rw [List.length_set]; exact hl) (fun y hy => ?_) ?_ fun S' ns' e6 f' fd' a b c => q S' ns' e6 (fx.trans f') fd' a b c
    · obtain ⟨d, st, a, r⟩ := fd2
      exact ⟨d, st, by rw [List.getElem?_set_ne hfp]; exact a, r⟩
    · rcases List.mem_or_eq_of_mem_set hy with hy | rfl
      · exact hn y hy
      · exact words_ok _ hxw
    · rw [List.getElem?_set_ne (Ne.symm hwf)]
      exact hw2
theorem range8 : ∀ w ∈ rgW 0 8, ∃ j : Int, w = .int j ∧ 0 ≤ j ∧ j < 8 := by
  intro w hw
  obtain ⟨j, hj, rfl⟩ := List.mem_map.mp hw
  exact ⟨_, rfl, by omega, by have := List.mem_range.mp hj; omega⟩
def nmOf (w : W) : Str := match w with
  | .str z => z
  | _ => Str.empty
def jOf (w : W) : Int := match w with
  | .int j => j
  | _ => 0
def nameAt (a : Int) (tail : Str) (w : W) : Str := (⟨#[(wAt AZ.cps.toList ((a + 5 * jOf w) % 26)).getD 0]⟩ : Str) ++ tail
theorem sign_at (a : Int) (w : W) : ∃ c, wAt AZ.cps.toList ((a + 5 * jOf w) % 26) = some c ∧ c ∈ AZ.cps.toList := az_at (Int.emod_nonneg _ (by decide)) (Int.emod_lt_of_pos _ (by decide))
theorem nameAt_ok {a : Int} {tail : Str} {w : W} (h7 : tail.length ≤ 7) (hz : ∀ e ∈ tail.cps.toList, 97 ≤ e ∧ e ≤ 122) : isNm (nameAt a tail w) = true := by
  obtain ⟨x, hx, hc⟩ := sign_at a w
  unfold nameAt
  rw [hx]
  exact nm_cat hc h7 hz
theorem len8 (f : W → Str) : ((rgW 0 8).map f).length = 8 := by
  rw [List.length_map]
  unfold rgW
  rw [List.length_map, List.length_range]
/-- [letters[(first + 5 * k) % 26] + tail for k in range(8)] -/
theorem names_comp {a : Int} {tail : Str} {e0 e4 e5 e6 : Option W} {S : Store} {Q : WK} (h7 : tail.length ≤ 7) (q : ∀ S', Ex S S' → S'[S.length]? = some (.lst (((rgW 0 8).map (nameAt a tail)).map W.str)) → Q (.ref S.length) S') :
    mLc (mRg1 (mCons (mC (.int 8)) mNil)) (mgName 7) mYes (mBin wAdd (mBin wIx (mVar 1) (mBin wMod (mBin wAdd (mVar 2) (mBin wMul (mC (.int 5)) (mVar 7))) (mC (.int 26)))) (mVar 3)) [7] [e0, some (.str AZ), some (.int a), some (.str tail), e4, e5, e6, none] S Q := by
  unfold mLc mRg1
  simp only [mSeq, mIfS, mRet, mRetN, mAsg, mDrop, mTest, mBin, mChain, mTru, mAnd, mOr, mNot, mAndV, mOrV, mNotV, mIf, mVar, mC, mCons, mNil, mTup, mLst, mCB, mgName, mNext, mIt, mPar, mAug, lk, wLen_tup, wLe_int, wLt_int, wGt_int, wEq_int, wNe_int, wEq_str, wNe_str, wIx_tup, wAt0, wAt1, wAt2, wAt3, oW_s, tru_bl, List.set]
  refine ⟨by decide, ?_⟩
  refine lcL_ex (S0 := S) (fun _ => true) (fun w => .str (nameAt a tail w)) (fun w => [e0, some (.str AZ), some (.int a), some (.str tail), e4, e5, e6, some w]) (fun _ _ => trivial) (rgW 0 8) [] (by
    have := len8 fun _ => Str.empty
    rw [List.length_map] at this
    show 0 + (rgW 0 8).length ≤ sizeLine
    rw [this]
    decide) (fun w _ S4 R r => r) (fun w _ S4 k _ z => z S4 Ex.refl) (fun w hw _ S4 k _ z => ?_) (fun S4 h4 => ?_) _ Ex.refl
  · obtain ⟨j, rfl, j0, j1⟩ := range8 w hw
    obtain ⟨x, hx, _⟩ := sign_at a (.int j)
    simp only [mSeq, mIfS, mRet, mRetN, mAsg, mDrop, mTest, mBin, mChain, mTru, mAnd, mOr, mNot, mAndV, mOrV, mNotV, mIf, mVar, mC, mCons, mNil, mTup, mLst, mCB, mgName, mNext, mIt, mPar, mAug, lk, wLen_tup, wLe_int, wLt_int, wGt_int, wEq_int, wNe_int, wEq_str, wNe_str, wIx_tup, wAt0, wAt1, wAt2, wAt3, oW_s, tru_bl, List.set]
    refine ⟨.inl (by decide), ?_⟩
    refine ⟨by show (0 : Int) < 26; decide, ?_⟩
    refine str_ix (by show AZ.length ≤ sizeLine; decide) hx ?_
    refine ⟨Nat.le_trans (show 1 + tail.length ≤ 100 by omega) (by decide), ?_⟩
    have := z S4 Ex.refl
    unfold nameAt at this
    rw [hx] at this
    exact this
  · rw [filter_true, List.nil_append] at h4
    obtain ⟨h5, at5⟩ := h4.new
    refine q S4 h5 ?_
    rw [at5, List.map_map]
    rfl
theorem vc_names {p : Nat} {S : Store} {D : MD} (h : FdS S p) (q : ∀ (n : Nat) (ns : List Str) (S' : Store), Fx [p] S S' → FdS S' p → S.length ≤ n → S'[n]? = some (.lst (ns.map W.str)) → ns.length = 8 → (∀ x ∈ ns, isNm x = true) → D.rt (.ref n) S') : m_x_law_names TakeC PickC D [some (.ref p), none, none, none, none, none, none, none] S := by
  unfold m_x_law_names
  simp only [mSeq, mIfS, mRet, mRetN, mAsg, mDrop, mTest, mBin, mChain, mTru, mAnd, mOr, mNot, mAndV, mOrV, mNotV, mIf, mVar, mC, mCons, mNil, mTup, mLst, mCB, mgName, mNext, mIt, mPar, mAug, lk, wLen_tup, wLe_int, wLt_int, wGt_int, wEq_int, wNe_int, wEq_str, wNe_str, wIx_tup, wAt0, wAt1, wAt2, wAt3, oW_s, tru_bl, List.set]
  refine take_call h (by decide) (by decide) fun a S1 a0 a1 f1 fd1 => ?_
  refine take_call fd1 (by decide) (by decide) fun b S2 b0 b1 f2 fd2 => ?_
  obtain ⟨c, hc, hcz⟩ := az_at b0 b1
  refine str_ix (by show AZ.length ≤ sizeLine; decide) hc ?_
  refine take_call fd2 (by decide) (by decide) fun d S3 d0 d1 f3 fd3 => ?_
  obtain ⟨tl, tz⟩ := rep_sign c d0
  refine ⟨⟨by omega, d0, by show 1 ≤ 1000; decide⟩, by show 2 ≤ sizeLine; decide, ?_⟩
  have f13 := (f1.trans f2).trans f3
  refine ⟨rfl, ⟨rfl, ?_⟩⟩
  generalize strRep ⟨#[c]⟩ d = tail at tl tz ⊢
  have tail7 : tail.length ≤ 7 := by omega
  have tailz : ∀ e ∈ tail.cps.toList, 97 ≤ e ∧ e ≤ 122 := fun e he => by rw [tz e he]; exact az_ok c hcz
  refine names_comp (e0 := some (.ref p)) (e4 := none) (e5 := none) (e6 := none) (a := a) (tail := tail) tail7 fun S4 h4 at4 => ?_
  have nl := len8 (nameAt a tail)
  have nv : ∀ x ∈ (rgW 0 8).map (nameAt a tail), isNm x = true := fun x hx => by
    obtain ⟨w, _, rfl⟩ := List.mem_map.mp hx
    exact nameAt_ok tail7 tailz
  generalize (rgW 0 8).map (nameAt a tail) = ns at at4 nl nv
  have e12 : 12 ≤ sizeLine := by decide
  have e2 : 2 ≤ sizeLine := by decide
  have e14 : 14 ≤ sizeLine := by decide
  refine ⟨e12, ?_⟩
  refine ⟨e2, ?_⟩
  refine add_lst (Ex.one.at (new_at S4 _)) (new_at _ _) e14 ?_
  have at5 := new_at (S4 ++ [O.lst [W.str "num", .str "name", .str "fun", .str "call", .str "let", .str "now", .str "letall", .str "made", .str "by", .str "sum", .str "minus", .str "less"]] ++ [O.lst [W.str "same", .str "yes"]]) (.lst (words.map W.str))
  have ex5 : Ex S4 (S4 ++ [O.lst [W.str "num", .str "name", .str "fun", .str "call", .str "let", .str "now", .str "letall", .str "made", .str "by", .str "sum", .str "minus", .str "less"]] ++ [O.lst [W.str "same", .str "yes"]]) := Ex.one.trans Ex.one
  generalize S4 ++ [O.lst [W.str "num", .str "name", .str "fun", .str "call", .str "let", .str "now", .str "letall", .str "made", .str "by", .str "sum", .str "minus", .str "less"]] ++ [O.lst [W.str "same", .str "yes"]] = S5 at at5 ex5 ⊢
  show mFor _ _ _ _ [some (.ref p), some (.str AZ), some (.int a), some (.str tail), some (.ref S3.length), some (.ref S5.length), none, none] (S5 ++ [.lst (words.map W.str)])
  generalize hS6 : S5 ++ [O.lst (words.map W.str)] = S6 at at5 ⊢
  have e4 : 4 ≤ sizeLine := by decide
  have ex6 : Ex S4 S6 := ex5.trans ⟨_, hS6.symm⟩
  have fd6 : FdS S6 p := (fd3.ex h4).ex ex6
  have at6 : S6[S3.length]? = some (.lst (ns.map W.str)) := ex6.at at4
  have p3 : p < S3.length := fd3.lt
  have p5 : S3.length < S5.length := Nat.lt_of_lt_of_le (lt_len at4) ex5.len
  refine ⟨e4, ?_⟩
  refine pick_call (l := [W.int 0, .int 0, .int 1, .int 4]) (fd6.ex Ex.one) (fun z => ?_) (by unfold seqW; dsimp only; rw [new_at]) (by show 0 < 4; decide) (by show 4 < 1000000; decide) fun x S7 hx f7 fd7 => ?_
  · have := W.ref.inj z
    have l6 := lt_len at5
    omega
  obtain ⟨r, rfl, r0, r1⟩ : ∃ r : Int, x = .int r ∧ 0 ≤ r ∧ r ≤ 4 := by
    simp only [List.mem_cons, List.not_mem_nil, or_false] at hx
    rcases hx with rfl | rfl | rfl | rfl <;> exact ⟨_, rfl, by decide, by decide⟩
  refine ⟨⟨by omega, by omega⟩, ?_⟩
  have a7 : S7[S3.length]? = some (.lst (ns.map W.str)) := f7.keep _ _ (by simp; omega) (Ex.one.at at6)
  have b7 : S7[S5.length]? = some (.lst (words.map W.str)) := f7.keep _ _ (by simp; omega) (Ex.one.at at5)
  refine names_turns (f := S3.length) (w := S5.length) (by omega) (by omega) (by omega) _ S7 ns none fd7 a7 nl nv b7 fun S8 ns8 e6 f8 fd8 a8 l8 n8 => ?_
  have f17 : Fx [p] S S7 := ((f13.trans (Fx.ex (h4.trans ex6))).trans (Fx.ex Ex.one)).trans f7
  refine q S3.length ns8 S8 ⟨Nat.le_trans f17.len f8.len, fun n o hn e => f8.keep n o (fun z => ?_) (f17.keep n o hn e)⟩ fd8 f13.len a8 l8 n8
  rcases List.mem_cons.mp z with z | z
  · exact hn (List.mem_singleton.mpr z)
  · have h1 := List.mem_singleton.mp z
    have h2 := lt_len e
    have h3 := f13.len
    omega
end Ev05

set_option Elab.async false
set_option linter.all false
set_option maxRecDepth 100000
set_option maxHeartbeats 1000000
/-! A few names; a made thing; a leaf. -/
namespace Ev05
open PySem PySem.Spec PyProof.Rows L2 Ow Ev OwT EvT
/-- the source of numbers at p, the names at nl -/
structure Src (S : Store) (p nl : Nat) (ns : List Str) : Prop where
  fd : FdS S p
  at_ : S[nl]? = some (.lst (ns.map W.str))
  ne : nl ≠ p
  pos : 0 < ns.length
  few : ns.length ≤ 8
  ok : ∀ x ∈ ns, isNm x = true
theorem Src.to {S S' : Store} {p nl : Nat} {ns : List Str} {ps : List Nat} (s : Src S p nl ns) (f : Fx ps S S') (h : FdS S' p) (n : nl ∉ ps) : Src S' p nl ns := ⟨h, f.keep _ _ n s.at_, s.ne, s.pos, s.few, s.ok⟩
theorem Src.one {S S' : Store} {p nl : Nat} {ns : List Str} (s : Src S p nl ns) (f : Fx [p] S S') (h : FdS S' p) : Src S' p nl ns := s.to f h (by simpa using s.ne)
theorem Src.ex {S S' : Store} {p nl : Nat} {ns : List Str} (s : Src S p nl ns) (h : Ex S S') : Src S' p nl ns := s.one (Fx.ex h) (s.fd.ex h)
theorem Src.seq {S : Store} {p nl : Nat} {ns : List Str} (s : Src S p nl ns) : seqW (.ref nl) S = some (ns.map W.str) := by
  unfold seqW
  dsimp only
  rw [s.at_]
/-- pick(feed, names) -/
theorem name_call {S : Store} {p nl : Nat} {ns : List Str} {Q : WK} (s : Src S p nl ns) (q : ∀ x S', x ∈ ns → Fx [p] S S' → Src S' p nl ns → Q (.str x) S') : conR PickC [.ref p, .ref nl] S Q := by
  refine pick_call (l := ns.map W.str) s.fd (fun z => s.ne (W.ref.inj z)) s.seq (by rw [List.length_map]; exact s.pos) (by rw [List.length_map]; have := s.few; omega) fun w S' hw f fd => ?_
  obtain ⟨x, hx, rfl⟩ := List.mem_map.mp hw
  exact q x S' hx f (s.one f fd)
def FewC : Con := ⟨Nat × Nat × List Str × Int, fun (p, nl, ns, m) ws S => ws = [.ref p, .ref nl, .int m] ∧ Src S p nl ns ∧ 0 ≤ m ∧ m ≤ 6,
  fun (p, nl, ns, m) S w S' => ∃ ys : List Str, w = .tup (ys.map W.str) ∧ (ys.length : Int) ≤ m ∧ ys.Nodup ∧ (∀ y ∈ ys, y ∈ ns) ∧ Fx [p] S S' ∧ Src S' p nl ns⟩
theorem few_call {p nl : Nat} {ns : List Str} {m : Int} {S : Store} {Q : WK} (s : Src S p nl ns) (h0 : 0 ≤ m) (h6 : m ≤ 6) (q : ∀ (ys : List Str) S', (ys.length : Int) ≤ m → ys.Nodup → (∀ y ∈ ys, y ∈ ns) → Fx [p] S S' → Src S' p nl ns → Q (.tup (ys.map W.str)) S') : conR FewC [.ref p, .ref nl, .int m] S Q :=
  ⟨(p, nl, ns, m), ⟨rfl, s, h0, h6⟩, fun w S' ⟨ys, e, a, b, c, d, f⟩ => by rw [e]; exact q ys S' a b c d f⟩
theorem few_turns {p nl f : Nat} {ns : List Str} {D : MD} {e2 : Option W} (hfp : f ≠ p) (hfn : f ≠ nl) : ∀ (ws : List W) (S : Store) (ys : List Str) (e4 e5 : Option W), Src S p nl ns → S[f]? = some (.lst (ys.map W.str)) → ys.Nodup → (∀ y ∈ ys, y ∈ ns) → ys.length + ws.length ≤ 100 →
    (∀ (S' : Store) (zs : List Str) (e4 e5 : Option W), Fx [p, f] S S' → Src S' p nl ns → S'[f]? = some (.lst (zs.map W.str)) → zs.Nodup → (∀ y ∈ zs, y ∈ ns) → zs.length ≤ ys.length + ws.length → D.nx [some (.ref p), some (.ref nl), e2, some (.ref f), e4, e5] S') →
    forL (fun _ => True) (mgName 4) (mSeq (mAsg (mCB (conR PickC) (mCons (mVar 0) (mCons (mVar 1) mNil))) (mgName 5))
      (mIfS (mTest (mBin wNotIn (mVar 5) (mVar 3))) (mDrop (mBM wAppend (mVar 3) (mCons (mVar 5) mNil))) mNext)) D ws [some (.ref p), some (.ref nl), e2, some (.ref f), e4, e5] S
  | [], S, ys, e4, e5, s, hf, nd, hy, _, q => ⟨trivial, q S ys e4 e5 Fx.refl s hf nd hy (by simp)⟩
  | w :: ws, S, ys, e4, e5, s, hf, nd, hy, hl, q => by
    rw [List.length_cons] at hl
    refine ⟨trivial, ?_⟩
    refine name_call s fun x S1 hx f1 s1 => ?_
    have hf1 : S1[f]? = some (.lst (ys.map W.str)) := f1.keep _ _ (by simpa using hfp) hf
    have fx : Fx [p, f] S S1 := f1.mono fun n hn => List.mem_cons.mpr (.inl (List.mem_singleton.mp hn))
    simp only [mIfS, mTest, mBin, mVar, lk, mgName, List.set]
    refine wIn_strsL hf1 ?_
    rw [Bool.true_xor]
    refine ifNB (fun e => ?_) fun e => ?_
    · have hn := of_decide_eq_false e
      refine ⟨?_, ?_⟩
      · show oL S1[f]? _
        rw [hf1]
        trivial
      · show oL S1[f]? _
        rw [hf1]
        refine ⟨by rw [List.length_map]; exact Nat.lt_of_lt_of_le (show ys.length < 101 by omega) (by decide), ?_⟩
        have e9 : ys.map W.str ++ [.str x] = (ys ++ [x]).map W.str := by rw [List.map_append]; rfl
        rw [e9]
        have s2 : Src (S1.set f (.lst ((ys ++ [x]).map W.str))) p nl ns := by
          refine s1.to (ps := [f]) (Fx.set List.mem_cons_self) ?_ (by simpa using Ne.symm hfn)
          obtain ⟨d, st, a, r⟩ := s1.fd
          exact ⟨d, st, by rw [List.getElem?_set_ne hfp]; exact a, r⟩
        refine few_turns hfp hfn ws _ (ys ++ [x]) _ _ s2 (get_set hf1) ?_ (fun y hy' => ?_) (by rw [List.length_append, List.length_singleton]; omega) fun S' zs e4 e5 f' s' a b c d => ?_
        · refine List.nodup_append.mpr ⟨nd, by simp, fun a ha b hb => ?_⟩
          rw [List.mem_singleton.mp hb]
          exact fun z => hn (z ▸ ha)
        · rcases List.mem_append.mp hy' with h | h
          · exact hy y h
          · rw [List.mem_singleton.mp h]
            exact hx
        · rw [List.length_append, List.length_singleton] at d
          exact q S' zs e4 e5 ((fx.trans (Fx.set (List.mem_cons_of_mem _ List.mem_cons_self))).trans f') s' a b c (by rw [List.length_cons]; omega)
    · refine few_turns hfp hfn ws S1 ys _ _ s1 hf1 nd hy (by omega) fun S' zs e4 e5 f' s' a b c d => ?_
      exact q S' zs e4 e5 (fx.trans f') s' a b c (by rw [List.length_cons]; omega)
theorem range_len (n : Nat) : (rgW 0 n).length = n := by
  unfold rgW
  rw [List.length_map, List.length_range]
theorem vc_few {p nl : Nat} {ns : List Str} {m : Int} {S : Store} {D : MD} (s : Src S p nl ns) (h0 : 0 ≤ m) (h6 : m ≤ 6) (q : ∀ (ys : List Str) S', (ys.length : Int) ≤ m → ys.Nodup → (∀ y ∈ ys, y ∈ ns) → Fx [p] S S' → Src S' p nl ns → D.rt (.tup (ys.map W.str)) S') :
    m_x_law_few TakeC PickC D [some (.ref p), some (.ref nl), some (.int m), none, none, none] S := by
  have z0 : 0 ≤ sizeLine := Nat.zero_le _
  refine ⟨z0, ?_⟩
  have s1 := s.ex (Ex.one (o := .lst []))
  have at1 := new_at S (.lst [])
  have pl := s.fd.lt
  have nll := lt_len s.at_
  refine take_call s1.fd (by omega) (by omega) fun r S2 r0 r1 f2 fd2 => ?_
  refine ⟨⟨by omega, by omega⟩, ?_⟩
  have s2 := s1.one f2 fd2
  have at2 : S2[S.length]? = some (.lst []) := f2.keep _ _ (by simp; omega) at1
  refine few_turns (f := S.length) (ns := ns) (by omega) (by omega) (rgW 0 r.toNat) S2 [] none none s2 at2 List.nodup_nil (fun y h => by cases h) (by rw [range_len]; show 0 + r.toNat ≤ 100; omega) fun S3 zs e4 e5 f3 s3 a b c d => ?_
  rw [range_len] at d
  show oL S3[S.length]? _
  rw [a]
  refine q zs S3 (by have : ([] : List Str).length = 0 := rfl; omega) b c ?_ s3
  have f12 : Fx [p] S S2 := (Fx.ex Ex.one).trans f2
  exact ⟨Nat.le_trans f12.len f3.len, fun n o hn e => f3.keep n o (fun z => by
    rcases List.mem_cons.mp z with z | z
    · exact hn (List.mem_singleton.mpr z)
    · have h1 := List.mem_singleton.mp z
      have h2 := lt_len e
      omega) (f12.keep n o hn e)⟩
end Ev05

set_option Elab.async false
set_option linter.all false
set_option maxRecDepth 100000
set_option maxHeartbeats 1000000
namespace Ev05
open PySem PySem.Spec PyProof.Rows L2 Ow Ev OwT EvT
/-- [e for x in ws], where e draws from the source: each value is as P says -/
theorem lcL_fx {chk : Store → Prop} {i : Nat} {te : ME} {env : EvS} {Q : WK} {n : Nat} {ps : List Nat} (Inv : Store → Prop) (P : W → Prop) (hc : ∀ S, chk S) (hn : n ∉ ps) (hset : ∀ S o, Inv S → Inv (S.set n o))
    (step : ∀ (w : W) (S : Store) (k : WK), Inv S → (∀ v S', P v → Fx ps S S' → Inv S' → k v S') → te (env.set i (some w)) S k) :
    ∀ (ws acc : List W) (S : Store), Inv S → S[n]? = some (.lst acc) → acc.length + ws.length ≤ sizeLine →
      (∀ (S' : Store) (vs : List W), Fx (n :: ps) S S' → Inv S' → S'[n]? = some (.lst (acc ++ vs)) → vs.length = ws.length → (∀ v ∈ vs, P v) → Q (.ref n) S') → lcL chk (mgName i) mYes te n env Q ws S
  | [], acc, S, hi, ha, _, q => ⟨hc S, q S [] Fx.refl hi (by simpa using ha) rfl (fun v h => by cases h)⟩
  | w :: ws, acc, S, hi, ha, hl, q => by
    rw [List.length_cons] at hl
    refine ⟨hc S, ?_⟩
    refine iteT (B := lcL chk (mgName i) mYes te n env Q ws S) ?_
    refine step w S _ hi fun v S' hv f hi' => ?_
    have ha' := f.keep n _ hn ha
    refine ⟨acc, ha', by omega, ?_⟩
    refine lcL_fx Inv P hc hn hset step ws (acc ++ [v]) _ (hset _ _ hi') (get_set ha') (by rw [List.length_append, List.length_singleton]; omega) fun S2 vs f2 hi2 h2 hl2 hp2 => ?_
    refine q S2 (v :: vs) ?_ hi2 (by rw [h2, List.append_assoc]; rfl) (by rw [List.length_cons, List.length_cons, hl2]) (fun u hu => ?_)
    · exact ((f.mono fun m hm => List.mem_cons_of_mem _ hm).trans (Fx.set List.mem_cons_self)).trans f2
    · rcases List.mem_cons.mp hu with rfl | hu
      · exact hv
      · exact hp2 u hu
theorem Src.put {S : Store} {p nl n : Nat} {ns : List Str} {o : O} (s : Src S p nl ns) (h1 : n ≠ p) (h2 : n ≠ nl) : Src (S.set n o) p nl ns := by
  refine s.to (ps := [n]) (Fx.set List.mem_cons_self) ?_ (by simpa using Ne.symm h2)
  obtain ⟨d, st, a, r⟩ := s.fd
  exact ⟨d, st, by rw [List.getElem?_set_ne h1]; exact a, r⟩
theorem fx_new {ps : List Nat} {S S' : Store} {o : O} (f : Fx (S.length :: ps) (S ++ [o]) S') : Fx ps S S' :=
  ⟨Nat.le_trans (by rw [List.length_append]; omega) f.len, fun n u hn e => f.keep n u (fun z => by
    rcases List.mem_cons.mp z with z | z
    · have := lt_len e
      omega
    · exact hn z) (Ex.one.at e)⟩
/-- ('made', x, xs) of the names -/
def OneC (good : T → List Str → Prop) : Con := ⟨Nat × Nat × List Str, fun (p, nl, ns) ws S => ws = [.ref p, .ref nl] ∧ Src S p nl ns, fun (p, nl, ns) S w S' => ∃ t, w = tW t ∧ good t ns ∧ Fx [p] S S' ∧ Src S' p nl ns⟩
def isMk (t : T) (ns : List Str) : Prop := ∃ c xs, t = .mk c xs ∧ c ∈ ns ∧ xs.length ≤ 3 ∧ ∀ x ∈ xs, x ∈ ns
def isLeaf (t : T) (ns : List Str) : Prop := Good ns t ∧ nodes t = 1 ∧ deep t = 1 ∧ WF t
theorem one_call {good : T → List Str → Prop} {p nl : Nat} {ns : List Str} {S : Store} {Q : WK} (s : Src S p nl ns) (q : ∀ t S', good t ns → Fx [p] S S' → Src S' p nl ns → Q (tW t) S') : conR (OneC good) [.ref p, .ref nl] S Q :=
  ⟨(p, nl, ns), ⟨rfl, s⟩, fun w S' ⟨t, e, a, b, c⟩ => by rw [e]; exact q t S' a b c⟩
theorem strs_in {ns : List Str} : ∀ {vs : List W}, (∀ v ∈ vs, ∃ x ∈ ns, v = .str x) → ∃ xs : List Str, vs = xs.map W.str ∧ ∀ x ∈ xs, x ∈ ns
  | [], _ => ⟨[], rfl, (fun x h => by cases h)⟩
  | v :: vs, h => by
    obtain ⟨x, hx, rfl⟩ := h v List.mem_cons_self
    obtain ⟨xs, rfl, hs⟩ := strs_in fun v hv => h v (List.mem_cons_of_mem _ hv)
    refine ⟨x :: xs, rfl, fun y hy => ?_⟩
    rcases List.mem_cons.mp hy with rfl | hy
    · exact hx
    · exact hs y hy
theorem vc_made {p nl : Nat} {ns : List Str} {S : Store} {D : MD} (s : Src S p nl ns) (q : ∀ t S', isMk t ns → Fx [p] S S' → Src S' p nl ns → D.rt (tW t) S') : m_x_law_made TakeC PickC D [some (.ref p), some (.ref nl), none, none] S := by
  refine take_call s.fd (by decide) (by decide) fun r S1 r0 r1 f1 fd1 => ?_
  have s1 := s.one f1 fd1
  refine ⟨⟨by omega, by omega⟩, ?_⟩
  have pl := s1.fd.lt
  have nll := lt_len s1.at_
  refine lcL_fx (n := S1.length) (ps := [p]) (env := [some (.ref p), some (.ref nl), none, none]) (i := 3) (fun S' => Src S' p nl ns) (fun v => ∃ x ∈ ns, v = .str x) (fun _ => trivial) (by simp; omega) (fun S' o h => h.put (by omega) (by omega)) (fun w S2 k h z => ?_) (rgW 0 r.toNat) [] _ (s1.ex Ex.one) (new_at S1 _) (by rw [range_len]; exact Nat.le_trans (show 0 + r.toNat ≤ 100 by omega) (by decide)) fun S2 vs f2 s2 a2 l2 p2 => ?_
  · exact name_call h fun x S3 hx f3 s3 => z _ _ ⟨x, hx, rfl⟩ f3 s3
  · obtain ⟨xs, rfl, hxs⟩ := strs_in p2
    rw [range_len, List.length_map] at l2
    have f12 : Fx [p] S S2 := f1.trans (fx_new f2)
    rw [List.nil_append] at a2
    refine name_call s2 fun x S3 hx f3 s3 => ?_
    show oL S3[S1.length]? _
    rw [f3.keep _ _ (by simp; omega) a2]
    exact ⟨by show 3 ≤ sizeLine; decide, q (.mk x xs) S3 ⟨x, xs, rfl, hx, by omega, hxs⟩ (f12.trans f3) s3⟩
end Ev05

set_option Elab.async false
set_option linter.all false
set_option maxRecDepth 100000
set_option maxHeartbeats 1000000
namespace Ev05
open PySem PySem.Spec PyProof.Rows L2 Ow Ev OwT EvT
theorem mk_leaf {t : T} {ns : List Str} (ok : ∀ x ∈ ns, isNm x = true) (h : isMk t ns) : isLeaf t ns := by
  obtain ⟨c, xs, rfl, hc, hl, hx⟩ := h
  exact ⟨⟨hc, hx, hl⟩, rfl, rfl, ok c hc, hl, fun x h => ok x (hx x h)⟩
theorem vc_leaf {p nl : Nat} {ns : List Str} {S : Store} {D : MD} (s : Src S p nl ns) (q : ∀ t S', isLeaf t ns → Fx [p] S S' → Src S' p nl ns → D.rt (tW t) S') : m_x_law_leaf TakeC PickC (OneC isMk) D [some (.ref p), some (.ref nl), none, none] S := by
  have e6 : 6 ≤ sizeLine := by decide
  have e2 : 2 ≤ sizeLine := by decide
  have e3 : 3 ≤ sizeLine := by decide
  refine take_call s.fd (by decide) (by decide) fun r S1 r0 r1 f1 fd1 => ?_
  have s1 := s.one f1 fd1
  simp only [mSeq, mIfS, mTest, mBin, mVar, mC, lk, mgName, List.set]
  rw [wEq_int]
  refine ifB (fun e => ?_) fun e => ?_
  · simp only [mRet, mTup, mCB, mCons, mNil, mC, mVar, lk, mLst, mNeg, mBin]
    refine ⟨⟨by decide, by decide, by decide⟩, ?_⟩
    refine ⟨⟨by decide, by decide, by decide⟩, trivial, ?_⟩
    refine take_call fd1 (by decide) (by decide) fun v S2 v0 v1 f2 fd2 => ?_
    have s2 := s1.one f2 fd2
    refine ⟨trivial, e6, ?_⟩
    refine pick_call (l := [W.int 0, .int 1, .int (-1), .int (10 ^ 18), .int (0 - 10 ^ 18), .int (v - 40)]) (s2.ex Ex.one).fd (fun z => ?_) (by unfold seqW; dsimp only; rw [new_at]; rfl) (by show 0 < 6; decide) (by show 6 < 1000000; decide) fun x S3 hx f3 fd3 => ?_
    · have := W.ref.inj z
      have h2 := s2.fd.lt
      omega
    have s3 := (s2.ex Ex.one).one f3 fd3
    obtain ⟨n, rfl, hn⟩ : ∃ n : Int, x = .int n ∧ n.natAbs ≤ 10 ^ 18 := by
      simp only [List.mem_cons, List.not_mem_nil, or_false] at hx
      rcases hx with rfl | rfl | rfl | rfl | rfl | rfl
      · exact ⟨_, rfl, by decide⟩
      · exact ⟨_, rfl, by decide⟩
      · exact ⟨_, rfl, by decide⟩
      · exact ⟨_, rfl, by decide⟩
      · exact ⟨_, rfl, by decide⟩
      · exact ⟨_, rfl, by omega⟩
    exact ⟨e2, q (.num n) S3 ⟨hn, rfl, rfl, by omega, by omega⟩ (((f1.trans f2).trans (Fx.ex Ex.one)).trans f3) s3⟩
  try simp only [mNext, mSeq, mIfS, mTest, mBin, mVar, mC, lk]
  rw [wEq_int]
  refine ifB (fun e => ?_) fun e => ?_
  · exact one_call s1 fun t S2 ht f2 s2 => q t S2 (mk_leaf s.ok ht) (f1.trans f2) s2
  try simp only [mNext, mSeq, mIfS, mTest, mBin, mVar, mC, lk]
  rw [wEq_int]
  refine ifB (fun e => ?_) fun e => ?_
  · refine name_call s1 fun x S2 hx f2 s2 => ?_
    exact ⟨e2, q (.nam x) S2 ⟨hx, rfl, rfl, s.ok x hx⟩ (f1.trans f2) s2⟩
  try simp only [mNext, mSeq, mAsg, mCB, mCons, mNil, mLst, mVar, mC, lk]
  refine ⟨e6, ?_⟩
  refine pick_call (l := [("call" : Str), "sum", "minus", "less", "same", "call"].map W.str) (s1.ex Ex.one).fd (fun z => ?_) (by unfold seqW; dsimp only; rw [new_at]; rfl) (by show 0 < 6; decide) (by show 6 < 1000000; decide) fun x S3 hx f3 fd3 => ?_
  · have := W.ref.inj z
    have h2 := s1.fd.lt
    omega
  have s3 := (s1.ex Ex.one).one f3 fd3
  obtain ⟨w, hw, rfl⟩ := List.mem_map.mp hx
  have tw : w ∈ twos := by
    have : ∀ w ∈ [("call" : Str), "sum", "minus", "less", "same", "call"], w ∈ twos := by decide
    exact this w hw
  have f13 : Fx [p] S S3 := (f1.trans (Fx.ex Ex.one)).trans f3
  refine name_call s3 fun x S4 hx f4 s4 => ?_
  refine name_call s4 fun y S5 hy f5 s5 => ?_
  exact ⟨e3, q (.two w x y) S5 ⟨⟨tw, hx, hy⟩, rfl, rfl, tw, s.ok x hx, s.ok y hy⟩ ((f13.trans f4).trans f5) s5⟩
end Ev05

set_option Elab.async false
set_option linter.all false
set_option maxRecDepth 100000
set_option maxHeartbeats 1000000
/-! Worths and terms. -/
namespace Ev05
open PySem PySem.Spec PyProof.Rows L2 Ow Ev OwT EvT
mutual
def lay : W → Nat
  | .tup l => 1 + lays l
  | _ => 0
def lays : List W → Nat
  | [] => 0
  | w :: l => max (lay w) (lays l)
end
theorem lays_app (w : W) : ∀ l : List W, lays (l ++ [w]) = max (lays l) (lay w)
  | [] => by
    show max (lay w) 0 = max 0 (lay w)
    omega
  | x :: l => by
    show max (lay x) (lays (l ++ [w])) = max (max (lay x) (lays l)) (lay w)
    rw [lays_app w l]
    omega
theorem lays_strs : ∀ xs : List Str, lays (xs.map W.str) = 0
  | [] => rfl
  | x :: xs => by
    show max 0 (lays (xs.map W.str)) = 0
    rw [lays_strs xs]
    rfl
theorem leaf_lay {t : T} (w : WF t) (h : nodes t = 1) : lay (tW t) ≤ 2 := by
  cases t with
  | num n => show 1 + 0 ≤ 2; omega
  | nam x => show 1 + 0 ≤ 2; omega
  | two w x y => show 1 + 0 ≤ 2; omega
  | mk c xs =>
    show 1 + max 0 (max 0 (max (1 + lays (xs.map W.str)) 0)) ≤ 2
    rw [lays_strs]
    omega
  | fn x e =>
    have a : nodes (.fn x e) = 1 + nodes e := rfl
    have := nodes_pos e
    omega
  | lt z x e b =>
    have a : nodes (.lt z x e b) = 1 + nodes e + nodes b := rfl
    have := nodes_pos e
    omega
  | all ps b =>
    have a : nodes (.all ps b) = 1 + nodesPs ps + nodes b := rfl
    have := nodes_pos b
    omega
  | by_ x bs =>
    cases bs with
    | nil =>
      have := w.2.1.1
      have e : (headsB Bs.nil).length = 0 := rfl
      omega
    | cons c ys e r =>
      have a : nodes (.by_ x (.cons c ys e r)) = 1 + (nodes e + nodesBs r) := rfl
      have := nodes_pos e
      omega
structure Bx (S : Store) (p nl bx : Nat) (ns : List Str) (b : Int) : Prop where
  src : Src S p nl ns
  box : S[bx]? = some (.lst [.int b])
  n1 : bx ≠ p
  n2 : bx ≠ nl
theorem Bx.one {S S' : Store} {p nl bx : Nat} {ns : List Str} {b : Int} (x : Bx S p nl bx ns b) (f : Fx [p] S S') (s : Src S' p nl ns) : Bx S' p nl bx ns b := ⟨s, f.keep _ _ (by simpa using x.n1) x.box, x.n1, x.n2⟩
theorem Bx.ex {S S' : Store} {p nl bx : Nat} {ns : List Str} {b : Int} (x : Bx S p nl bx ns b) (h : Ex S S') : Bx S' p nl bx ns b := x.one (Fx.ex h) (x.src.ex h)
theorem Bx.set {S : Store} {p nl bx : Nat} {ns : List Str} {b : Int} (c : Int) (x : Bx S p nl bx ns b) : Bx (S.set bx (.lst [.int c])) p nl bx ns c := ⟨x.src.put x.n1 x.n2, get_set x.box, x.n1, x.n2⟩
theorem Bx.put {S : Store} {p nl bx n : Nat} {ns : List Str} {b : Int} {o : O} (x : Bx S p nl bx ns b) (h1 : n ≠ p) (h2 : n ≠ nl) (h3 : n ≠ bx) : Bx (S.set n o) p nl bx ns b := ⟨x.src.put h1 h2, by rw [List.getElem?_set_ne h3]; exact x.box, x.n1, x.n2⟩
abbrev Box := Nat × Nat × Nat × List Str × Int × Int
def TermC (n : Nat) : Con := ⟨Box, fun (p, nl, bx, ns, b, d) ws S => ws = [.ref p, .ref nl, .ref bx, .int d] ∧ Bx S p nl bx ns b ∧ d ≤ n,
  fun (p, nl, bx, ns, b, d) S w S' => ∃ (t : T) (b' : Int), w = tW t ∧ Good ns t ∧ WF t ∧ (nodes t : Int) = b - b' ∧ min (b - 1) (-(16 * (n : Int))) ≤ b' ∧ (deep t ≤ 2 * n + 1 ∧ lay (tW t) ≤ 3 * n + 2 + min n 1) ∧ Fx [p, bx] S S' ∧ Bx S' p nl bx ns b'⟩
def WorthC (n : Nat) : Con := ⟨Box, fun (p, nl, bx, ns, b, d) ws S => ws = [.ref p, .ref nl, .ref bx, .int d] ∧ Bx S p nl bx ns b ∧ d ≤ n,
  fun (p, nl, bx, ns, b, d) S w S' => ∃ (t : T) (b' : Int), w = tW t ∧ Good ns t ∧ WF t ∧ worthT t ∧ (nodes t : Int) = b - b' ∧ min (b - 2) (-(16 * (n : Int))) ≤ b' ∧ (deep t ≤ 2 * n + 2 ∧ lay (tW t) ≤ 3 + 3 * (n - 1) + min (n - 1) 1) ∧ Fx [p, bx] S S' ∧ Bx S' p nl bx ns b'⟩
theorem term_call {n p nl bx : Nat} {ns : List Str} {b d : Int} {S : Store} {Q : WK} (x : Bx S p nl bx ns b) (hd : d ≤ n) (q : ∀ t b' S', Good ns t → WF t → (nodes t : Int) = b - b' → min (b - 1) (-(16 * (n : Int))) ≤ b' → (deep t ≤ 2 * n + 1 ∧ lay (tW t) ≤ 3 * n + 2 + min n 1) → Fx [p, bx] S S' → Bx S' p nl bx ns b' → Q (tW t) S') : conR (TermC n) [.ref p, .ref nl, .ref bx, .int d] S Q :=
  ⟨(p, nl, bx, ns, b, d), ⟨rfl, x, hd⟩, fun w S' ⟨t, b', e, a1, a2, a3, a4, a5, a6, a7⟩ => by rw [e]; exact q t b' S' a1 a2 a3 a4 a5 a6 a7⟩
theorem worth_call {n p nl bx : Nat} {ns : List Str} {b d : Int} {S : Store} {Q : WK} (x : Bx S p nl bx ns b) (hd : d ≤ n) (q : ∀ t b' S', Good ns t → WF t → worthT t → (nodes t : Int) = b - b' → min (b - 2) (-(16 * (n : Int))) ≤ b' → (deep t ≤ 2 * n + 2 ∧ lay (tW t) ≤ 3 + 3 * (n - 1) + min (n - 1) 1) → Fx [p, bx] S S' → Bx S' p nl bx ns b' → Q (tW t) S') : conR (WorthC n) [.ref p, .ref nl, .ref bx, .int d] S Q :=
  ⟨(p, nl, bx, ns, b, d), ⟨rfl, x, hd⟩, fun w S' ⟨t, b', e, a1, a2, a8, a3, a4, a5, a6, a7⟩ => by rw [e]; exact q t b' S' a1 a2 a8 a3 a4 a5 a6 a7⟩
theorem fx1 {p bx : Nat} {S S' : Store} (f : Fx [p] S S') : Fx [p, bx] S S' := f.mono fun n hn => List.mem_cons.mpr (.inl (List.mem_singleton.mp hn))
/-- box[0] = box[0] - 1 -/
theorem dec_box {p nl bx : Nat} {ns : List Str} {b : Int} {S : Store} {env : EvS} {R : EvS → Store → Prop} (x : Bx S p nl bx ns b) (hv : lk env 2 = some (.ref bx)) (q : Bx (S.set bx (.lst [.int (b - 1)])) p nl bx ns (b - 1) → Fx [p, bx] S (S.set bx (.lst [.int (b - 1)])) → R env (S.set bx (.lst [.int (b - 1)]))) :
    mBin wSub (mBin wIx (mVar 2) (mC (.int 0))) (mC (.int 1)) env S fun w S1 => mgSub (mVar 2) (mC (.int 0)) w env S1 R := by
  simp only [mBin, mVar, mC, mgSub]
  rw [hv]
  refine ix_at x.box wAt0 ?_
  refine ⟨trivial, ?_⟩
  refine set_at x.box (c := 0) rfl ?_
  exact q (x.set _) (Fx.set (by simp))
theorem vc_worth {n m p nl bx : Nat} {ns : List Str} {b d : Int} {S : Store} {D : MD} (hm : m = n - 1) (x : Bx S p nl bx ns b) (hd : d ≤ n)
    (q : ∀ t b' S', Good ns t → WF t → worthT t → (nodes t : Int) = b - b' → min (b - 2) (-(16 * (n : Int))) ≤ b' → (deep t ≤ 2 * n + 2 ∧ lay (tW t) ≤ 3 + 3 * (n - 1) + min (n - 1) 1) → Fx [p, bx] S S' → Bx S' p nl bx ns b' → D.rt (tW t) S') :
    m_x_law_worth TakeC (OneC isMk) (TermC m) PickC D [some (.ref p), some (.ref nl), some (.ref bx), some (.int d)] S := by
  have e3 : 3 ≤ sizeLine := by decide
  unfold m_x_law_worth
  simp only [mSeq, mAsg]
  refine dec_box x rfl fun x1 f1 => ?_
  simp only [mIfS, mTest, mBin, mCB, mCons, mNil, mVar, mC, lk]
  refine take_call x1.src.fd (by decide) (by decide) fun r S2 r0 r1 f2 fd2 => ?_
  have s2 := x1.src.one f2 fd2
  have x2 := x1.one f2 s2
  have f12 := f1.trans (fx1 f2)
  rw [wEq_int]
  refine ifB (fun e => ?_) fun e => ?_
  · refine one_call s2 fun t S3 ht f3 s3 => ?_
    obtain ⟨a, b1, c, w⟩ := mk_leaf s2.ok ht
    have wt : worthT t := by
      obtain ⟨c, xs, rfl, _⟩ := ht
      trivial
    have ll := leaf_lay w b1
    exact q t (b - 1) S3 a w wt (by omega) (by omega) (by omega) (f12.trans (fx1 f3)) (x2.one f3 s3)
  · refine name_call s2 fun y S3 hy f3 s3 => ?_
    have x3 := x2.one f3 s3
    refine ⟨trivial, ?_⟩
    refine term_call x3 (show d - 1 ≤ (m : Int) by omega) fun t b' S4 g w hn hlo hdp f4 x4 => ?_
    have hn2 : (nodes (.fn y t) : Int) = b - b' := by
      have : nodes (.fn y t) = 1 + nodes t := rfl
      omega
    exact ⟨e3, q (.fn y t) b' S4 ⟨hy, g⟩ ⟨x.src.ok y hy, w⟩ trivial hn2 (by omega) (by show 1 + deep t ≤ 2 * n + 2 ∧ 1 + max 0 (max 0 (max (lay (tW t)) 0)) ≤ 3 + 3 * (n - 1) + min (n - 1) 1; omega) ((f12.trans (fx1 f3)).trans f4) x4⟩
end Ev05

set_option Elab.async false
set_option linter.all false
set_option maxRecDepth 100000
set_option maxHeartbeats 1000000
/-! Terms with other names. -/
namespace Ev06
open PySem PySem.Spec PyProof.Rows L2 Ow Ev OwT EvT Ev05
mutual
def ren (f : Str → Str) : T → T
  | .num n => .num n
  | .nam x => .nam (f x)
  | .fn x e => .fn (f x) (ren f e)
  | .two w x y => .two w (f x) (f y)
  | .lt w x e b => .lt w (f x) (ren f e) (ren f b)
  | .all ps b => .all (renPs f ps) (ren f b)
  | .mk c xs => .mk (f c) (xs.map f)
  | .by_ x bs => .by_ (f x) (renBs f bs)
def renPs (f : Str → Str) : Ps → Ps
  | .nil => .nil
  | .cons x e r => .cons (f x) (ren f e) (renPs f r)
def renBs (f : Str → Str) : Bs → Bs
  | .nil => .nil
  | .cons c ys e r => .cons (f c) (ys.map f) (ren f e) (renBs f r)
end
def Inj (f : Str → Str) (ns : List Str) : Prop := ∀ x ∈ ns, ∀ y ∈ ns, f x = f y → x = y
section
variable {f : Str → Str} {ns : List Str}
theorem names_ren : ∀ ps : Ps, (renPs f ps).names = ps.names.map f
  | .nil => rfl
  | .cons x e r => by
    show f x :: (renPs f r).names = f x :: r.names.map f
    rw [names_ren r]
theorem heads_ren : ∀ bs : Bs, headsB (renBs f bs) = (headsB bs).map f
  | .nil => rfl
  | .cons c ys e r => by
    show f c :: headsB (renBs f r) = f c :: (headsB r).map f
    rw [heads_ren r]
mutual
theorem nodes_ren : ∀ t : T, nodes (ren f t) = nodes t
  | .num _ => rfl
  | .nam _ => rfl
  | .fn _ e => by show 1 + nodes (ren f e) = 1 + nodes e; rw [nodes_ren e]
  | .two _ _ _ => rfl
  | .lt _ _ e b => by show 1 + nodes (ren f e) + nodes (ren f b) = 1 + nodes e + nodes b; rw [nodes_ren e, nodes_ren b]
  | .all ps b => by show 1 + nodesPs (renPs f ps) + nodes (ren f b) = 1 + nodesPs ps + nodes b; rw [nodes_renPs ps, nodes_ren b]
  | .mk _ _ => rfl
  | .by_ _ bs => by show 1 + nodesBs (renBs f bs) = 1 + nodesBs bs; rw [nodes_renBs bs]
theorem nodes_renPs : ∀ ps : Ps, nodesPs (renPs f ps) = nodesPs ps
  | .nil => rfl
  | .cons _ e r => by show nodes (ren f e) + nodesPs (renPs f r) = nodes e + nodesPs r; rw [nodes_ren e, nodes_renPs r]
theorem nodes_renBs : ∀ bs : Bs, nodesBs (renBs f bs) = nodesBs bs
  | .nil => rfl
  | .cons _ _ e r => by show nodes (ren f e) + nodesBs (renBs f r) = nodes e + nodesBs r; rw [nodes_ren e, nodes_renBs r]
end
mutual
theorem deep_ren : ∀ t : T, deep (ren f t) = deep t
  | .num _ => rfl
  | .nam _ => rfl
  | .fn _ e => by show 1 + deep (ren f e) = 1 + deep e; rw [deep_ren e]
  | .two _ _ _ => rfl
  | .lt _ _ e b => by show 1 + max (deep (ren f e)) (deep (ren f b)) = 1 + max (deep e) (deep b); rw [deep_ren e, deep_ren b]
  | .all ps b => by show 1 + max (deepPs (renPs f ps)) (deep (ren f b)) = 1 + max (deepPs ps) (deep b); rw [deep_renPs ps, deep_ren b]
  | .mk _ _ => rfl
  | .by_ _ bs => by show 1 + deepBs (renBs f bs) = 1 + deepBs bs; rw [deep_renBs bs]
theorem deep_renPs : ∀ ps : Ps, deepPs (renPs f ps) = deepPs ps
  | .nil => rfl
  | .cons _ e r => by show max (deep (ren f e)) (deepPs (renPs f r)) = max (deep e) (deepPs r); rw [deep_ren e, deep_renPs r]
theorem deep_renBs : ∀ bs : Bs, deepBs (renBs f bs) = deepBs bs
  | .nil => rfl
  | .cons _ _ e r => by show max (deep (ren f e)) (deepBs (renBs f r)) = max (deep e) (deepBs r); rw [deep_ren e, deep_renBs r]
end
theorem nodup_ren (hf : Inj f ns) : ∀ {l : List Str}, (∀ x ∈ l, x ∈ ns) → l.Nodup → (l.map f).Nodup
  | [], _, _ => List.nodup_nil
  | a :: l, h, hd => by
    obtain ⟨h1, h2⟩ := List.nodup_cons.mp hd
    rw [List.map_cons]
    refine List.nodup_cons.mpr ⟨fun z => ?_, nodup_ren hf (fun x hx => h x (List.mem_cons_of_mem _ hx)) h2⟩
    obtain ⟨y, hy, e⟩ := List.mem_map.mp z
    have := hf y (h y (List.mem_cons_of_mem _ hy)) a (h a List.mem_cons_self) e
    exact h1 (this ▸ hy)
theorem mem_ren (hf : Inj f ns) {l : List Str} (h : ∀ x ∈ l, x ∈ ns) {j : Str} (hj : j ∈ ns) : f j ∈ l.map f ↔ j ∈ l := by
  constructor
  · intro z
    obtain ⟨y, hy, e⟩ := List.mem_map.mp z
    exact hf y (h y hy) j hj e ▸ hy
  · exact fun z => List.mem_map_of_mem z
theorem good_names : ∀ ps : Ps, GoodPs ns ps → ∀ x ∈ ps.names, x ∈ ns
  | .nil, _ => fun x hx => (List.not_mem_nil hx).elim
  | .cons y e r, h => fun x hx => by
    rcases List.mem_cons.mp hx with rfl | hx
    · exact h.1
    · exact good_names r h.2.2 x hx
theorem good_heads : ∀ bs : Bs, GoodBs ns bs → ∀ x ∈ headsB bs, x ∈ ns
  | .nil, _ => fun x hx => (List.not_mem_nil hx).elim
  | .cons y zs e r, h => fun x hx => by
    rcases List.mem_cons.mp hx with rfl | hx
    · exact h.1
    · exact good_heads r h.2.2.2.2 x hx
theorem worth_ren {t : T} (h : worthT t) : worthT (ren f t) := by
  cases t <;> first | exact h | exact h.elim
mutual
theorem wf_ren (hf : Inj f ns) (hn : ∀ x ∈ ns, isNm (f x) = true) : ∀ t : T, Good ns t → WF t → WF (ren f t)
  | .num _, _, w => w
  | .nam x, g, _ => hn x g
  | .fn x e, g, w => ⟨hn x g.1, wf_ren hf hn e g.2 w.2⟩
  | .two _ x y, g, w => ⟨w.1, hn x g.2.1, hn y g.2.2⟩
  | .lt _ x e b, g, w => ⟨w.1, hn x g.2.1, wf_ren hf hn e g.2.2.1 w.2.2.1, wf_ren hf hn b g.2.2.2 w.2.2.2⟩
  | .all ps b, g, w => by
    refine ⟨?_, ?_, wf_renPs hf hn ps g.1 w.2.2.1, wf_ren hf hn b g.2 w.2.2.2⟩
    · rw [names_ren, List.length_map]
      exact w.1
    · rw [names_ren]
      exact nodup_ren hf (good_names ps g.1) w.2.1
  | .mk c xs, g, w => ⟨hn c g.1, by rw [List.length_map]; exact w.2.1, fun x hx => by
    obtain ⟨y, hy, rfl⟩ := List.mem_map.mp hx
    exact hn y (g.2.1 y hy)⟩
  | .by_ x bs, g, w => by
    refine ⟨hn x g.1, ?_, ?_, wf_renBs hf hn bs g.2 w.2.2.2⟩
    · rw [heads_ren, List.length_map]
      exact w.2.1
    · rw [heads_ren]
      exact nodup_ren hf (good_heads bs g.2) w.2.2.1
theorem wf_renPs (hf : Inj f ns) (hn : ∀ x ∈ ns, isNm (f x) = true) : ∀ ps : Ps, GoodPs ns ps → WFp ps → WFp (renPs f ps)
  | .nil, _, _ => trivial
  | .cons x e r, g, w => ⟨hn x g.1, worth_ren w.2.1, wf_ren hf hn e g.2.1 w.2.2.1, wf_renPs hf hn r g.2.2 w.2.2.2⟩
theorem wf_renBs (hf : Inj f ns) (hn : ∀ x ∈ ns, isNm (f x) = true) : ∀ bs : Bs, GoodBs ns bs → WFb bs → WFb (renBs f bs)
  | .nil, _, _ => trivial
  | .cons c ys e r, g, w => ⟨hn c g.1, ⟨by rw [List.length_map]; exact w.2.1.1, nodup_ren hf g.2.1 w.2.1.2.1, fun y hy => by
    obtain ⟨z, hz, rfl⟩ := List.mem_map.mp hy
    exact hn z (g.2.1 z hz)⟩, wf_ren hf hn e g.2.2.2.1 w.2.2.1, wf_renBs hf hn r g.2.2.2.2 w.2.2.2⟩
end
mutual
theorem good_ren : ∀ t : T, Good ns t → Good (ns.map f) (ren f t)
  | .num _, g => g
  | .nam x, g => List.mem_map_of_mem g
  | .fn x e, g => ⟨List.mem_map_of_mem g.1, good_ren e g.2⟩
  | .two _ x y, g => ⟨g.1, List.mem_map_of_mem g.2.1, List.mem_map_of_mem g.2.2⟩
  | .lt _ x e b, g => ⟨g.1, List.mem_map_of_mem g.2.1, good_ren e g.2.2.1, good_ren b g.2.2.2⟩
  | .all ps b, g => ⟨good_renPs ps g.1, good_ren b g.2⟩
  | .mk c xs, g => ⟨List.mem_map_of_mem g.1, fun x hx => by
    obtain ⟨y, hy, rfl⟩ := List.mem_map.mp hx
    exact List.mem_map_of_mem (g.2.1 y hy), by rw [List.length_map]; exact g.2.2⟩
  | .by_ x bs, g => ⟨List.mem_map_of_mem g.1, good_renBs bs g.2⟩
theorem good_renPs : ∀ ps : Ps, GoodPs ns ps → GoodPs (ns.map f) (renPs f ps)
  | .nil, _ => trivial
  | .cons x e r, g => ⟨List.mem_map_of_mem g.1, good_ren e g.2.1, good_renPs r g.2.2⟩
theorem good_renBs : ∀ bs : Bs, GoodBs ns bs → GoodBs (ns.map f) (renBs f bs)
  | .nil, _ => trivial
  | .cons c ys e r, g => ⟨List.mem_map_of_mem g.1, fun y hy => by
    obtain ⟨z, hz, rfl⟩ := List.mem_map.mp hy
    exact List.mem_map_of_mem (g.2.1 z hz), by rw [List.length_map]; exact g.2.2.1, good_ren e g.2.2.2.1, good_renBs r g.2.2.2.2⟩
end
mutual
theorem free_ren (hf : Inj f ns) {j : Str} (hj : j ∈ ns) : ∀ t : T, Good ns t → (Free (f j) (ren f t) ↔ Free j t)
  | .num _, _ => Iff.rfl
  | .nam x, g => ⟨fun z => hf j hj x g z, fun z => congrArg f z⟩
  | .fn x e, g => by
    have h := free_ren hf hj e g.2
    show (Free (f j) (ren f e) ∧ f j ≠ f x) ↔ (Free j e ∧ j ≠ x)
    rw [h]
    exact and_congr_right fun _ => not_congr ⟨fun z => hf j hj x g.1 z, fun z => congrArg f z⟩
  | .two _ x y, g => by
    show (f j = f x ∨ f j = f y) ↔ (j = x ∨ j = y)
    exact or_congr ⟨fun z => hf j hj x g.2.1 z, fun z => congrArg f z⟩ ⟨fun z => hf j hj y g.2.2 z, fun z => congrArg f z⟩
  | .lt _ x e b, g => by
    have h1 := free_ren hf hj e g.2.2.1
    have h2 := free_ren hf hj b g.2.2.2
    show (Free (f j) (ren f e) ∨ (Free (f j) (ren f b) ∧ f j ≠ f x)) ↔ (Free j e ∨ (Free j b ∧ j ≠ x))
    rw [h1, h2]
    exact or_congr Iff.rfl (and_congr_right fun _ => not_congr ⟨fun z => hf j hj x g.2.1 z, fun z => congrArg f z⟩)
  | .all ps b, g => by
    have h1 := free_renPs hf hj ps g.1
    have h2 := free_ren hf hj b g.2
    show ((FreePs (f j) (renPs f ps) ∨ Free (f j) (ren f b)) ∧ f j ∉ (renPs f ps).names) ↔ ((FreePs j ps ∨ Free j b) ∧ j ∉ ps.names)
    rw [h1, h2, names_ren, mem_ren hf (good_names ps g.1) hj]
  | .mk c xs, g => mem_ren hf g.2.1 hj
  | .by_ x bs, g => by
    have h1 := free_renBs hf hj bs g.2
    show (f j = f x ∨ FreeBs (f j) (renBs f bs)) ↔ (j = x ∨ FreeBs j bs)
    rw [h1]
    exact or_congr ⟨fun z => hf j hj x g.1 z, fun z => congrArg f z⟩ Iff.rfl
theorem free_renPs (hf : Inj f ns) {j : Str} (hj : j ∈ ns) : ∀ ps : Ps, GoodPs ns ps → (FreePs (f j) (renPs f ps) ↔ FreePs j ps)
  | .nil, _ => Iff.rfl
  | .cons x e r, g => or_congr (free_ren hf hj e g.2.1) (free_renPs hf hj r g.2.2)
theorem free_renBs (hf : Inj f ns) {j : Str} (hj : j ∈ ns) : ∀ bs : Bs, GoodBs ns bs → (FreeBs (f j) (renBs f bs) ↔ FreeBs j bs)
  | .nil, _ => Iff.rfl
  | .cons c ys e r, g => by
    have h1 := free_ren hf hj e g.2.2.2.1
    show ((Free (f j) (ren f e) ∧ f j ∉ ys.map f) ∨ FreeBs (f j) (renBs f r)) ↔ ((Free j e ∧ j ∉ ys) ∨ FreeBs j r)
    rw [h1, mem_ren hf g.2.1 hj, free_renBs hf hj r g.2.2.2.2]
end
mutual
theorem free_in {k : Str} : ∀ t : T, Good ns t → Free k t → k ∈ ns
  | .num _, _, h => h.elim
  | .nam x, g, h => by
    have h : k = x := h
    rw [h]
    exact g
  | .fn x e, g, h => free_in e g.2 h.1
  | .two _ x y, g, h => by
    rcases h with h | h
    · rw [h]
      exact g.2.1
    · rw [h]
      exact g.2.2
  | .lt _ x e b, g, h => by
    rcases h with h | h
    · exact free_in e g.2.2.1 h
    · exact free_in b g.2.2.2 h.1
  | .all ps b, g, h => by
    rcases h.1 with h | h
    · exact free_inPs ps g.1 h
    · exact free_in b g.2 h
  | .mk c xs, g, h => g.2.1 k h
  | .by_ x bs, g, h => by
    rcases h with h | h
    · rw [h]
      exact g.1
    · exact free_inBs bs g.2 h
theorem free_inPs {k : Str} : ∀ ps : Ps, GoodPs ns ps → FreePs k ps → k ∈ ns
  | .nil, _, h => h.elim
  | .cons x e r, g, h => by
    rcases h with h | h
    · exact free_in e g.2.1 h
    · exact free_inPs r g.2.2 h
theorem free_inBs {k : Str} : ∀ bs : Bs, GoodBs ns bs → FreeBs k bs → k ∈ ns
  | .nil, _, h => h.elim
  | .cons c ys e r, g, h => by
    rcases h with h | h
    · exact free_in e g.2.2.2.1 h.1
    · exact free_inBs r g.2.2.2.2 h
end
/-- the free names of what is called otherwise -/
theorem free_called (hf : Inj f ns) {t : T} (g : Good ns t) (k : Str) : Free k (ren f t) ↔ ∃ j, Free j t ∧ f j = k := by
  constructor
  · intro h
    have := free_in (ren f t) (good_ren t g) h
    obtain ⟨j, hj, rfl⟩ := List.mem_map.mp this
    exact ⟨j, (free_ren hf hj t g).mp h, rfl⟩
  · rintro ⟨j, h, rfl⟩
    exact (free_ren hf (free_in t g h) t g).mpr h
end
end Ev06

set_option Elab.async false
set_option linter.all false
set_option maxRecDepth 100000
set_option maxHeartbeats 1000000
/-! Pairs and branches, one behind the other. -/
namespace Ev05
open PySem PySem.Spec PyProof.Rows L2 Ow Ev OwT EvT
theorem pW_snoc (x : Str) (e : T) : ∀ P : Ps, pW (P.snoc x e) = pW P ++ [.tup [.str x, tW e]]
  | .nil => rfl
  | .cons y f r => by
    show _ :: _ = _ :: _
    rw [pW_snoc x e r]
    rfl
theorem names_snoc (x : Str) (e : T) : ∀ P : Ps, (P.snoc x e).names = P.names ++ [x]
  | .nil => rfl
  | .cons y f r => by
    show _ :: _ = _ :: _
    rw [names_snoc x e r]
    rfl
theorem wfp_snoc {x : Str} {e : T} (hx : isNm x = true) (we : worthT e) (w : WF e) : ∀ P : Ps, WFp P → WFp (P.snoc x e)
  | .nil, _ => ⟨hx, we, w, trivial⟩
  | .cons y f r, h => ⟨h.1, h.2.1, h.2.2.1, wfp_snoc hx we w r h.2.2.2⟩
theorem bW_snoc (c : Str) (ys : List Str) (e : T) : ∀ P : Bs, bW (P.snoc c ys e) = bW P ++ [.tup [.str c, .tup (ys.map W.str), tW e]]
  | .nil => rfl
  | .cons y zs f r => by
    show _ :: _ = _ :: _
    rw [bW_snoc c ys e r]
    rfl
theorem heads_snoc (c : Str) (ys : List Str) (e : T) : ∀ P : Bs, headsB (P.snoc c ys e) = headsB P ++ [c]
  | .nil => rfl
  | .cons y zs f r => by
    show _ :: _ = _ :: _
    rw [heads_snoc c ys e r]
    rfl
theorem wfb_snoc {c : Str} {ys : List Str} {e : T} (hc : isNm c = true) (hy : ys.length ≤ 3 ∧ ys.Nodup ∧ ∀ y ∈ ys, isNm y = true) (w : WF e) : ∀ P : Bs, WFb P → WFb (P.snoc c ys e)
  | .nil, _ => ⟨hc, hy, w, trivial⟩
  | .cons y zs f r, h => ⟨h.1, h.2.1, h.2.2.1, wfb_snoc hc hy w r h.2.2.2⟩
/-- [(name, worth(..)) for name in some] -/
theorem pairs_comp {m p nl bx Dn : Nat} {ns : List Str} {d : Int} {env : EvS} {Q : WK} (he : env.length = 12) (v0 : lk env 0 = some (.ref p)) (v1 : lk env 1 = some (.ref nl)) (v2 : lk env 2 = some (.ref bx)) (v3 : lk env 3 = some (.int d)) (hd : d - 1 ≤ m) (n1 : Dn ≠ p) (n2 : Dn ≠ nl) (n3 : Dn ≠ bx) :
    ∀ (ys : List Str) (P : Ps) (b : Int) (S : Store), Bx S p nl bx ns b → S[Dn]? = some (.lst (pW P)) → GoodPs ns P → WFp P → (∀ y ∈ ys, y ∈ ns) → P.names.length + ys.length ≤ 100 →
      (∀ (P' : Ps) (b' : Int) (S' : Store), Bx S' p nl bx ns b' → S'[Dn]? = some (.lst (pW P')) → GoodPs ns P' → WFp P' → P'.names = P.names ++ ys → (nodesPs P' : Int) = nodesPs P + (b - b') → min (b - 2 * ys.length) (-(16 * (m : Int)) - 2 * ys.length) ≤ b' → deepPs P' ≤ max (deepPs P) (2 * m + 2) ∧ lays (pW P') ≤ max (lays (pW P)) (4 + 3 * (m - 1) + min (m - 1) 1) → Fx [Dn, p, bx] S S' → Q (.ref Dn) S') →
      lcL (fun _ => True) (mgName 11) mYes (mTup (mCons (mVar 11) (mCons (mCB (conR (WorthC m)) (mCons (mVar 0) (mCons (mVar 1) (mCons (mVar 2) (mCons (mBin wSub (mVar 3) (mC (.int 1))) mNil))))) mNil))) Dn env Q (ys.map W.str) S
  | [], P, b, S, x, hD, g, w, _, _, q => ⟨trivial, q P b S x hD g w (by rw [List.append_nil]) (by omega) (by simp; omega) ⟨Nat.le_max_left _ _, Nat.le_max_left _ _⟩ Fx.refl⟩
  | y :: ys, P, b, S, x, hD, g, w, hy, hl, q => by
    rw [List.length_cons] at hl
    refine ⟨trivial, ?_⟩
    refine iteT (B := lcL (fun _ => True) (mgName 11) mYes (mTup (mCons (mVar 11) (mCons (mCB (conR (WorthC m)) (mCons (mVar 0) (mCons (mVar 1) (mCons (mVar 2) (mCons (mBin wSub (mVar 3) (mC (.int 1))) mNil))))) mNil))) Dn env Q (ys.map W.str) S) ?_
    obtain ⟨a0, a1, a2, a3, a4, a5, a6, a7, a8, a9, a10, a11, rfl⟩ : ∃ a0 a1 a2 a3 a4 a5 a6 a7 a8 a9 a10 a11, env = [a0, a1, a2, a3, a4, a5, a6, a7, a8, a9, a10, a11] := by
      match env, he with
      | [a0, a1, a2, a3, a4, a5, a6, a7, a8, a9, a10, a11], _ => exact ⟨_, _, _, _, _, _, _, _, _, _, _, _, rfl⟩
    have v0' : a0 = some (.ref p) := v0
    have v1' : a1 = some (.ref nl) := v1
    have v2' : a2 = some (.ref bx) := v2
    have v3' : a3 = some (.int d) := v3
    subst v0' v1' v2' v3'
    refine ⟨trivial, ?_⟩
    refine worth_call x hd fun t b1 S1 gt wt ww hn hlo hdp f1 x1 => ?_
    have hD1 : S1[Dn]? = some (.lst (pW P)) := f1.keep _ _ (by simp; exact ⟨n1, n3⟩) hD
    refine ⟨by show 2 ≤ sizeLine; decide, _, hD1, ?_, ?_⟩
    · rw [pW_len]
      exact Nat.lt_of_lt_of_le (show P.names.length < 101 by omega) (by decide)
    · have e9 : pW P ++ [.tup [.str y, tW t]] = pW (P.snoc y t) := (pW_snoc y t P).symm
      rw [e9]
      have yin := hy y List.mem_cons_self
      refine pairs_comp he v0 v1 v2 v3 hd n1 n2 n3 ys (P.snoc y t) b1 _ (x1.put n1 n2 n3) (get_set hD1) (snoc_good yin gt P g) (wfp_snoc (x.src.ok y yin) ww wt P w) (fun z hz => hy z (List.mem_cons_of_mem _ hz)) (by rw [names_snoc, List.length_append, List.length_singleton]; omega) fun P' b' S' x' h' g' w' nm' hn' hlo' hdp' f' => ?_
      rw [names_snoc] at nm'
      rw [snoc_nodes] at hn'
      rw [snoc_deep, pW_snoc, lays_app] at hdp'
      have ly : lay (.tup [.str y, tW t]) = 1 + max 0 (max (lay (tW t)) 0) := rfl
      rw [ly] at hdp'
      refine q P' b' S' x' h' g' w' (by rw [nm', List.append_assoc]; rfl) (by omega) (by rw [List.length_cons]; omega) (by omega) ?_
      exact ((f1.mono fun n hn => List.mem_cons_of_mem _ hn).trans (Fx.set List.mem_cons_self)).trans f'
end Ev05

set_option Elab.async false
set_option linter.all false
set_option maxRecDepth 100000
set_option maxHeartbeats 1000000
namespace Ev05
open PySem PySem.Spec PyProof.Rows L2 Ow Ev OwT EvT
def termCall (m : Nat) : ME := (mCB (conR (TermC m)) (mCons (mVar 0) (mCons (mVar 1) (mCons (mVar 2) (mCons (mBin wSub (mVar 3) (mC (.int 1))) mNil)))))
def lineB (m : Nat) : MS := (mSeq (mAsg (mCB (conR FewC) (mCons (mVar 0) (mCons (mVar 1) (mCons (mC (.int 3)) mNil)))) (mgName 9))
  (mDrop (mBM wAppend (mVar 7) (mCons (mTup (mCons (mVar 8) (mCons (mVar 9) (mCons (termCall m) mNil)))) mNil))))
theorem lines_for {m p nl bx Dn : Nat} {ns : List Str} {d : Int} {D : MD} {e4 e5 e6 e10 e11 : Option W} (hd : d - 1 ≤ m) (n1 : Dn ≠ p) (n2 : Dn ≠ nl) (n3 : Dn ≠ bx) :
    ∀ (ys : List Str) (P : Bs) (b : Int) (S : Store) (e8 e9 : Option W), Bx S p nl bx ns b → S[Dn]? = some (.lst (bW P)) → GoodBs ns P → WFb P → (∀ y ∈ ys, y ∈ ns) → (headsB P).length + ys.length ≤ 100 →
      (∀ (P' : Bs) (b' : Int) (S' : Store) (e8 e9 : Option W), Bx S' p nl bx ns b' → S'[Dn]? = some (.lst (bW P')) → GoodBs ns P' → WFb P' → headsB P' = headsB P ++ ys → (nodesBs P' : Int) = nodesBs P + (b - b') → min (b - 2 * ys.length) (-(16 * (m : Int)) - 2 * ys.length) ≤ b' → deepBs P' ≤ max (deepBs P) (2 * m + 1) ∧ lays (bW P') ≤ max (lays (bW P)) (4 + 3 * m + min m 1 - 1) → Fx [Dn, p, bx] S S' →
        D.nx [some (.ref p), some (.ref nl), some (.ref bx), some (.int d), e4, e5, e6, some (.ref Dn), e8, e9, e10, e11] S') →
      forL (fun _ => True) (mgName 8) (lineB m) D (ys.map W.str) [some (.ref p), some (.ref nl), some (.ref bx), some (.int d), e4, e5, e6, some (.ref Dn), e8, e9, e10, e11] S
  | [], P, b, S, e8, e9, x, hD, g, w, _, _, q => ⟨trivial, q P b S e8 e9 x hD g w (by rw [List.append_nil]) (by omega) (by simp; omega) ⟨Nat.le_max_left _ _, Nat.le_max_left _ _⟩ Fx.refl⟩
  | y :: ys, P, b, S, e8, e9, x, hD, g, w, hy, hl, q => by
    rw [List.length_cons] at hl
    refine ⟨trivial, ?_⟩
    refine few_call x.src (by decide) (by decide) fun zs S1 zl znd zin f1 s1 => ?_
    have x1 := x.one f1 s1
    have hD1 : S1[Dn]? = some (.lst (bW P)) := f1.keep _ _ (by simpa using n1) hD
    refine ⟨?_, ?_⟩
    · show oL S1[Dn]? _
      rw [hD1]
      trivial
    · refine ⟨trivial, ?_⟩
      refine term_call x1 hd fun t b1 S2 gt wt hn hlo hdp f2 x2 => ?_
      have hD2 : S2[Dn]? = some (.lst (bW P)) := f2.keep _ _ (by simp; exact ⟨n1, n3⟩) hD1
      refine ⟨by show 3 ≤ sizeLine; decide, ?_⟩
      show oL S2[Dn]? _
      rw [hD2]
      refine ⟨?_, ?_⟩
      · rw [bW_len]
        exact Nat.lt_of_lt_of_le (show (headsB P).length < 101 by omega) (by decide)
      · have e9' : bW P ++ [.tup [.str y, .tup (zs.map W.str), tW t]] = bW (P.snoc y zs t) := (bW_snoc y zs t P).symm
        rw [e9']
        have yin := hy y List.mem_cons_self
        refine lines_for hd n1 n2 n3 ys (P.snoc y zs t) b1 _ _ _ (x2.put n1 n2 n3) (get_set hD2) (bsnoc_good yin zin (by omega) gt P g) (wfb_snoc (x.src.ok y yin) ⟨by omega, znd, fun z hz => x.src.ok z (zin z hz)⟩ wt P w) (fun z hz => hy z (List.mem_cons_of_mem _ hz)) (by rw [heads_snoc, List.length_append, List.length_singleton]; omega) fun P' b' S' e8 e9 x' h' g' w' nm' hn' hlo' hdp' f' => ?_
        rw [heads_snoc] at nm'
        rw [bsnoc_nodes] at hn'
        rw [bsnoc_deep, bW_snoc, lays_app] at hdp'
        have ly : lay (.tup [.str y, .tup (zs.map W.str), tW t]) = 1 + max 0 (max (1 + lays (zs.map W.str)) (max (lay (tW t)) 0)) := rfl
        rw [ly, lays_strs] at hdp'
        refine q P' b' S' _ _ x' h' g' w' (by rw [nm', List.append_assoc]; rfl) (by omega) (by rw [List.length_cons]; omega) (by omega) ?_
        have f12 : Fx [Dn, p, bx] S S2 := ((fx1 f1).trans f2).mono fun n hn => List.mem_cons_of_mem _ hn
        exact (f12.trans (Fx.set List.mem_cons_self)).trans f'
end Ev05

set_option Elab.async false
set_option linter.all false
set_option maxRecDepth 100000
set_option maxHeartbeats 1000000
namespace Ev05
open PySem PySem.Spec PyProof.Rows L2 Ow Ev OwT EvT
theorem lo_nm {x : Str} (h : isNm x = true) : Lo x := by
  unfold isNm at h
  rw [Bool.and_eq_true, List.all_eq_true] at h
  intro c hc
  have := of_decide_eq_true (h.2 c hc)
  omega
theorem dw_strs {S : Store} : ∀ xs : List Str, DWs S (xs.map W.str) (xs.map PyData.str)
  | [] => .nil
  | x :: xs => .cons (.str x) (dw_strs xs)
theorem ne_tnil {ys : List Str} {S : Store} {Q : WK} (h : ∀ y ∈ ys, isNm y = true) (q : Q (.bl (!ys.isEmpty)) S) : wNe (.tup (ys.map W.str)) (.tup []) S Q := by
  refine ⟨.tuple (ys.map PyData.str), .tuple [], .tup (dw_strs ys), .tup .nil, shaped_tup fun x hx => lo_nm (h x hx), by decide, ?_⟩
  rw [eqv_tnil]
  show Q (.bl (true ^^ (ys.map PyData.str).isEmpty)) S
  rw [Bool.true_xor]
  cases ys with
  | nil => exact q
  | cons y ys => exact q
theorem cut_1 (x : W) (r : List W) : cutG (x :: r) none (some 1) = [x] := by
  unfold cutG HT.sIx
  simp
/-- tuple(names[:1]) -/
theorem first_name {S : Store} {p nl : Nat} {ns : List Str} {env : EvS} {Q : WK} (s : Src S p nl ns) (v1 : lk env 1 = some (.ref nl)) (q : ∀ x S', x ∈ ns → Fx [p] S S' → Src S' p nl ns → Q (.tup ([x].map W.str)) S') : mCB wTuple (mCons (mSl (mVar 1) mNoP (mP (mC (.int 1)))) mNil) env S Q := by
  simp only [mCB, mCons, mSl, mVar]
  rw [v1]
  show oL S[nl]? _
  rw [s.at_]
  cases hns : ns with
  | nil =>
    have := s.pos
    rw [hns] at this
    cases this
  | cons x r =>
    show oL (S ++ [.lst (cutG (W.str x :: r.map W.str) none (some 1))])[S.length]? _
    rw [new_at, cut_1]
    exact q x _ (by rw [hns]; exact List.mem_cons_self) (Fx.ex Ex.one) (s.ex Ex.one)
end Ev05

set_option Elab.async false
set_option linter.all false
set_option maxRecDepth 100000
set_option maxHeartbeats 1000000
namespace Ev05
open PySem PySem.Spec PyProof.Rows L2 Ow Ev OwT EvT
theorem fx_late {ps : List Nat} {A B C : Store} {k : Nat} (f : Fx ps A B) (h : A.length ≤ k) (g : Fx (k :: ps) B C) : Fx ps A C :=
  ⟨Nat.le_trans f.len g.len, fun n o hn e => g.keep n o (fun z => by
    rcases List.mem_cons.mp z with z | z
    · have := lt_len e
      omega
    · exact hn z) (f.keep n o hn e)⟩
/-- some if some != () else tuple(names[:1]) -/
def someE : ME := (mIf (mTest (mBin wNe (mVar 5) (mTup mNil))) (mVar 5) (mCB wTuple (mCons (mSl (mVar 1) mNoP (mP (mC (.int 1)))) mNil)))
theorem some_read {S : Store} {p nl : Nat} {ns ys : List Str} {env : EvS} {Q : WK} (s : Src S p nl ns) (v1 : lk env 1 = some (.ref nl)) (v5 : lk env 5 = some (.tup (ys.map W.str))) (hy : ∀ y ∈ ys, y ∈ ns) (nd : ys.Nodup) (h6 : ys.length ≤ 6)
    (q : ∀ (zs : List Str) S', zs.Nodup → 1 ≤ zs.length → zs.length ≤ 6 → (∀ z ∈ zs, z ∈ ns) → Fx [p] S S' → Src S' p nl ns → Q (.tup (zs.map W.str)) S') : someE env S Q := by
  unfold someE
  simp only [mIf, mTest, mBin, mTup, mNil, mVar]
  rw [v5]
  refine ⟨Nat.zero_le _, ?_⟩
  refine ne_tnil (fun y h => s.ok y (hy y h)) ?_
  refine ifNB (fun e => ?_) fun e => ?_
  · have : 1 ≤ ys.length := by
      cases ys with
      | nil => cases e
      | cons => simp
    exact q ys S nd this h6 hy Fx.refl s
  · exact first_name s v1 fun x S' hx f s' => q [x] S' (by simp) (Nat.le_refl 1) (by show 1 ≤ 6; decide) (fun z hz => by rw [List.mem_singleton.mp hz]; exact hx) f s'
theorem vc_term {n p nl bx : Nat} {ns : List Str} {b d : Int} {S : Store} {D : MD} {CT CW : Con} {m : Nat} (hm : m = n - 1) (hT : 1 ≤ n → CT = TermC m) (hW : 1 ≤ n → CW = WorthC m) (x : Bx S p nl bx ns b) (hd : d ≤ n)
    (q : ∀ t b' S', Good ns t → WF t → (nodes t : Int) = b - b' → min (b - 1) (-(16 * (n : Int))) ≤ b' → (deep t ≤ 2 * n + 1 ∧ lay (tW t) ≤ 3 * n + 2 + min n 1) → Fx [p, bx] S S' → Bx S' p nl bx ns b' → D.rt (tW t) S') :
    m_x_law_term TakeC (OneC isLeaf) CT PickC FewC CW D [some (.ref p), some (.ref nl), some (.ref bx), some (.int d), none, none, none, none, none, none, none, none] S := by
  have e3 : 3 ≤ sizeLine := by decide
  have e4 : 4 ≤ sizeLine := by decide
  unfold m_x_law_term
  simp only [mSeq, mAsg]
  refine dec_box x rfl fun x1 f1 => ?_
  simp only [mCB, mCons, mNil, mVar, mC, lk]
  refine take_call x1.src.fd (by decide) (by decide) fun way S2 r0 r1 f2 fd2 => ?_
  have s2 := x1.src.one f2 fd2
  have x2 := x1.one f2 s2
  have f12 := f1.trans (fx1 f2)
  simp only [mgName, List.set, mIfS, mOr, mTest, mBin, mVar, mC, lk]
  rw [wLt_int]
  have leaf : ∀ {P : Prop}, (d < 1 ∨ b - 1 < 1 ∨ way = 0) → conR (OneC isLeaf) [.ref p, .ref nl] S2 D.rt := fun _ => one_call s2 fun t S3 ht f3 s3 => by
    obtain ⟨a, b1, c, w⟩ := ht
    have ll := leaf_lay w b1
    exact q t (b - 1) S3 a w (by omega) (by omega) (by omega) (f12.trans (fx1 f3)) (x2.one f3 s3)
  refine ifB (fun e => ifT (leaf (P := True) (.inl (of_decide_eq_true e)))) fun e1 => ?_
  refine ix_at x2.box wAt0 ?_
  rw [wLt_int]
  refine ifB (fun e => ifT (leaf (P := True) (.inr (.inl (of_decide_eq_true e))))) fun e2 => ?_
  rw [wEq_int]
  refine ifB (fun e => leaf (P := True) (.inr (.inr (of_decide_eq_true e)))) fun e3' => ?_
  have d1 := of_decide_eq_false e1
  have b1 := of_decide_eq_false e2
  have n1 : 1 ≤ n := by omega
  obtain rfl := hT n1
  obtain rfl := hW n1
  have hd' : d - 1 ≤ (m : Int) := by omega
  try simp only [mNext, lk]
  rw [wEq_int]
  refine ifB (fun e => ?_) fun e => ?_
  · simp only [mRet, mTup, mCB, mCons, mNil, mVar, mC, lk, mBin]
    refine name_call s2 fun y S3 hy f3 s3 => ?_
    have x3 := x2.one f3 s3
    refine ⟨trivial, ?_⟩
    refine term_call x3 hd' fun t b' S4 g w hn hlo hdp f4 x4 => ?_
    have hn2 : (nodes (.fn y t) : Int) = b - b' := by
      have : nodes (.fn y t) = 1 + nodes t := rfl
      omega
    exact ⟨e3, q (.fn y t) b' S4 ⟨hy, g⟩ ⟨x.src.ok y hy, w⟩ hn2 (by omega) (by show 1 + deep t ≤ 2 * n + 1 ∧ 1 + max 0 (max 0 (max (lay (tW t)) 0)) ≤ 3 * n + 2 + min n 1; omega) ((f12.trans (fx1 f3)).trans f4) x4⟩
  try simp only [mNext, lk]
  rw [wEq_int]
  refine ifB (fun e => ?_) fun e => ?_
  · refine few_call s2 (by decide) (by decide) fun ys S3 yl ynd yin f3 s3 => ?_
    simp only [mgName, List.set, mSeq, mAsg]
    change someE _ S3 _
    refine some_read s3 rfl rfl yin ynd (by omega) fun zs S4 znd z1 z6 zin f4 s4 => ?_
    have x4 := (x2.one f3 s3).one f4 s4
    have f14 := (f12.trans (fx1 f3)).trans (fx1 f4)
    show lcL (fun _ => True) (mgName 11) mYes _ S4.length _ _ (zs.map W.str) (S4 ++ [.lst []])
    have lp := s4.fd.lt
    have ln := lt_len s4.at_
    have lb := lt_len x4.box
    refine pairs_comp (m := m) (p := p) (nl := nl) (bx := bx) (ns := ns) (d := d) rfl rfl rfl rfl rfl hd' (by omega) (by omega) (by omega) zs .nil (b - 1) _ (x4.ex Ex.one) (new_at S4 _) trivial trivial zin (by show 0 + zs.length ≤ 100; omega) fun P b5 S5 x5 h5 g5 w5 nm5 hn5 hlo5 hdp5 f5 => ?_
    show oL S5[S4.length]? _
    rw [h5]
    refine ⟨trivial, ?_⟩
    refine term_call x5 hd' fun t b' S6 g w hn hlo hdp f6 x6 => ?_
    have nm5 : P.names = zs := nm5
    have hn2 : (nodes (.all P t) : Int) = b - b' := by
      have h1 : nodes (.all P t) = 1 + nodesPs P + nodes t := rfl
      have h2 : nodesPs .nil = 0 := rfl
      omega
    have hdd : deep (.all P t) ≤ 2 * n + 1 ∧ lay (tW (.all P t)) ≤ 3 * n + 2 + min n 1 := by
      have h3 : lay (tW (.all P t)) = 1 + max 0 (max (1 + lays (pW P)) (max (lay (tW t)) 0)) := rfl
      have h4 : lays (pW .nil) = 0 := rfl
      have h1 : deep (.all P t) = 1 + max (deepPs P) (deep t) := rfl
      have h2 : deepPs .nil = 0 := rfl
      omega
    refine ⟨e3, q (.all P t) b' S6 ⟨g5, g⟩ ⟨⟨by rw [nm5]; exact z1, by rw [nm5]; exact z6⟩, by rw [nm5]; exact znd, w5, w⟩ hn2 (by omega) hdd ?_ x6⟩
    exact (f14.trans (fx_new f5)).trans f6
  try simp only [mNext, lk]
  rw [wEq_int]
  refine ifB (fun e => ?_) fun e => ?_
  · refine few_call s2 (by decide) (by decide) fun ys S3 yl ynd yin f3 s3 => ?_
    refine ⟨Nat.zero_le _, ?_⟩
    simp only [mgName, List.set, mSeq, mFor]
    change mIt someE _ (S3 ++ [.lst []]) _
    have s3' := s3.ex (Ex.one (o := .lst []))
    refine some_read s3' rfl rfl yin ynd (by omega) fun zs S4 znd z1 z6 zin f4 s4 => ?_
    have lp := s3.fd.lt
    have ln := lt_len s3.at_
    have x3 := x2.one f3 s3
    have lb := lt_len x3.box
    have x4 := (x3.ex Ex.one).one f4 s4
    have f14 : Fx [p, bx] S S4 := ((f12.trans (fx1 f3)).trans (Fx.ex Ex.one)).trans (fx1 f4)
    have h4 : S4[S3.length]? = some (.lst (bW .nil)) := f4.keep _ _ (by simp; omega) (new_at S3 _)
    refine lines_for (m := m) hd' (by omega) (by omega) (by omega) zs .nil (b - 1) S4 none none x4 h4 trivial trivial zin (by show 0 + zs.length ≤ 100; omega) fun P b5 S5 e8 e9 x5 h5 g5 w5 nm5 hn5 hlo5 hdp5 f5 => ?_
    refine name_call x5.src fun y S6 hy f6 s6 => ?_
    show oL S6[S3.length]? _
    rw [f6.keep _ _ (by simp; omega) h5]
    have nm5 : headsB P = zs := nm5
    have hn2 : (nodes (.by_ y P) : Int) = b - b5 := by
      have h1 : nodes (.by_ y P) = 1 + nodesBs P := rfl
      have h2 : nodesBs .nil = 0 := rfl
      omega
    have hdd : deep (.by_ y P) ≤ 2 * n + 1 ∧ lay (tW (.by_ y P)) ≤ 3 * n + 2 + min n 1 := by
      have h3 : lay (tW (.by_ y P)) = 1 + max 0 (max 0 (max (1 + lays (bW P)) 0)) := rfl
      have h4 : lays (bW .nil) = 0 := rfl
      have h1 : deep (.by_ y P) = 1 + deepBs P := rfl
      have h2 : deepBs .nil = 0 := rfl
      omega
    refine ⟨e3, q (.by_ y P) b5 S6 ⟨hy, g5⟩ ⟨x.src.ok y hy, ⟨by rw [nm5]; exact z1, by rw [nm5]; exact z6⟩, by rw [nm5]; exact znd, w5⟩ hn2 (by omega) hdd ?_ (x5.one f6 s6)⟩
    exact (fx_late f14 (Nat.le_trans f12.len f3.len) f5).trans (fx1 f6)
  try simp only [mNext, lk]
  try simp only [mAsg, mCB, mCons, mNil, mVar, mC, lk, mBin]
  refine ⟨trivial, ?_⟩
  refine term_call x2 hd' fun t b3 S3 g3 w3 hn3 hlo3 hdp3 f3 x3 => ?_
  try simp only [mgName, List.set, mLst, mCons, mNil, mC, mVar, lk, mSeq, mAsg, mCB]
  refine ⟨e3, ?_⟩
  refine pick_call (l := [("let" : Str), "let", "now"].map W.str) (x3.ex Ex.one).src.fd (fun z => ?_) (by unfold seqW; dsimp only; rw [new_at]; rfl) (by show 0 < 3; decide) (by show 3 < 1000000; decide) fun wd S4 hw f4 fd4 => ?_
  · have := W.ref.inj z
    have h2 := x3.src.fd.lt
    omega
  have s4 := (x3.src.ex Ex.one).one f4 fd4
  have x4 := (x3.ex Ex.one).one f4 s4
  obtain ⟨wd, hwd, rfl⟩ := List.mem_map.mp hw
  have ln : wd = "let" ∨ wd = "now" := by
    simp only [List.mem_cons, List.not_mem_nil, or_false] at hwd
    rcases hwd with h | h | h
    · exact .inl h
    · exact .inl h
    · exact .inr h
  refine name_call s4 fun y S5 hy f5 s5 => ?_
  have x5 := x4.one f5 s5
  refine ⟨trivial, ?_⟩
  refine term_call x5 hd' fun u b' S6 g6 w6 hn6 hlo6 hdp6 f6 x6 => ?_
  have hn2 : (nodes (.lt wd y t u) : Int) = b - b' := by
    have h1 : nodes (.lt wd y t u) = 1 + nodes t + nodes u := rfl
    omega
  have hdd : deep (.lt wd y t u) ≤ 2 * n + 1 ∧ lay (tW (.lt wd y t u)) ≤ 3 * n + 2 + min n 1 := by
    have h3 : lay (tW (.lt wd y t u)) = 1 + max 0 (max 0 (max (lay (tW t)) (max (lay (tW u)) 0))) := rfl
    have h1 : deep (.lt wd y t u) = 1 + max (deep t) (deep u) := rfl
    omega
  exact ⟨e4, q (.lt wd y t u) b' S6 ⟨ln, hy, g3, g6⟩ ⟨ln, x.src.ok y hy, w3, w6⟩ hn2 (by omega) hdd (((((f12.trans f3).trans (Fx.ex Ex.one)).trans (fx1 f4)).trans (fx1 f5)).trans f6) x6⟩
end Ev05

set_option Elab.async false
set_option linter.all false
set_option maxRecDepth 100000
set_option maxHeartbeats 1000000
/-! The law's own going down. -/
namespace Ev05
open PySem PySem.Spec PyProof.Rows L2 Ow Ev OwT EvT
/-- the inner terms, each with a list of its names -/
inductive InR (S : Store) : List W → List (T × List Str) → Prop
  | nil : InR S [] []
  | cons {t : T} {ns : List Str} {r : Nat} {l : List W} {L : List (T × List Str)} : S[r]? = some (.lst (ns.map W.str)) → InR S l L → InR S (.tup [tW t, .ref r] :: l) ((t, ns) :: L)
theorem InR.ex {S S' : Store} (h : Ex S S') : ∀ {l : List W} {L : List (T × List Str)}, InR S l L → InR S' l L
  | _, _, .nil => .nil
  | _, _, .cons a b => .cons (h.at a) (b.ex h)
theorem InR.app {S : Store} {m : List W} {M : List (T × List Str)} (k : InR S m M) : ∀ {l : List W} {L : List (T × List Str)}, InR S l L → InR S (l ++ m) (L ++ M)
  | _, _, .nil => k
  | _, _, .cons a b => .cons a (InR.app k b)
theorem InR.len {S : Store} : ∀ {l : List W} {L : List (T × List Str)}, InR S l L → l.length = L.length
  | _, _, .nil => rfl
  | _, _, .cons _ b => congrArg (· + 1) b.len
def OpenC (n : Nat) : Con := ⟨T × Nat × List Str, fun (t, nb, bs) ws S => ws = [tW t, .ref nb] ∧ WF t ∧ deep t ≤ n ∧ nodes t ≤ 300 ∧ bs.length + 6 * deep t ≤ 600 ∧ S[nb]? = some (.lst (bs.map W.str)),
  fun (t, nb, bs) S w S' => ∃ (r : Nat) (ys : List Str), w = .ref r ∧ Ex S S' ∧ S.length ≤ r ∧ S'[r]? = some (.lst (ys.map W.str)) ∧ (∀ k, k ∈ ys ↔ Free k t ∧ k ∉ bs) ∧ ys.length ≤ 3 * nodes t⟩
theorem open_call {n : Nat} {t : T} {nb : Nat} {bs : List Str} {S : Store} {Q : WK} (w : WF t) (hd : deep t ≤ n) (hn : nodes t ≤ 300) (hb : bs.length + 6 * deep t ≤ 600) (h : S[nb]? = some (.lst (bs.map W.str)))
    (q : ∀ (r : Nat) (ys : List Str) S', Ex S S' → S.length ≤ r → S'[r]? = some (.lst (ys.map W.str)) → (∀ k, k ∈ ys ↔ Free k t ∧ k ∉ bs) → ys.length ≤ 3 * nodes t → Q (.ref r) S') : conR (OpenC n) [tW t, .ref nb] S Q :=
  ⟨(t, nb, bs), ⟨rfl, w, hd, hn, hb, h⟩, fun w S' ⟨r, ys, e, a, b, c, d, f⟩ => by rw [e]; exact q r ys S' a b c d f⟩
/-- for below, more in inner: found = found + open(below, bound + more) -/
theorem inner_for {n nb : Nat} {bs : List Str} {D : MD} {e0 e2 e4 e5 e8 e9 e10 : Option W} {chk : Store → Prop} {S0 : Store} (hc : ∀ S, Ex S0 S → chk S) : ∀ (l : List W) (L : List (T × List Str)) (S : Store) (F : Nat) (xs : List Str) (e6 e7 : Option W), Ex S0 S → InR S l L → S[nb]? = some (.lst (bs.map W.str)) → S[F]? = some (.lst (xs.map W.str)) →
    (∀ q ∈ L, WF q.1 ∧ deep q.1 ≤ n ∧ q.2.length ≤ 6 ∧ bs.length + 6 + 6 * deep q.1 ≤ 600) → xs.length + 3 * sumN L ≤ 903 → sumN L ≤ 300 → bs.length ≤ 600 →
    (∀ (S' : Store) (F' : Nat) (zs : List Str) (e6 e7 : Option W), Ex S S' → S'[F']? = some (.lst (zs.map W.str)) → (S.length ≤ F' ∨ F' = F) → (∀ k, k ∈ zs ↔ k ∈ xs ∨ ∃ q ∈ L, Free k q.1 ∧ k ∉ bs ++ q.2) → zs.length ≤ xs.length + 3 * sumN L →
      D.nx [e0, some (.ref nb), e2, some (.ref F'), e4, e5, e6, e7, e8, e9, e10] S') →
    forL chk (mgTup 2 (mgCons (mgName 6) (mgCons (mgName 7) mgNil))) (mAsg (mBin wAdd (mVar 3) (mCB (conR (OpenC n)) (mCons (mVar 6) (mCons (mBin wAdd (mVar 1) (mVar 7)) mNil)))) (mgName 3)) D l [e0, some (.ref nb), e2, some (.ref F), e4, e5, e6, e7, e8, e9, e10] S
  | _, _, S, F, xs, e6, e7, h0, .nil, hb, hF, hL, hz, h3, h6, q => ⟨hc S h0, q S F xs e6 e7 Ex.refl hF (.inr rfl) (fun k => by simp) (by omega)⟩
  | _, _, S, F, xs, e6, e7, h0, .cons (t := t) (ns := ns) (r := r) (l := l) (L := L) hr hl, hb, hF, hL, hz, h3, h6, q => by
    have ht := hL (t, ns) List.mem_cons_self
    have es := sumN_cons (t, ns) L
    have es : sumN ((t, ns) :: L) = nodes t + sumN L := es
    rw [es] at hz h3
    have big : 3000 ≤ sizeLine := by decide
    refine ⟨hc S h0, rfl, ⟨rfl, ?_⟩⟩
    have h2 : ns.length ≤ 6 := ht.2.2.1
    have h5 : bs.length + 6 + 6 * deep t ≤ 600 := ht.2.2.2
    simp only [List.set, mAsg, mBin, mVar, lk, mCB, mCons, mNil, mgName]
    refine add_lst hb hr (by rw [List.length_map, List.length_map]; omega) ?_
    have e9' : bs.map W.str ++ ns.map W.str = (bs ++ ns).map W.str := by rw [List.map_append]
    rw [e9']
    refine open_call ht.1 ht.2.1 (by omega) (by rw [List.length_append]; omega) (new_at S _) fun r1 ys S1 x1 l1 a1 m1 y1 => ?_
    have x01 := Ex.one.trans x1
    refine add_lst (x01.at hF) a1 (by rw [List.length_map, List.length_map]; omega) ?_
    have e8' : xs.map W.str ++ ys.map W.str = (xs ++ ys).map W.str := by rw [List.map_append]
    rw [e8']
    have x02 := x01.trans (Ex.one (o := .lst ((xs ++ ys).map W.str)))
    refine inner_for hc l L _ S1.length (xs ++ ys) _ _ (h0.trans x02) (hl.ex x02) (x02.at hb) (new_at S1 _) (fun q hq => hL q (List.mem_cons_of_mem _ hq)) (by rw [List.length_append]; omega) (by omega) h6 fun S' F' zs e6 e7 x' h' f' m' l' => ?_
    rw [List.length_append] at l'
    refine q S' F' zs _ _ (x02.trans x') h' (.inl ?_) (fun k => ?_) (by rw [es]; omega)
    · have a := x01.len
      rcases f' with f' | f'
      · rw [List.length_append] at f'
        omega
      · omega
    · rw [m' k, List.mem_append, m1 k]
      constructor
      · rintro ((a | a) | ⟨p, hp, a⟩)
        · exact .inl a
        · exact .inr ⟨(t, ns), List.mem_cons_self, a⟩
        · exact .inr ⟨p, List.mem_cons_of_mem _ hp, a⟩
      · rintro (a | ⟨p, hp, a⟩)
        · exact .inl (.inl a)
        · rcases List.mem_cons.mp hp with rfl | hp
          · exact .inl (.inr a)
          · exact .inr ⟨p, hp, a⟩
end Ev05

set_option Elab.async false
set_option linter.all false
set_option maxRecDepth 100000
set_option maxHeartbeats 1000000
namespace Ev05
open PySem PySem.Spec PyProof.Rows L2 Ow Ev OwT EvT
def openTail (n : Nat) : MS :=
  (mSeq (mAsg (mLc (mIt (mVar 3)) (mgName 10) (mTest (mBin wNotIn (mVar 10) (mVar 1))) (mVar 10) [10]) (mgName 3))
  (mSeq (mFor (mIt (mVar 4)) (mgTup 2 (mgCons (mgName 6) (mgCons (mgName 7) mgNil)))
  (mAsg (mBin wAdd (mVar 3) (mCB (conR (OpenC n)) (mCons (mVar 6) (mCons (mBin wAdd (mVar 1) (mVar 7)) mNil)))) (mgName 3)))
  (mRet (mVar 3))))
def outW (bs : List Str) (w : W) : Bool := match w with
  | .str x => !decide (x ∈ bs)
  | _ => false
theorem filter_out (bs : List Str) : ∀ xs : List Str, ((xs.map W.str).filter (outW bs)).map id = (xs.filter fun x => !decide (x ∈ bs)).map W.str
  | [] => rfl
  | x :: xs => by
    have ih := filter_out bs xs
    rw [List.map_cons, List.filter_cons, List.filter_cons]
    show List.map id (if (!decide (x ∈ bs)) = true then _ else _) = _
    cases h : !decide (x ∈ bs) with
    | true =>
      rw [if_pos rfl, if_pos rfl, List.map_cons, List.map_cons, ih]
      rfl
    | false =>
      rw [if_neg (by decide), if_neg (by decide), ih]
theorem vc_tail {n nb F I : Nat} {t : T} {bs : List Str} {l : List W} {S : Store} {D : MD} {e2 e5 : Option W} (w : WF t) (hd : deep t ≤ n + 1) (hn : nodes t ≤ 300) (hb : bs.length + 6 * deep t ≤ 600) (hB : S[nb]? = some (.lst (bs.map W.str)))
    (hF : S[F]? = some (.lst ((nmd t).map W.str))) (hI : S[I]? = some (.lst l)) (hl : InR S l (wn t)) (each : ∀ q ∈ wn t, deep q.1 + 1 ≤ deep t)
    (q : ∀ (r : Nat) (ys : List Str) S', Ex S S' → S.length ≤ r → S'[r]? = some (.lst (ys.map W.str)) → (∀ k, k ∈ ys ↔ Free k t ∧ k ∉ bs) → ys.length ≤ 3 * nodes t → D.rt (.ref r) S') :
    openTail n D [some (tW t), some (.ref nb), e2, some (.ref F), some (.ref I), e5, none, none, none, none, none] S := by
  have n3 := nmd_few t w
  have nw := nodes_wn t
  unfold openTail
  simp only [mSeq, mAsg]
  unfold mLc
  simp only [mIt, mVar, lk]
  rw [walk_lst hF]
  refine lcL_ex (S0 := S) (outW bs) id (fun w => [some (tW t), some (.ref nb), e2, some (.ref F), some (.ref I), e5, none, none, none, none, some w]) (fun S' h => h.at hF) ((nmd t).map W.str) [] (by rw [List.length_map]; exact Nat.le_trans (show 0 + (nmd t).length ≤ 100 by omega) (by decide)) (fun w _ S2 R r => r) (fun w hw S2 k hx z => ?_) (fun w hw _ S2 k _ z => z S2 Ex.refl) (fun S2 h2 => ?_) _ Ex.refl
  · obtain ⟨x, hx', rfl⟩ := List.mem_map.mp hw
    simp only [mTest, mBin, mVar, lk]
    refine wIn_strsL (hx.at hB) ?_
    have := z S2 Ex.refl
    rw [Bool.true_xor]
    exact this
  · rw [filter_out, List.nil_append] at h2
    obtain ⟨h3, at3⟩ := h2.new
    have fl : ((nmd t).filter fun x => !decide (x ∈ bs)).length ≤ 3 := Nat.le_trans (List.length_filter_le _ _) n3
    simp only [mgName, List.set, mFor, mIt, mVar, lk]
    rw [walk_lst (h3.at hI)]
    refine inner_for (S0 := S2) (fun S' h => h.at (h3.at hI)) l (wn t) S2 S.length _ none none Ex.refl (hl.ex h3) (h3.at hB) at3 (fun p hp => ?_) (by omega) (by omega) (by omega) fun S' F' zs e6 e7 x' h' f' m' l' => ?_
    · have a := wf_wn t w p hp
      have b := each p hp
      exact ⟨a.1, by omega, a.2, by omega⟩
    · refine q F' zs S' (h3.trans x') ?_ h' (fun k => ?_) (by omega)
      · have := h3.len
        rcases f' with f' | f' <;> omega
      · rw [m' k, List.mem_filter, free_iff k t]
        constructor
        · rintro (⟨a, b⟩ | ⟨p, hp, a, b⟩)
          · refine ⟨.inl a, ?_⟩
            simpa using b
          · exact ⟨.inr ⟨p, hp, a, fun z => b (List.mem_append_right _ z)⟩, fun z => b (List.mem_append_left _ z)⟩
        · rintro ⟨a | ⟨p, hp, a, b⟩, c⟩
          · exact .inl ⟨a, by simpa using c⟩
          · refine .inr ⟨p, hp, a, fun z => ?_⟩
            rcases List.mem_append.mp z with z | z
            · exact c z
            · exact b z
end Ev05

set_option Elab.async false
set_option linter.all false
set_option maxRecDepth 100000
set_option maxHeartbeats 1000000
namespace Ev05
open PySem PySem.Spec PyProof.Rows L2 Ow Ev OwT EvT
theorem each_deepPs (ns : List Str) : ∀ ps : Ps, ∀ p ∈ ps.subs ns, deep p.1 ≤ deepPs ps
  | .nil, p, h => by cases h
  | .cons x e r, p, h => by
    show deep p.1 ≤ max (deep e) (deepPs r)
    rcases List.mem_cons.mp h with rfl | h
    · exact Nat.le_max_left _ _
    · have := each_deepPs ns r p h
      omega
theorem each_deepBs : ∀ bs : Bs, ∀ p ∈ bs.subs, deep p.1 ≤ deepBs bs
  | .nil, p, h => by cases h
  | .cons c ys e r, p, h => by
    show deep p.1 ≤ max (deep e) (deepBs r)
    rcases List.mem_cons.mp h with rfl | h
    · exact Nat.le_max_left _ _
    · have := each_deepBs r p h
      omega
theorem each_deep (t : T) : ∀ p ∈ wn t, deep p.1 + 1 ≤ deep t := by
  intro p hp
  cases t with
  | num n => cases hp
  | nam x => cases hp
  | fn x e =>
    cases List.mem_singleton.mp hp
    show deep e + 1 ≤ 1 + deep e
    omega
  | two w x y => cases hp
  | lt w x e b =>
    unfold wn at hp
    rcases List.mem_cons.mp hp with rfl | hp
    · show deep e + 1 ≤ 1 + max (deep e) (deep b)
      omega
    · cases List.mem_singleton.mp hp
      show deep b + 1 ≤ 1 + max (deep e) (deep b)
      omega
  | all ps b =>
    unfold wn at hp
    rcases List.mem_append.mp hp with hp | hp
    · have := each_deepPs _ ps p hp
      show deep p.1 + 1 ≤ 1 + max (deepPs ps) (deep b)
      omega
    · cases List.mem_singleton.mp hp
      show deep b + 1 ≤ 1 + max (deepPs ps) (deep b)
      omega
  | mk c xs => cases hp
  | by_ x bs =>
    have := each_deepBs bs p hp
    show deep p.1 + 1 ≤ 1 + deepBs bs
    omega
def openHead (X : MS) : MS :=
  (mSeq (mAsg (mBin wIx (mVar 0) (mC (.int 0))) (mgName 2))
  (mSeq (mIfS (mTest (mBin wEq (mVar 2) (mC (.str "num"))))
  (mRet (mLst mNil))
  mNext)
  (mSeq (mAsg (mLst mNil) (mgName 3))
  (mSeq (mAsg (mLst mNil) (mgName 4))
  (mSeq (mIfS (mTest (mBin wEq (mVar 2) (mC (.str "made"))))
  (mAsg (mCB wList (mCons (mBin wIx (mVar 0) (mC (.int 2))) mNil)) (mgName 3))
  (mIfS (mTest (mBin wEq (mVar 2) (mC (.str "by"))))
  (mSeq (mAsg (mLst (mCons (mBin wIx (mVar 0) (mC (.int 1))) mNil)) (mgName 3))
  (mAsg (mLc (mIt (mBin wIx (mVar 0) (mC (.int 2)))) (mgName 8) mYes (mTup (mCons (mBin wIx (mVar 8) (mC (.int 2))) (mCons (mCB wList (mCons (mBin wIx (mVar 8) (mC (.int 1))) mNil)) mNil))) [8]) (mgName 4)))
  (mIfS (mTest (mBin wEq (mVar 2) (mC (.str "fun"))))
  (mAsg (mLst (mCons (mTup (mCons (mBin wIx (mVar 0) (mC (.int 2))) (mCons (mLst (mCons (mBin wIx (mVar 0) (mC (.int 1))) mNil)) mNil))) mNil)) (mgName 4))
  (mIfS (mTest (mBin wIn (mVar 2) (mLst (mCons (mC (.str "let")) (mCons (mC (.str "now")) mNil)))))
  (mAsg (mLst (mCons (mTup (mCons (mBin wIx (mVar 0) (mC (.int 2))) (mCons (mLst mNil) mNil))) (mCons (mTup (mCons (mBin wIx (mVar 0) (mC (.int 3))) (mCons (mLst (mCons (mBin wIx (mVar 0) (mC (.int 1))) mNil)) mNil))) mNil))) (mgName 4))
  (mIfS (mTest (mBin wEq (mVar 2) (mC (.str "letall"))))
  (mSeq (mAsg (mLc (mIt (mBin wIx (mVar 0) (mC (.int 1)))) (mgName 9) mYes (mBin wIx (mVar 9) (mC (.int 0))) [9]) (mgName 5))
  (mAsg (mBin wAdd (mLc (mIt (mBin wIx (mVar 0) (mC (.int 1)))) (mgName 9) mYes (mTup (mCons (mBin wIx (mVar 9) (mC (.int 1))) (mCons (mVar 5) mNil))) [9]) (mLst (mCons (mTup (mCons (mBin wIx (mVar 0) (mC (.int 2))) (mCons (mVar 5) mNil))) mNil))) (mgName 4)))
  (mAsg (mCB wList (mCons (mSl (mVar 0) (mP (mC (.int 1))) mNoP) mNil)) (mgName 3)))))))  X)))))
theorem open_eq (n : Nat) : m_x_law_open (OpenC n) = openHead (openTail n) := rfl
theorem in_ps {S : Store} {r : Nat} {ns : List Str} (h : S[r]? = some (.lst (ns.map W.str))) : ∀ ps : Ps, InR S ((pW ps).map fun p => W.tup [secW p, .ref r]) (ps.subs ns)
  | .nil => .nil
  | .cons x e q => .cons h (in_ps h q)
section
variable {X : MS} {D : MD} {S : Store} {nb : Nat}
/-- what the chain leaves behind: found, inner -/
def Left (X : MS) (D : MD) (S : Store) (t : T) (nb : Nat) : Prop := ∀ (z : Str) (F I : Nat) (l : List W) (e5 : Option W) (S' : Store), Ex S S' → S'[F]? = some (.lst ((nmd t).map W.str)) → S'[I]? = some (.lst l) → InR S' l (wn t) →
  X D [some (tW t), some (.ref nb), some (.str z), some (.ref F), some (.ref I), e5, none, none, none, none, none] S'
theorem open_num {n : Int} (q : D.rt (.ref S.length) (S ++ [.lst []])) : openHead X D [some (tW (.num n)), some (.ref nb), none, none, none, none, none, none, none, none, none] S := by
  unfold openHead
  simp only [tW]
  simp only [mSeq, mIfS, mRet, mRetN, mAsg, mDrop, mTest, mBin, mChain, mTru, mAnd, mOr, mNot, mAndV, mOrV, mNotV, mIf, mVar, mC, mCons, mNil, mTup, mLst, mCB, mgName, mNext, mIt, mPar, mAug, lk, wLen_tup, wLe_int, wLt_int, wGt_int, wEq_int, wNe_int, wEq_str, wNe_str, wIx_tup, wAt0, wAt1, wAt2, wAt3, oW_s, tru_bl, List.set]
  exact ifB (fun _ => ⟨Nat.zero_le _, q⟩) fun e => absurd e (by decide)
theorem open_mk {c : Str} {xs : List Str} (q : Left X D S (.mk c xs) nb) : openHead X D [some (tW (.mk c xs)), some (.ref nb), none, none, none, none, none, none, none, none, none] S := by
  unfold openHead
  simp only [tW]
  simp only [mSeq, mIfS, mRet, mRetN, mAsg, mDrop, mTest, mBin, mChain, mTru, mAnd, mOr, mNot, mAndV, mOrV, mNotV, mIf, mVar, mC, mCons, mNil, mTup, mLst, mCB, mgName, mNext, mIt, mPar, mAug, lk, wLen_tup, wLe_int, wLt_int, wGt_int, wEq_int, wNe_int, wEq_str, wNe_str, wIx_tup, wAt0, wAt1, wAt2, wAt3, oW_s, tru_bl, List.set]
  refine ifB (fun e => absurd e (by decide)) fun _ => ?_
  refine ⟨Nat.zero_le _, Nat.zero_le _, ?_⟩
  refine ifB (fun _ => ?_) fun e => absurd e (by decide)
  exact q _ _ _ [] _ _ ((Ex.one.trans Ex.one).trans Ex.one) (new_at _ _) (Ex.one.at (new_at _ _)) .nil
theorem open_fn {x : Str} {e : T} (q : Left X D S (.fn x e) nb) : openHead X D [some (tW (.fn x e)), some (.ref nb), none, none, none, none, none, none, none, none, none] S := by
  unfold openHead
  simp only [tW]
  simp only [mSeq, mIfS, mRet, mRetN, mAsg, mDrop, mTest, mBin, mChain, mTru, mAnd, mOr, mNot, mAndV, mOrV, mNotV, mIf, mVar, mC, mCons, mNil, mTup, mLst, mCB, mgName, mNext, mIt, mPar, mAug, lk, wLen_tup, wLe_int, wLt_int, wGt_int, wEq_int, wNe_int, wEq_str, wNe_str, wIx_tup, wAt0, wAt1, wAt2, wAt3, oW_s, tru_bl, List.set]
  refine ifB (fun e => absurd e (by decide)) fun _ => ?_
  refine ⟨Nat.zero_le _, Nat.zero_le _, ?_⟩
  refine ifB (fun e => absurd e (by decide)) fun _ => ?_
  refine ifB (fun e => absurd e (by decide)) fun _ => ?_
  refine ifB (fun _ => ?_) fun e => absurd e (by decide)
  refine ⟨by show 1 ≤ sizeLine; decide, by show 2 ≤ sizeLine; decide, by show 1 ≤ sizeLine; decide, ?_⟩
  exact q _ _ _ _ _ _ (((Ex.one.trans Ex.one).trans Ex.one).trans Ex.one) (((Ex.one.trans Ex.one).trans Ex.one).at (new_at _ _)) (new_at _ _) (.cons (Ex.one.at (new_at _ _)) .nil)
/-- the word in ['let', 'now'] -/
theorem in_ln {z : Str} {S : Store} {Q : WK} (q : Q (.bl (decide (z ∈ [("let" : Str), "now"]))) (S ++ [.lst ([("let" : Str), "now"].map W.str)])) : wIn (.str z) (.ref S.length) (S ++ [.lst ([("let" : Str), "now"].map W.str)]) Q := by
  refine wIn_strsL (new_at S _) ?_
  rw [Bool.false_xor]
  exact q
theorem open_lt {w x : Str} {e b : T} (hw : w = "let" ∨ w = "now") (q : Left X D S (.lt w x e b) nb) : openHead X D [some (tW (.lt w x e b)), some (.ref nb), none, none, none, none, none, none, none, none, none] S := by
  have n1 : w ≠ "num" := by rcases hw with rfl | rfl <;> decide
  have n2 : w ≠ "made" := by rcases hw with rfl | rfl <;> decide
  have n3 : w ≠ "by" := by rcases hw with rfl | rfl <;> decide
  have n4 : w ≠ "fun" := by rcases hw with rfl | rfl <;> decide
  have n5 : w ∈ [("let" : Str), "now"] := by rcases hw with rfl | rfl <;> decide
  unfold openHead
  simp only [tW]
  simp only [mSeq, mIfS, mRet, mRetN, mAsg, mDrop, mTest, mBin, mChain, mTru, mAnd, mOr, mNot, mAndV, mOrV, mNotV, mIf, mVar, mC, mCons, mNil, mTup, mLst, mCB, mgName, mNext, mIt, mPar, mAug, lk, wLen_tup, wLe_int, wLt_int, wGt_int, wEq_int, wNe_int, wEq_str, wNe_str, wIx_tup, wAt0, wAt1, wAt2, wAt3, oW_s, tru_bl, List.set]
  refine ifB (fun e => absurd (of_decide_eq_true e) n1) fun _ => ?_
  refine ⟨Nat.zero_le _, Nat.zero_le _, ?_⟩
  refine ifB (fun e => absurd (of_decide_eq_true e) n2) fun _ => ?_
  refine ifB (fun e => absurd (of_decide_eq_true e) n3) fun _ => ?_
  refine ifB (fun e => absurd (of_decide_eq_true e) n4) fun _ => ?_
  refine ⟨by show 2 ≤ sizeLine; decide, in_ln ?_⟩
  simp only [mSeq, mIfS, mRet, mRetN, mAsg, mDrop, mTest, mBin, mChain, mTru, mAnd, mOr, mNot, mAndV, mOrV, mNotV, mIf, mVar, mC, mCons, mNil, mTup, mLst, mCB, mgName, mNext, mIt, mPar, mAug, lk, wLen_tup, wLe_int, wLt_int, wGt_int, wEq_int, wNe_int, wEq_str, wNe_str, wIx_tup, wAt0, wAt1, wAt2, wAt3, oW_s, tru_bl, List.set]
  refine ifB (fun _ => ?_) fun e => absurd n5 (of_decide_eq_false e)
  refine ⟨by show 0 ≤ sizeLine; decide, by show 2 ≤ sizeLine; decide, by show 1 ≤ sizeLine; decide, by show 2 ≤ sizeLine; decide, by show 2 ≤ sizeLine; decide, ?_⟩
  have ex := ((Ex.one (S := S) (o := .lst [])).trans (Ex.one (o := .lst []))).trans (Ex.one (o := .lst ([("let" : Str), "now"].map W.str)))
  refine q _ _ _ _ _ _ (((ex.trans Ex.one).trans Ex.one).trans Ex.one) ((((Ex.one.trans Ex.one).trans Ex.one).trans Ex.one |>.trans Ex.one).at (new_at _ _)) (new_at _ _) (.cons (ns := []) ((Ex.one.trans Ex.one).at (new_at _ _)) (.cons (ns := [x]) (Ex.one.at (new_at _ _)) .nil))
end
end Ev05

set_option Elab.async false
set_option linter.all false
set_option maxRecDepth 100000
set_option maxHeartbeats 1000000
namespace Ev05
open PySem PySem.Spec PyProof.Rows L2 Ow Ev OwT EvT
theorem wSl_tup {l : List W} {lo hi : Option Int} {S : Store} {Q : WK} : wSl (.tup l) lo hi S Q = Q (.tup (cutG l lo hi)) S := rfl
section
variable {X : MS} {D : MD} {S : Store} {nb : Nat}
theorem open_else {z : Str} {r : List W} {t : T} (hf : z ≠ "num" ∧ z ≠ "made" ∧ z ≠ "by" ∧ z ≠ "fun" ∧ z ∉ [("let" : Str), "now"] ∧ z ≠ "letall") (e : tW t = .tup (.str z :: r)) (hr : cutG (W.str z :: r) (some 1) none = (nmd t).map W.str) (hw : wn t = []) (q : Left X D S t nb) :
    openHead X D [some (tW t), some (.ref nb), none, none, none, none, none, none, none, none, none] S := by
  obtain ⟨n1, n2, n3, n4, n5, n6⟩ := hf
  unfold Left at q
  rw [e] at q ⊢
  unfold openHead
  simp only [mSeq, mIfS, mRet, mRetN, mAsg, mDrop, mTest, mBin, mChain, mTru, mAnd, mOr, mNot, mAndV, mOrV, mNotV, mIf, mVar, mC, mCons, mNil, mTup, mLst, mCB, mgName, mNext, mIt, mPar, mAug, lk, wLen_tup, wLe_int, wLt_int, wGt_int, wEq_int, wNe_int, wEq_str, wNe_str, wIx_tup, wAt0, wAt1, wAt2, wAt3, oW_s, tru_bl, List.set]
  refine ifB (fun e => absurd (of_decide_eq_true e) n1) fun _ => ?_
  refine ⟨Nat.zero_le _, Nat.zero_le _, ?_⟩
  refine ifB (fun e => absurd (of_decide_eq_true e) n2) fun _ => ?_
  refine ifB (fun e => absurd (of_decide_eq_true e) n3) fun _ => ?_
  refine ifB (fun e => absurd (of_decide_eq_true e) n4) fun _ => ?_
  refine ⟨by show 2 ≤ sizeLine; decide, in_ln ?_⟩
  simp only [mSeq, mIfS, mRet, mRetN, mAsg, mDrop, mTest, mBin, mChain, mTru, mAnd, mOr, mNot, mAndV, mOrV, mNotV, mIf, mVar, mC, mCons, mNil, mTup, mLst, mCB, mgName, mNext, mIt, mPar, mAug, lk, wLen_tup, wLe_int, wLt_int, wGt_int, wEq_int, wNe_int, wEq_str, wNe_str, wIx_tup, wAt0, wAt1, wAt2, wAt3, oW_s, tru_bl, List.set]
  refine ifB (fun e => absurd (of_decide_eq_true e) n5) fun _ => ?_
  refine ifB (fun e => absurd (of_decide_eq_true e) n6) fun _ => ?_
  simp only [mSl, mVar, mP, mNoP, mC, lk]
  rw [wSl_tup, hr]
  have ex := ((Ex.one (S := S) (o := .lst [])).trans (Ex.one (o := .lst []))).trans (Ex.one (o := .lst ([("let" : Str), "now"].map W.str)))
  refine q z _ _ [] _ _ (ex.trans Ex.one) (new_at _ _) ((Ex.one.trans Ex.one).at (new_at _ _)) ?_
  rw [hw]
  exact .nil
theorem open_all {ps : Ps} {b : T} (w : WF (.all ps b)) (q : Left X D S (.all ps b) nb) : openHead X D [some (tW (.all ps b)), some (.ref nb), none, none, none, none, none, none, none, none, none] S := by
  have hl : (pW ps).length ≤ 6 := by rw [pW_len]; exact w.1.2
  have hp := pairs_ok ps w.2.2.1
  unfold openHead
  simp only [tW]
  simp only [mSeq, mIfS, mRet, mRetN, mAsg, mDrop, mTest, mBin, mChain, mTru, mAnd, mOr, mNot, mAndV, mOrV, mNotV, mIf, mVar, mC, mCons, mNil, mTup, mLst, mCB, mgName, mNext, mIt, mPar, mAug, lk, wLen_tup, wLe_int, wLt_int, wGt_int, wEq_int, wNe_int, wEq_str, wNe_str, wIx_tup, wAt0, wAt1, wAt2, wAt3, oW_s, tru_bl, List.set]
  refine ifB (fun e => absurd e (by decide)) fun _ => ?_
  refine ⟨Nat.zero_le _, Nat.zero_le _, ?_⟩
  refine ifB (fun e => absurd e (by decide)) fun _ => ?_
  refine ifB (fun e => absurd e (by decide)) fun _ => ?_
  refine ifB (fun e => absurd e (by decide)) fun _ => ?_
  refine ⟨by show 2 ≤ sizeLine; decide, in_ln ?_⟩
  simp only [mSeq, mIfS, mRet, mRetN, mAsg, mDrop, mTest, mBin, mChain, mTru, mAnd, mOr, mNot, mAndV, mOrV, mNotV, mIf, mVar, mC, mCons, mNil, mTup, mLst, mCB, mgName, mNext, mIt, mPar, mAug, lk, wLen_tup, wLe_int, wLt_int, wGt_int, wEq_int, wNe_int, wEq_str, wNe_str, wIx_tup, wAt0, wAt1, wAt2, wAt3, oW_s, tru_bl, List.set]
  refine ifB (fun e => absurd e (by decide)) fun _ => ?_
  refine ifB (fun _ => ?_) fun e => absurd e (by decide)
  have ex := ((Ex.one (S := S) (o := .lst [])).trans (Ex.one (o := .lst []))).trans (Ex.one (o := .lst ([("let" : Str), "now"].map W.str)))
  have hFF : (S ++ [O.lst []] ++ [.lst []] ++ [.lst ([("let" : Str), "now"].map W.str)])[S.length]? = some (.lst []) := (Ex.one.trans Ex.one).at (new_at _ _)
  generalize hS3 : S ++ [O.lst []] ++ [.lst []] ++ [.lst ([("let" : Str), "now"].map W.str)] = S3 at ex hFF ⊢
  show mLc _ _ _ _ _ _ S3 _
  refine firsts_ok (ps := pW ps) (h0 := fun _ => rfl) (fun S3 R r => r) (small (by omega)) (fun p hp' => pair_str (List.all_eq_true.mp hp p hp')) fun S4 h4 at4 => ?_
  rw [pW_fst] at at4
  unfold mLc
  refine lcL_ex (S0 := S4) (fun _ => true) (fun w => .tup [secW w, .ref S3.length]) (fun w => [some (.tup [.str "letall", .tup (pW ps), tW b]), some (.ref nb), some (.str "letall"), some (.ref S.length), some (.ref (S ++ [O.lst []]).length), some (.ref S3.length), none, none, none, some w, none]) (fun _ _ => trivial) (pW ps) [] (by simpa using small (by omega)) (fun w _ S2 R r => ?_) (fun w _ S2 k _ z => z S2 Ex.refl) (fun w hw _ S2 k _ z => ?_) (fun S5 h5 => ?_) _ Ex.refl
  · exact r
  · obtain ⟨y, u, rfl⟩ := pair_two (List.all_eq_true.mp hp w hw)
    simp only [mSeq, mIfS, mRet, mRetN, mAsg, mDrop, mTest, mBin, mChain, mTru, mAnd, mOr, mNot, mAndV, mOrV, mNotV, mIf, mVar, mC, mCons, mNil, mTup, mLst, mCB, mgName, mNext, mIt, mPar, mAug, lk, wLen_tup, wLe_int, wLt_int, wGt_int, wEq_int, wNe_int, wEq_str, wNe_str, wIx_tup, wAt0, wAt1, wAt2, wAt3, oW_s, tru_bl, List.set]
    exact ⟨by show 2 ≤ sizeLine; decide, z S2 Ex.refl⟩
  · rw [filter_true, List.nil_append] at h5
    obtain ⟨h6, at6⟩ := h5.new
    refine ⟨by show 2 ≤ sizeLine; decide, by show 1 ≤ sizeLine; decide, ?_⟩
    refine add_lst (Ex.one.at at6) (new_at S5 _) (by rw [List.length_map]; exact small (by show (pW ps).length + 1 ≤ 100; omega)) ?_
    have h46 := (h6.trans (Ex.one (o := .lst [W.tup [tW b, .ref S3.length]]))).trans (Ex.one (o := .lst ((pW ps).map (fun w => W.tup [secW w, .ref S3.length]) ++ [.tup [tW b, .ref S3.length]])))
    refine q _ _ _ _ _ _ ((ex.trans h4).trans h46) ((h4.trans h46).at hFF) (new_at _ _) ?_
    exact InR.app (.cons (h46.at at4) .nil) (in_ps (h46.at at4) ps)
end
end Ev05

set_option Elab.async false
set_option linter.all false
set_option maxRecDepth 100000
set_option maxHeartbeats 1000000
namespace Ev05
open PySem PySem.Spec PyProof.Rows L2 Ow Ev OwT EvT
/-- as InR, and none of the lists of names is at k -/
inductive InD (k : Nat) (S : Store) : List W → List (T × List Str) → Prop
  | nil : InD k S [] []
  | cons {t : T} {ns : List Str} {r : Nat} {l : List W} {L : List (T × List Str)} : r ≠ k → S[r]? = some (.lst (ns.map W.str)) → InD k S l L → InD k S (.tup [tW t, .ref r] :: l) ((t, ns) :: L)
theorem InD.inR {k : Nat} {S : Store} : ∀ {l : List W} {L : List (T × List Str)}, InD k S l L → InR S l L
  | _, _, .nil => .nil
  | _, _, .cons _ a b => .cons a b.inR
theorem InD.ex {k : Nat} {S S' : Store} (h : Ex S S') : ∀ {l : List W} {L : List (T × List Str)}, InD k S l L → InD k S' l L
  | _, _, .nil => .nil
  | _, _, .cons n a b => .cons n (h.at a) (b.ex h)
theorem InD.mid {S0 m : Store} {a b : List W} : ∀ {l : List W} {L : List (T × List Str)}, InD S0.length (S0 ++ [.lst a] ++ m) l L → InD S0.length (S0 ++ [.lst b] ++ m) l L
  | _, _, .nil => .nil
  | _, _, .cons n x y => .cons n (by rw [mid_ne n (o' := .lst a)]; exact x) y.mid
theorem InD.snoc {k : Nat} {S : Store} {t : T} {ns : List Str} {r : Nat} (h : r ≠ k) (e : S[r]? = some (.lst (ns.map W.str))) : ∀ {l : List W} {L : List (T × List Str)}, InD k S l L → InD k S (l ++ [.tup [tW t, .ref r]]) (L ++ [(t, ns)])
  | _, _, .nil => .cons h e .nil
  | _, _, .cons a b c => .cons a b (InD.snoc h e c)
theorem InD.len {k : Nat} {S : Store} : ∀ {l : List W} {L : List (T × List Str)}, InD k S l L → l.length = L.length
  | _, _, .nil => rfl
  | _, _, .cons _ _ b => congrArg (· + 1) b.len
/-- [(row[2], list(row[1])) for row in term[2]]: each with a new list -/
theorem rows_comp {S0 : Store} {env : EvS} {Q : WK} (hv : ∀ w : W, lk (env.set 8 (some w)) 8 = some w) : ∀ (bs : Bs) (acc : List W) (m : Store) (L : List (T × List Str)), InD S0.length (S0 ++ [.lst acc] ++ m) acc L → acc.length + (bW bs).length ≤ 100 →
      (∀ (l : List W) (m' : Store), InD S0.length (S0 ++ [.lst l] ++ m') l (L ++ bs.subs) → Q (.ref S0.length) (S0 ++ [.lst l] ++ m')) →
      lcL (fun _ => True) (mgName 8) mYes (mTup (mCons (mBin wIx (mVar 8) (mC (.int 2))) (mCons (mCB wList (mCons (mBin wIx (mVar 8) (mC (.int 1))) mNil)) mNil))) S0.length env Q (bW bs) (S0 ++ [.lst acc] ++ m)
  | .nil, acc, m, L, h, _, q => ⟨trivial, q acc m (by show InD _ _ _ (L ++ []); rw [List.append_nil]; exact h)⟩
  | .cons c ys e r, acc, m, L, h, hl, q => by
    have hl : acc.length + ((bW r).length + 1) ≤ 100 := hl
    refine ⟨trivial, ?_⟩
    refine iteT (B := lcL (fun _ => True) (mgName 8) mYes (mTup (mCons (mBin wIx (mVar 8) (mC (.int 2))) (mCons (mCB wList (mCons (mBin wIx (mVar 8) (mC (.int 1))) mNil)) mNil))) S0.length env Q (bW r) (S0 ++ [.lst acc] ++ m)) ?_
    simp only [mTup, mCons, mNil, mBin, mVar, mC, mCB, hv]
    refine ⟨by show 2 ≤ sizeLine; decide, acc, ?_, ?_, ?_⟩
    · exact Ex.one.at (mid_at S0 (.lst acc) m)
    · exact Nat.lt_of_lt_of_le (show acc.length < 101 by omega) (by decide)
    · have e1 : S0 ++ [O.lst acc] ++ m ++ [.lst (ys.map W.str)] = S0 ++ [O.lst acc] ++ (m ++ [.lst (ys.map W.str)]) := by rw [List.append_assoc _ m]
      have at1 : (S0 ++ [O.lst acc] ++ (m ++ [.lst (ys.map W.str)]))[(S0 ++ [O.lst acc] ++ m).length]? = some (.lst (ys.map W.str)) := by
        rw [← e1]
        exact new_at _ _
      have ne1 : (S0 ++ [O.lst acc] ++ m).length ≠ S0.length := by
        rw [List.length_append, List.length_append, List.length_singleton]
        omega
      rw [e1, new_set]
      have h1 : InD S0.length (S0 ++ [.lst acc] ++ (m ++ [.lst (ys.map W.str)])) acc L := by
        rw [← e1]
        exact h.ex Ex.one
      refine rows_comp hv r _ (m ++ [.lst (ys.map W.str)]) (L ++ [(e, ys)]) ((InD.snoc ne1 at1 h1).mid) (by rw [List.length_append, List.length_singleton]; omega) fun l m' hd => ?_
      refine q l m' ?_
      have : L ++ [(e, ys)] ++ r.subs = L ++ (Bs.cons c ys e r).subs := by
        rw [List.append_assoc]
        rfl
      rw [← this]
      exact hd
section
variable {X : MS} {D : MD} {S : Store} {nb : Nat}
theorem open_by {x : Str} {bs : Bs} (w : WF (.by_ x bs)) (q : Left X D S (.by_ x bs) nb) : openHead X D [some (tW (.by_ x bs)), some (.ref nb), none, none, none, none, none, none, none, none, none] S := by
  have hl : (bW bs).length ≤ 6 := by rw [bW_len]; exact w.2.1.2
  unfold openHead
  simp only [tW]
  simp only [mSeq, mIfS, mRet, mRetN, mAsg, mDrop, mTest, mBin, mChain, mTru, mAnd, mOr, mNot, mAndV, mOrV, mNotV, mIf, mVar, mC, mCons, mNil, mTup, mLst, mCB, mgName, mNext, mIt, mPar, mAug, lk, wLen_tup, wLe_int, wLt_int, wGt_int, wEq_int, wNe_int, wEq_str, wNe_str, wIx_tup, wAt0, wAt1, wAt2, wAt3, oW_s, tru_bl, List.set]
  refine ifB (fun e => absurd e (by decide)) fun _ => ?_
  refine ⟨Nat.zero_le _, Nat.zero_le _, ?_⟩
  refine ifB (fun e => absurd e (by decide)) fun _ => ?_
  refine ifB (fun _ => ?_) fun e => absurd e (by decide)
  refine ⟨by show 1 ≤ sizeLine; decide, ?_⟩
  have ex : Ex S (S ++ [O.lst []] ++ [O.lst []] ++ [O.lst [W.str x]]) := ((Ex.one (S := S) (o := .lst [])).trans (Ex.one (o := .lst []))).trans Ex.one
  have hFF : (S ++ [O.lst []] ++ [O.lst []] ++ [O.lst [W.str x]])[(S ++ [O.lst []] ++ [O.lst []]).length]? = some (.lst [W.str x]) := new_at _ _
  unfold mLc
  have := rows_comp (S0 := S ++ [O.lst []] ++ [O.lst []] ++ [O.lst [W.str x]]) (env := [some (.tup [.str "by", .str x, .tup (bW bs)]), some (.ref nb), some (.str "by"), some (.ref (S ++ [O.lst []] ++ [O.lst []]).length), some (.ref (S ++ [O.lst []]).length), none, none, none, none, none, none]) (Q := fun w S1 => X D [some (.tup [.str "by", .str x, .tup (bW bs)]), some (.ref nb), some (.str "by"), some (.ref (S ++ [O.lst []] ++ [O.lst []]).length), some w, none, none, none, none, none, none] S1) (fun _ => rfl) bs [] [] [] .nil (by show 0 + (bW bs).length ≤ 100; omega) fun l m' hd => ?_
  · rw [List.append_nil] at this
    exact this
  · have ex2 : Ex (S ++ [O.lst []] ++ [O.lst []] ++ [O.lst [W.str x]]) (S ++ [O.lst []] ++ [O.lst []] ++ [O.lst [W.str x]] ++ [O.lst l] ++ m') := ⟨[O.lst l] ++ m', by rw [List.append_assoc _ _ m']⟩
    exact q _ _ _ l _ _ (ex.trans ex2) (ex2.at hFF) (mid_at _ _ _) hd.inR
end
theorem vc_open {n nb : Nat} {t : T} {bs : List Str} {S : Store} {D : MD} (w : WF t) (hd : deep t ≤ n + 1) (hn : nodes t ≤ 300) (hb : bs.length + 6 * deep t ≤ 600) (hB : S[nb]? = some (.lst (bs.map W.str)))
    (q : ∀ (r : Nat) (ys : List Str) S', Ex S S' → S.length ≤ r → S'[r]? = some (.lst (ys.map W.str)) → (∀ k, k ∈ ys ↔ Free k t ∧ k ∉ bs) → ys.length ≤ 3 * nodes t → D.rt (.ref r) S') :
    m_x_law_open (OpenC n) D [some (tW t), some (.ref nb), none, none, none, none, none, none, none, none, none] S := by
  rw [open_eq]
  have left : Left (openTail n) D S t nb := fun z F I l e5 S' h hF hI hl => vc_tail w hd hn hb (h.at hB) hF hI hl (each_deep t) fun r ys S2 a b c d e => q r ys S2 (h.trans a) (Nat.le_trans h.len b) c d e
  cases t with
  | num n => exact open_num (q _ [] _ Ex.one (Nat.le_refl _) (new_at S _) (fun k => ⟨(fun h => by cases h), fun h => h.1.elim⟩) (Nat.zero_le _))
  | nam x => exact open_else (by decide) rfl rfl rfl left
  | fn x e => exact open_fn left
  | two z x y =>
    have tz := isTwo w.1
    exact open_else (by rcases tz with rfl | rfl | rfl | rfl | rfl <;> decide) rfl rfl rfl left
  | lt z x e b => exact open_lt w.1 left
  | all ps b => exact open_all w left
  | mk c xs => exact open_mk left
  | by_ x bs => exact open_by w left
end Ev05

set_option Elab.async false
set_option linter.all false
set_option maxRecDepth 100000
set_option maxHeartbeats 1000000
/-! Names bound round a term; texts that stand in a thing. -/
namespace Ev05
open PySem PySem.Spec PyProof.Rows L2 Ow Ev OwT EvT
mutual
/-- all texts in w are of Z -/
def TX (Z : List Str) : W → Prop
  | .str x => x ∈ Z
  | .tup l => TXs Z l
  | _ => True
def TXs (Z : List Str) : List W → Prop
  | [] => True
  | w :: l => TX Z w ∧ TXs Z l
end
theorem txs_strs {Z : List Str} : ∀ {xs : List Str}, TXs Z (xs.map W.str) → ∀ x ∈ xs, x ∈ Z
  | y :: xs, h, x, hx => by
    rcases List.mem_cons.mp hx with rfl | hx
    · exact h.1
    · exact txs_strs h.2 x hx
theorem txs_of {Z : List Str} : ∀ {xs : List Str}, (∀ x ∈ xs, x ∈ Z) → TXs Z (xs.map W.str)
  | [], _ => trivial
  | y :: xs, h => ⟨h y List.mem_cons_self, txs_of fun x hx => h x (List.mem_cons_of_mem _ hx)⟩
mutual
/-- free names are texts of the term -/
theorem free_tx {Z : List Str} {k : Str} : ∀ (t : T), TX Z (tW t) → Free k t → k ∈ Z
  | .num _, _, h => h.elim
  | .nam x, z, h => by
    have h : k = x := h
    rw [h]
    exact z.2.1
  | .fn x e, z, h => free_tx e z.2.2.1 h.1
  | .two w x y, z, h => by
    rcases h with rfl | rfl
    · exact z.2.1
    · exact z.2.2.1
  | .lt w x e b, z, h => by
    rcases h with h | h
    · exact free_tx e z.2.2.1 h
    · exact free_tx b z.2.2.2.1 h.1
  | .all ps b, z, h => by
    rcases h.1 with h | h
    · exact free_txp ps z.2.1 h
    · exact free_tx b z.2.2.1 h
  | .mk c xs, z, h => txs_strs z.2.2.1 k h
  | .by_ x bs, z, h => by
    rcases h with rfl | h
    · exact z.2.1
    · exact free_txb bs z.2.2.1 h
theorem free_txp {Z : List Str} {k : Str} : ∀ (ps : Ps), TXs Z (pW ps) → FreePs k ps → k ∈ Z
  | .nil, _, h => h.elim
  | .cons x e r, z, h => by
    rcases h with h | h
    · exact free_tx e z.1.2.1 h
    · exact free_txp r z.2 h
theorem free_txb {Z : List Str} {k : Str} : ∀ (bs : Bs), TXs Z (bW bs) → FreeBs k bs → k ∈ Z
  | .nil, _, h => h.elim
  | .cons c ys e r, z, h => by
    rcases h with h | h
    · exact free_tx e z.1.2.2.1 h.1
    · exact free_txb r z.2 h
end
def w13 : List Str := ["num", "name", "fun", "call", "let", "now", "letall", "made", "by", "sum", "minus", "less", "same"]
mutual
theorem tx_good {Z ns : List Str} (h : ∀ x ∈ ns, x ∈ Z) (hw : ∀ x ∈ w13, x ∈ Z) : ∀ (t : T), Good ns t → TX Z (tW t)
  | .num _, _ => ⟨hw _ (by decide), trivial, trivial⟩
  | .nam x, g => ⟨hw _ (by decide), h x g, trivial⟩
  | .fn x e, g => ⟨hw _ (by decide), h x g.1, tx_good h hw e g.2, trivial⟩
  | .two w x y, g => ⟨hw _ (by rcases isTwo g.1 with rfl | rfl | rfl | rfl | rfl <;> decide), h x g.2.1, h y g.2.2, trivial⟩
  | .lt w x e b, g => ⟨hw _ (by rcases g.1 with rfl | rfl <;> decide), h x g.2.1, tx_good h hw e g.2.2.1, tx_good h hw b g.2.2.2, trivial⟩
  | .all ps b, g => ⟨hw _ (by decide), tx_goodp h hw ps g.1, tx_good h hw b g.2, trivial⟩
  | .mk c xs, g => ⟨hw _ (by decide), h c g.1, txs_of fun x hx => h x (g.2.1 x hx), trivial⟩
  | .by_ x bs, g => ⟨hw _ (by decide), h x g.1, tx_goodb h hw bs g.2, trivial⟩
theorem tx_goodp {Z ns : List Str} (h : ∀ x ∈ ns, x ∈ Z) (hw : ∀ x ∈ w13, x ∈ Z) : ∀ (ps : Ps), GoodPs ns ps → TXs Z (pW ps)
  | .nil, _ => trivial
  | .cons x e r, g => ⟨⟨h x g.1, tx_good h hw e g.2.1, trivial⟩, tx_goodp h hw r g.2.2⟩
theorem tx_goodb {Z ns : List Str} (h : ∀ x ∈ ns, x ∈ Z) (hw : ∀ x ∈ w13, x ∈ Z) : ∀ (bs : Bs), GoodBs ns bs → TXs Z (bW bs)
  | .nil, _ => trivial
  | .cons c ys e r, g => ⟨⟨h c g.1, txs_of fun x hx => h x (g.2.1 x hx), tx_good h hw e g.2.2.2.1, trivial⟩, tx_goodb h hw r g.2.2.2.2⟩
end
theorem lay_pos : ∀ (t : T), 1 ≤ lay (tW t) := by
  intro t
  cases t <;> exact Nat.le_add_right 1 _
/-- what a binder round it may be -/
structure Round (Z : List Str) (x : Str) (t u : T) : Prop where
  wf : WF u
  tx : TX Z (tW u)
  nodes : nodes u ≤ nodes t + 4
  deep : deep u ≤ deep t + 2 ∧ lay (tW u) ≤ lay (tW t) + 4
  free : ∀ k, Free k u → Free k t ∧ k ≠ x
theorem nm_c : isNm ("c" : Str) = true := by decide +kernel
theorem nm_d : isNm ("d" : Str) = true := by decide +kernel
theorem round0 {Z : List Str} {x : Str} {t : T} (hw : ∀ y ∈ w13, y ∈ Z) (hx : x ∈ Z) (nx : isNm x = true) (w : WF t) (z : TX Z (tW t)) : Round Z x t (.fn x t) :=
  ⟨⟨nx, w⟩, ⟨hw _ (by decide), hx, z, trivial⟩, by show 1 + nodes t ≤ _; omega, by show 1 + deep t ≤ deep t + 2 ∧ 1 + max 0 (max 0 (max (lay (tW t)) 0)) ≤ lay (tW t) + 4; omega, fun k h => h⟩
theorem round1 {Z : List Str} {x wd : Str} {t : T} {i : Int} (hl : wd = "let" ∨ wd = "now") (hi : -(10 ^ 18) ≤ i ∧ i ≤ 10 ^ 18) (hw : ∀ y ∈ w13, y ∈ Z) (hx : x ∈ Z) (nx : isNm x = true) (w : WF t) (z : TX Z (tW t)) : Round Z x t (.lt wd x (.num i) t) :=
  ⟨⟨hl, nx, hi, w⟩, ⟨hw _ (by rcases hl with rfl | rfl <;> decide), hx, ⟨hw _ (by decide), trivial, trivial⟩, z, trivial⟩, by show 1 + 1 + nodes t ≤ _; omega, by show 1 + max 1 (deep t) ≤ deep t + 2 ∧ 1 + max 0 (max 0 (max 1 (max (lay (tW t)) 0))) ≤ lay (tW t) + 4; omega, fun k h => h.elim (fun h => h.elim) id⟩
theorem round2 {Z : List Str} {x : Str} {t : T} (hc : ("c" : Str) ∈ Z) (hw : ∀ y ∈ w13, y ∈ Z) (hx : x ∈ Z) (nx : isNm x = true) (w : WF t) (z : TX Z (tW t)) : Round Z x t (.all (.cons x (.mk "c" [x]) .nil) t) := by
  refine ⟨⟨⟨by show 1 ≤ 1; decide, by show 1 ≤ 6; decide⟩, by simp [Ps.names], ⟨nx, trivial, ⟨nm_c, by show 1 ≤ 3; decide, fun y hy => by rw [List.mem_singleton.mp hy]; exact nx⟩, trivial⟩, w⟩, ⟨hw _ (by decide), ⟨⟨hx, ⟨hw _ (by decide), hc, ⟨hx, trivial⟩, trivial⟩, trivial⟩, trivial⟩, z, trivial⟩, ?_, ?_, fun k h => ?_⟩
  · show 1 + (1 + 0) + nodes t ≤ _
    omega
  · show 1 + max (max 1 0) (deep t) ≤ deep t + 2 ∧ 1 + max 0 (max (1 + max (1 + max 0 (max 2 0)) 0) (max (lay (tW t)) 0)) ≤ lay (tW t) + 4
    have p1 := lay_pos t
    omega
  · have hn : k ≠ x := fun e => h.2 (by rw [e]; exact List.mem_cons_self)
    refine ⟨?_, hn⟩
    rcases h.1 with h | h
    · rcases h with h | h
      · exact absurd (List.mem_singleton.mp h) hn
      · exact h.elim
    · exact h
theorem round3 {Z : List Str} {x : Str} {t : T} (hc : ("c" : Str) ∈ Z) (hd : ("d" : Str) ∈ Z) (hw : ∀ y ∈ w13, y ∈ Z) (hx : x ∈ Z) (nx : isNm x = true) (w : WF t) (z : TX Z (tW t)) :
    Round Z x t (.lt "let" x (.num 0) (.by_ x (.cons "c" [] (.num 1) (.cons "d" [x] t .nil)))) := by
  refine ⟨⟨.inl rfl, nx, ⟨by decide, by decide⟩, nx, ⟨by show 1 ≤ 2; decide, by show 2 ≤ 6; decide⟩, by show [("c" : Str), "d"].Nodup; decide, ⟨nm_c, ⟨by decide, by decide, fun y hy => by cases hy⟩, ⟨by decide, by decide⟩, nm_d, ⟨by show 1 ≤ 3; decide, by simp, fun y hy => by rw [List.mem_singleton.mp hy]; exact nx⟩, w, trivial⟩⟩,
    ⟨hw _ (by decide), hx, ⟨hw _ (by decide), trivial, trivial⟩, ⟨hw _ (by decide), hx, ⟨⟨hc, trivial, ⟨hw _ (by decide), trivial, trivial⟩, trivial⟩, ⟨hd, ⟨hx, trivial⟩, z, trivial⟩, trivial⟩, trivial⟩, trivial⟩, ?_, ?_, fun k h => ?_⟩
  · have e : OwT.nodes (.lt "let" x (.num 0) (.by_ x (.cons "c" [] (.num 1) (.cons "d" [x] t .nil)))) = 1 + 1 + (1 + (1 + (OwT.nodes t + 0))) := rfl
    omega
  · have p1 := deep_pos t
    have p2 := lay_pos t
    have e : OwT.deep (.lt "let" x (.num 0) (.by_ x (.cons "c" [] (.num 1) (.cons "d" [x] t .nil)))) = 1 + max 1 (1 + max 1 (max (OwT.deep t) 0)) := rfl
    have e2 : lay (tW (.lt "let" x (.num 0) (.by_ x (.cons "c" [] (.num 1) (.cons "d" [x] t .nil))))) = 1 + max 0 (max 0 (max 1 (max (1 + max 0 (max 0 (max (1 + max (1 + max 0 (max 1 (max 1 0))) (max (1 + max 0 (max 1 (max (lay (tW t)) 0))) 0)) 0))) 0))) := rfl
    rw [e, e2]
    omega
  · rcases h with h | ⟨h, hn⟩
    · exact h.elim
    · refine ⟨?_, hn⟩
      rcases h with h | h
      · exact absurd h hn
      · rcases h with h | h
        · exact h.1.elim
        · rcases h with h | h
          · exact h.1
          · exact h.elim
end Ev05

set_option Elab.async false
set_option linter.all false
set_option maxRecDepth 100000
set_option maxHeartbeats 1000000
namespace Ev05
open PySem PySem.Spec PyProof.Rows L2 Ow Ev OwT EvT
def BoundC (Z : List Str) : Con := ⟨Nat × T × Nat × List Str, fun (p, t, nn, xs) ws S => ws = [.ref p, tW t, .ref nn] ∧ FdS S p ∧ nn ≠ p ∧ S[nn]? = some (.lst (xs.map W.str)) ∧ WF t ∧ TX Z (tW t) ∧ (∀ x ∈ xs, isNm x = true ∧ x ∈ Z),
  fun (p, t, nn, xs) S w S' => ∃ u : T, w = tW u ∧ WF u ∧ TX Z (tW u) ∧ nodes u ≤ nodes t + 4 * xs.length ∧ (deep u ≤ deep t + 2 * xs.length ∧ lay (tW u) ≤ lay (tW t) + 4 * xs.length) ∧ (∀ k, Free k u → Free k t ∧ k ∉ xs) ∧ Fx [p] S S' ∧ FdS S' p⟩
theorem bound_call {Z : List Str} {p nn : Nat} {t : T} {xs : List Str} {S : Store} {Q : WK} (h : FdS S p) (hn : nn ≠ p) (hx : S[nn]? = some (.lst (xs.map W.str))) (w : WF t) (z : TX Z (tW t)) (hz : ∀ x ∈ xs, isNm x = true ∧ x ∈ Z)
    (q : ∀ (u : T) S', WF u → TX Z (tW u) → nodes u ≤ nodes t + 4 * xs.length → (deep u ≤ deep t + 2 * xs.length ∧ lay (tW u) ≤ lay (tW t) + 4 * xs.length) → (∀ k, Free k u → Free k t ∧ k ∉ xs) → Fx [p] S S' → FdS S' p → Q (tW u) S') : conR (BoundC Z) [.ref p, tW t, .ref nn] S Q :=
  ⟨(p, t, nn, xs), ⟨rfl, h, hn, hx, w, z, hz⟩, fun w S' ⟨u, e, a1, a2, a3, a4, a5, a6, a7⟩ => by rw [e]; exact q u S' a1 a2 a3 a4 a5 a6 a7⟩
def boundB : MS := (mSeq (mAsg (mCB (conR TakeC) (mCons (mVar 0) (mCons (mC (.int 5)) mNil))) (mgName 4))
  (mIfS (mTest (mBin wEq (mVar 4) (mC (.int 0))))
  (mAsg (mTup (mCons (mC (.str "fun")) (mCons (mVar 3) (mCons (mVar 1) mNil)))) (mgName 1))
  (mIfS (mTest (mBin wEq (mVar 4) (mC (.int 1))))
  (mAsg (mTup (mCons (mC (.str "now")) (mCons (mVar 3) (mCons (mTup (mCons (mC (.str "num")) (mCons (mC (.int 1)) mNil))) (mCons (mVar 1) mNil))))) (mgName 1))
  (mIfS (mTest (mBin wEq (mVar 4) (mC (.int 2))))
  (mAsg (mTup (mCons (mC (.str "letall")) (mCons (mTup (mCons (mTup (mCons (mVar 3) (mCons (mTup (mCons (mC (.str "made")) (mCons (mC (.str "c")) (mCons (mTup (mCons (mVar 3) mNil)) mNil)))) mNil))) mNil)) (mCons (mVar 1) mNil)))) (mgName 1))
  (mIfS (mTest (mBin wEq (mVar 4) (mC (.int 3))))
  (mAsg (mTup (mCons (mC (.str "let")) (mCons (mVar 3) (mCons (mTup (mCons (mC (.str "num")) (mCons (mC (.int 0)) mNil))) (mCons (mTup (mCons (mC (.str "by")) (mCons (mVar 3) (mCons (mTup (mCons (mTup (mCons (mC (.str "c")) (mCons (mTup mNil) (mCons (mTup (mCons (mC (.str "num")) (mCons (mC (.int 1)) mNil))) mNil)))) (mCons (mTup (mCons (mC (.str "d")) (mCons (mTup (mCons (mVar 3) mNil)) (mCons (mVar 1) mNil)))) mNil))) mNil)))) mNil))))) (mgName 1))
  (mAsg (mTup (mCons (mC (.str "let")) (mCons (mVar 3) (mCons (mTup (mCons (mC (.str "num")) (mCons (mC (.int 0)) mNil))) (mCons (mVar 1) mNil))))) (mgName 1)))))))
theorem bound_for {Z : List Str} {p nn : Nat} {D : MD} {chkL : List W} (hc : ("c" : Str) ∈ Z) (hd : ("d" : Str) ∈ Z) (hw : ∀ y ∈ w13, y ∈ Z) (hn : nn ≠ p) : ∀ (xs : List Str) (t : T) (S : Store) (e3 e4 : Option W), FdS S p → S[nn]? = some (.lst chkL) → WF t → TX Z (tW t) → (∀ x ∈ xs, isNm x = true ∧ x ∈ Z) →
    (∀ (u : T) (S' : Store) (e3 e4 : Option W), WF u → TX Z (tW u) → nodes u ≤ nodes t + 4 * xs.length → (deep u ≤ deep t + 2 * xs.length ∧ lay (tW u) ≤ lay (tW t) + 4 * xs.length) → (∀ k, Free k u → Free k t ∧ k ∉ xs) → Fx [p] S S' → FdS S' p → D.nx [some (.ref p), some (tW u), some (.ref nn), e3, e4] S') →
    forL (fun S' => S'[nn]? = some (.lst chkL)) (mgName 3) boundB D (xs.map W.str) [some (.ref p), some (tW t), some (.ref nn), e3, e4] S
  | [], t, S, e3, e4, h, hx, w, z, _, q => ⟨hx, q t S e3 e4 w z (by simp) ⟨by simp, by simp⟩ (fun k h => ⟨h, by simp⟩) Fx.refl h⟩
  | x :: xs, t, S, e3, e4, h, hx, w, z, hz, q => by
    obtain ⟨nx, xz⟩ := hz x List.mem_cons_self
    have s1 : 1 ≤ sizeLine := by decide
    have s2 : 2 ≤ sizeLine := by decide
    have s3 : 3 ≤ sizeLine := by decide
    have s4 : 4 ≤ sizeLine := by decide
    have s0 : 0 ≤ sizeLine := Nat.zero_le _
    refine ⟨hx, ?_⟩
    refine take_call h (by decide) (by decide) fun r S1 r0 r1 f1 fd1 => ?_
    have hx1 : S1[nn]? = some (.lst chkL) := f1.keep _ _ (by simpa using hn) hx
    have go : ∀ u : T, Round Z x t u → forL (fun S' => S'[nn]? = some (.lst chkL)) (mgName 3) boundB D (xs.map W.str) [some (.ref p), some (tW u), some (.ref nn), some (.str x), some (.int r)] S1 := fun u R => by
      refine bound_for hc hd hw hn xs u S1 _ _ fd1 hx1 R.wf R.tx (fun y hy => hz y (List.mem_cons_of_mem _ hy)) fun v S' e3 e4 w' z' n' d' f' fx' fd' => ?_
      have a := R.nodes
      have b := R.deep
      refine q v S' _ _ w' z' (by rw [List.length_cons]; omega) (by rw [List.length_cons]; omega) (fun k hk => ?_) (f1.trans fx') fd'
      obtain ⟨c1, c2⟩ := f' k hk
      obtain ⟨c3, c4⟩ := R.free k c1
      exact ⟨c3, fun z => (List.mem_cons.mp z).elim c4 c2⟩
    simp only [mgName, List.set, mIfS, mTest, mBin, mVar, mC, lk]
    rw [wEq_int]
    refine ifB (fun _ => ⟨s3, go _ (round0 hw xz nx w z)⟩) fun _ => ?_
    rw [wEq_int]
    refine ifB (fun _ => ⟨s2, s4, go _ (round1 (.inr rfl) ⟨by decide, by decide⟩ hw xz nx w z)⟩) fun _ => ?_
    rw [wEq_int]
    refine ifB (fun _ => ⟨s1, s3, s2, s1, s3, go _ (round2 hc hw xz nx w z)⟩) fun _ => ?_
    rw [wEq_int]
    refine ifB (fun _ => ?_) fun _ => ⟨s2, s4, go _ (round1 (.inl rfl) ⟨by decide, by decide⟩ hw xz nx w z)⟩
    exact ⟨s2, s0, s2, s3, s1, s3, s2, s3, s4, go _ (round3 hc hd hw xz nx w z)⟩
theorem vc_bound {Z : List Str} {p nn : Nat} {t : T} {xs : List Str} {S : Store} {D : MD} (hc : ("c" : Str) ∈ Z) (hd : ("d" : Str) ∈ Z) (hw : ∀ y ∈ w13, y ∈ Z) (h : FdS S p) (hn : nn ≠ p) (hx : S[nn]? = some (.lst (xs.map W.str))) (w : WF t) (z : TX Z (tW t)) (hz : ∀ x ∈ xs, isNm x = true ∧ x ∈ Z)
    (q : ∀ (u : T) S', WF u → TX Z (tW u) → nodes u ≤ nodes t + 4 * xs.length → (deep u ≤ deep t + 2 * xs.length ∧ lay (tW u) ≤ lay (tW t) + 4 * xs.length) → (∀ k, Free k u → Free k t ∧ k ∉ xs) → Fx [p] S S' → FdS S' p → D.rt (tW u) S') :
    m_x_law_bound TakeC D [some (.ref p), some (tW t), some (.ref nn), none, none] S := by
  have e : m_x_law_bound TakeC = mSeq (mFor (mIt (mVar 2)) (mgName 3) boundB) (mRet (mVar 1)) := rfl
  rw [e]
  simp only [mSeq, mFor, mIt, mVar, lk]
  rw [walk_lst hx]
  exact bound_for hc hd hw hn xs t S none none h hx w z hz fun u S' e3 e4 a b c d e f g => q u S' a b c d e f g
end Ev05

set_option Elab.async false
set_option linter.all false
set_option maxRecDepth 100000
set_option maxHeartbeats 1000000
namespace EvT
open PySem PySem.Spec PyProof.Rows L2 Ow Ev OwT
def headW (w : W) : Str := match w with
  | .tup (.str z :: _) => z
  | _ => Str.empty
theorem strs_inj : ∀ {xs ys : List Str}, xs.map W.str = ys.map W.str → xs = ys
  | [], [], _ => rfl
  | x :: xs, y :: ys, h => by
    rw [List.map_cons, List.map_cons] at h
    obtain ⟨a, b⟩ := List.cons.inj h
    rw [W.str.inj a, strs_inj b]
mutual
theorem tW_inj : ∀ (t u : T), WF t → WF u → tW t = tW u → t = u
  | .num n, .num n', wt, wu, h => by
    simp only [tW, W.tup.injEq, List.cons.injEq, W.str.injEq, W.int.injEq, and_true, true_and] at h
    rw [h]
  | .num n, .nam x', wt, wu, h => by
    have e := congrArg headW h
    exact absurd (show ("num" : Str) = "name" from e) (by decide)
  | .num n, .fn x' e', wt, wu, h => by
    have e := congrArg headW h
    exact absurd (show ("num" : Str) = "fun" from e) (by decide)
  | .num n, .two w' x' y', wt, wu, h => by
    have e := congrArg headW h
    have e : "num" = w' := e
    exact absurd wu.1 (by rw [← e]; decide)
  | .num n, .lt w' x' e' b', wt, wu, h => by
    have e := congrArg headW h
    have e : "num" = w' := e
    rcases wu.1 with z | z <;> (rw [← e] at z; exact absurd z (by decide))
  | .num n, .all ps' b', wt, wu, h => by
    have e := congrArg headW h
    exact absurd (show ("num" : Str) = "letall" from e) (by decide)
  | .num n, .mk c' xs', wt, wu, h => by
    have e := congrArg headW h
    exact absurd (show ("num" : Str) = "made" from e) (by decide)
  | .num n, .by_ x' bs', wt, wu, h => by
    have e := congrArg headW h
    exact absurd (show ("num" : Str) = "by" from e) (by decide)
  | .nam x, .num n', wt, wu, h => by
    have e := congrArg headW h
    exact absurd (show ("name" : Str) = "num" from e) (by decide)
  | .nam x, .nam x', wt, wu, h => by
    simp only [tW, W.tup.injEq, List.cons.injEq, W.str.injEq, W.int.injEq, and_true, true_and] at h
    rw [h]
  | .nam x, .fn x' e', wt, wu, h => by
    have e := congrArg headW h
    exact absurd (show ("name" : Str) = "fun" from e) (by decide)
  | .nam x, .two w' x' y', wt, wu, h => by
    have e := congrArg headW h
    have e : "name" = w' := e
    exact absurd wu.1 (by rw [← e]; decide)
  | .nam x, .lt w' x' e' b', wt, wu, h => by
    have e := congrArg headW h
    have e : "name" = w' := e
    rcases wu.1 with z | z <;> (rw [← e] at z; exact absurd z (by decide))
  | .nam x, .all ps' b', wt, wu, h => by
    have e := congrArg headW h
    exact absurd (show ("name" : Str) = "letall" from e) (by decide)
  | .nam x, .mk c' xs', wt, wu, h => by
    have e := congrArg headW h
    exact absurd (show ("name" : Str) = "made" from e) (by decide)
  | .nam x, .by_ x' bs', wt, wu, h => by
    have e := congrArg headW h
    exact absurd (show ("name" : Str) = "by" from e) (by decide)
  | .fn x e, .num n', wt, wu, h => by
    have e := congrArg headW h
    exact absurd (show ("fun" : Str) = "num" from e) (by decide)
  | .fn x e, .nam x', wt, wu, h => by
    have e := congrArg headW h
    exact absurd (show ("fun" : Str) = "name" from e) (by decide)
  | .fn x e, .fn x' e', wt, wu, h => by
    simp only [tW, W.tup.injEq, List.cons.injEq, W.str.injEq, W.int.injEq, and_true, true_and] at h
    rw [h.1, tW_inj e e' wt.2 wu.2 h.2]
  | .fn x e, .two w' x' y', wt, wu, h => by
    have e := congrArg headW h
    have e : "fun" = w' := e
    exact absurd wu.1 (by rw [← e]; decide)
  | .fn x e, .lt w' x' e' b', wt, wu, h => by
    have e := congrArg headW h
    have e : "fun" = w' := e
    rcases wu.1 with z | z <;> (rw [← e] at z; exact absurd z (by decide))
  | .fn x e, .all ps' b', wt, wu, h => by
    have e := congrArg headW h
    exact absurd (show ("fun" : Str) = "letall" from e) (by decide)
  | .fn x e, .mk c' xs', wt, wu, h => by
    have e := congrArg headW h
    exact absurd (show ("fun" : Str) = "made" from e) (by decide)
  | .fn x e, .by_ x' bs', wt, wu, h => by
    have e := congrArg headW h
    exact absurd (show ("fun" : Str) = "by" from e) (by decide)
  | .two w x y, .num n', wt, wu, h => by
    have e := congrArg headW h
    have e : w = "num" := e
    exact absurd wt.1 (by rw [e]; decide)
  | .two w x y, .nam x', wt, wu, h => by
    have e := congrArg headW h
    have e : w = "name" := e
    exact absurd wt.1 (by rw [e]; decide)
  | .two w x y, .fn x' e', wt, wu, h => by
    have e := congrArg headW h
    have e : w = "fun" := e
    exact absurd wt.1 (by rw [e]; decide)
  | .two w x y, .two w' x' y', wt, wu, h => by
    simp only [tW, W.tup.injEq, List.cons.injEq, W.str.injEq, W.int.injEq, and_true, true_and] at h
    rw [h.1, h.2.1, h.2.2]
  | .two w x y, .lt w' x' e' b', wt, wu, h => by
    have e := congrArg headW h
    have e : w = w' := e
    rcases wu.1 with z | z <;> (rw [← e] at z; exact absurd wt.1 (by rw [z]; decide))
  | .two w x y, .all ps' b', wt, wu, h => by
    have e := congrArg headW h
    have e : w = "letall" := e
    exact absurd wt.1 (by rw [e]; decide)
  | .two w x y, .mk c' xs', wt, wu, h => by
    have e := congrArg headW h
    have e : w = "made" := e
    exact absurd wt.1 (by rw [e]; decide)
  | .two w x y, .by_ x' bs', wt, wu, h => by
    have e := congrArg headW h
    have e : w = "by" := e
    exact absurd wt.1 (by rw [e]; decide)
  | .lt w x e b, .num n', wt, wu, h => by
    have e := congrArg headW h
    have e : w = "num" := e
    rcases wt.1 with z | z <;> (rw [e] at z; exact absurd z (by decide))
  | .lt w x e b, .nam x', wt, wu, h => by
    have e := congrArg headW h
    have e : w = "name" := e
    rcases wt.1 with z | z <;> (rw [e] at z; exact absurd z (by decide))
  | .lt w x e b, .fn x' e', wt, wu, h => by
    have e := congrArg headW h
    have e : w = "fun" := e
    rcases wt.1 with z | z <;> (rw [e] at z; exact absurd z (by decide))
  | .lt w x e b, .two w' x' y', wt, wu, h => by
    have e := congrArg headW h
    have e : w = w' := e
    rcases wt.1 with z | z <;> (rw [e] at z; exact absurd wu.1 (by rw [z]; decide))
  | .lt w x e b, .lt w' x' e' b', wt, wu, h => by
    simp only [tW, W.tup.injEq, List.cons.injEq, W.str.injEq, W.int.injEq, and_true, true_and] at h
    rw [h.1, h.2.1, tW_inj e e' wt.2.2.1 wu.2.2.1 h.2.2.1, tW_inj b b' wt.2.2.2 wu.2.2.2 h.2.2.2]
  | .lt w x e b, .all ps' b', wt, wu, h => by
    have e := congrArg headW h
    have e : w = "letall" := e
    rcases wt.1 with z | z <;> (rw [e] at z; exact absurd z (by decide))
  | .lt w x e b, .mk c' xs', wt, wu, h => by
    have e := congrArg headW h
    have e : w = "made" := e
    rcases wt.1 with z | z <;> (rw [e] at z; exact absurd z (by decide))
  | .lt w x e b, .by_ x' bs', wt, wu, h => by
    have e := congrArg headW h
    have e : w = "by" := e
    rcases wt.1 with z | z <;> (rw [e] at z; exact absurd z (by decide))
  | .all ps b, .num n', wt, wu, h => by
    have e := congrArg headW h
    exact absurd (show ("letall" : Str) = "num" from e) (by decide)
  | .all ps b, .nam x', wt, wu, h => by
    have e := congrArg headW h
    exact absurd (show ("letall" : Str) = "name" from e) (by decide)
  | .all ps b, .fn x' e', wt, wu, h => by
    have e := congrArg headW h
    exact absurd (show ("letall" : Str) = "fun" from e) (by decide)
  | .all ps b, .two w' x' y', wt, wu, h => by
    have e := congrArg headW h
    have e : "letall" = w' := e
    exact absurd wu.1 (by rw [← e]; decide)
  | .all ps b, .lt w' x' e' b', wt, wu, h => by
    have e := congrArg headW h
    have e : "letall" = w' := e
    rcases wu.1 with z | z <;> (rw [← e] at z; exact absurd z (by decide))
  | .all ps b, .all ps' b', wt, wu, h => by
    simp only [tW, W.tup.injEq, List.cons.injEq, W.str.injEq, W.int.injEq, and_true, true_and] at h
    rw [pW_inj ps ps' wt.2.2.1 wu.2.2.1 h.1, tW_inj b b' wt.2.2.2 wu.2.2.2 h.2]
  | .all ps b, .mk c' xs', wt, wu, h => by
    have e := congrArg headW h
    exact absurd (show ("letall" : Str) = "made" from e) (by decide)
  | .all ps b, .by_ x' bs', wt, wu, h => by
    have e := congrArg headW h
    exact absurd (show ("letall" : Str) = "by" from e) (by decide)
  | .mk c xs, .num n', wt, wu, h => by
    have e := congrArg headW h
    exact absurd (show ("made" : Str) = "num" from e) (by decide)
  | .mk c xs, .nam x', wt, wu, h => by
    have e := congrArg headW h
    exact absurd (show ("made" : Str) = "name" from e) (by decide)
  | .mk c xs, .fn x' e', wt, wu, h => by
    have e := congrArg headW h
    exact absurd (show ("made" : Str) = "fun" from e) (by decide)
  | .mk c xs, .two w' x' y', wt, wu, h => by
    have e := congrArg headW h
    have e : "made" = w' := e
    exact absurd wu.1 (by rw [← e]; decide)
  | .mk c xs, .lt w' x' e' b', wt, wu, h => by
    have e := congrArg headW h
    have e : "made" = w' := e
    rcases wu.1 with z | z <;> (rw [← e] at z; exact absurd z (by decide))
  | .mk c xs, .all ps' b', wt, wu, h => by
    have e := congrArg headW h
    exact absurd (show ("made" : Str) = "letall" from e) (by decide)
  | .mk c xs, .mk c' xs', wt, wu, h => by
    simp only [tW, W.tup.injEq, List.cons.injEq, W.str.injEq, W.int.injEq, and_true, true_and] at h
    rw [h.1, strs_inj h.2]
  | .mk c xs, .by_ x' bs', wt, wu, h => by
    have e := congrArg headW h
    exact absurd (show ("made" : Str) = "by" from e) (by decide)
  | .by_ x bs, .num n', wt, wu, h => by
    have e := congrArg headW h
    exact absurd (show ("by" : Str) = "num" from e) (by decide)
  | .by_ x bs, .nam x', wt, wu, h => by
    have e := congrArg headW h
    exact absurd (show ("by" : Str) = "name" from e) (by decide)
  | .by_ x bs, .fn x' e', wt, wu, h => by
    have e := congrArg headW h
    exact absurd (show ("by" : Str) = "fun" from e) (by decide)
  | .by_ x bs, .two w' x' y', wt, wu, h => by
    have e := congrArg headW h
    have e : "by" = w' := e
    exact absurd wu.1 (by rw [← e]; decide)
  | .by_ x bs, .lt w' x' e' b', wt, wu, h => by
    have e := congrArg headW h
    have e : "by" = w' := e
    rcases wu.1 with z | z <;> (rw [← e] at z; exact absurd z (by decide))
  | .by_ x bs, .all ps' b', wt, wu, h => by
    have e := congrArg headW h
    exact absurd (show ("by" : Str) = "letall" from e) (by decide)
  | .by_ x bs, .mk c' xs', wt, wu, h => by
    have e := congrArg headW h
    exact absurd (show ("by" : Str) = "made" from e) (by decide)
  | .by_ x bs, .by_ x' bs', wt, wu, h => by
    simp only [tW, W.tup.injEq, List.cons.injEq, W.str.injEq, W.int.injEq, and_true, true_and] at h
    rw [h.1, bW_inj bs bs' wt.2.2.2 wu.2.2.2 h.2]
theorem pW_inj : ∀ (t u : Ps), WFp t → WFp u → pW t = pW u → t = u
  | .nil, .nil, _, _, _ => rfl
  | .nil, .cons _ _ _, _, _, h => by cases h
  | .cons _ _ _, .nil, _, _, h => by cases h
  | .cons x e r, .cons x' e' r', wt, wu, h => by
    obtain ⟨a, b⟩ := List.cons.inj (show W.tup [.str x, tW e] :: pW r = W.tup [.str x', tW e'] :: pW r' from h)
    simp only [W.tup.injEq, List.cons.injEq, W.str.injEq, and_true] at a
    rw [a.1, tW_inj e e' wt.2.2.1 wu.2.2.1 a.2, pW_inj r r' wt.2.2.2 wu.2.2.2 b]
theorem bW_inj : ∀ (t u : Bs), WFb t → WFb u → bW t = bW u → t = u
  | .nil, .nil, _, _, _ => rfl
  | .nil, .cons _ _ _ _, _, _, h => by cases h
  | .cons _ _ _ _, .nil, _, _, h => by cases h
  | .cons x ys e r, .cons x' ys' e' r', wt, wu, h => by
    obtain ⟨a, b⟩ := List.cons.inj (show W.tup [.str x, .tup (ys.map W.str), tW e] :: bW r = W.tup [.str x', .tup (ys'.map W.str), tW e'] :: bW r' from h)
    simp only [W.tup.injEq, List.cons.injEq, W.str.injEq, and_true] at a
    rw [a.1, strs_inj a.2.1, tW_inj e e' wt.2.2.1 wu.2.2.1 a.2.2, bW_inj r r' wt.2.2.2 wu.2.2.2 b]
end
end EvT

set_option Elab.async false
set_option linter.all false
set_option maxRecDepth 100000
set_option maxHeartbeats 4000000
/-! More rules: tuples again and again, the greatest of a list. -/
namespace Ev
open PySem PySem.Spec PyProof.Rows L2 Ow
theorem tuple_mulZ (l : Addr) (items : Array Value) (n : Nat) (dd : Option Addr) (sl : Array (Option Value)) (x : Int) (u : Tok) (c0 : (decide (x < -(2 ^ 63)) || decide (x ≥ 2 ^ 63)) = false) (c1 : (items.isEmpty || x == 1) = false) (c2 : (decide (x ≤ 0) || items.isEmpty) = true) :
    Meets (Builtin.«tuple.__mul__» ⟨[.ref l, .int x u], []⟩) (fun _ R s => s.heap.get? l = some { cls := .type "tuple", dict := dd, data := .seq items n, slots := sl } ∧
      R (.ok (.ret (Value.ref s.heap.objs.size))) { s with heap := s.heap.push { cls := Value.type "tuple", data := Data.seq #[] }, toks := s.toks }) :=
  .of_wp fun prog w A R s h => by
    obtain ⟨hp, g, d, tk, os⟩ := s
    obtain ⟨hl, h⟩ := h
    have f1 := AutoSeq1.idx_int
    wp_walk using wpAny_loadPart' hl
    repeat (first
      | (refine wpAny_ite_false (decide_eq_false (by rw [c0]; exact Bool.false_ne_true)) ?_; wp_walk using wpAny_loadPart' hl)
      | (refine wpAny_ite_false (decide_eq_false (by rw [c1]; exact Bool.false_ne_true)) ?_; wp_walk using wpAny_loadPart' hl)
      | (refine wpAny_ite_true (decide_eq_true c2) ?_; wp_walk using wpAny_loadPart' hl))
    exact ⟨_, rfl, h⟩
theorem tuple_mul1 (l : Addr) (items : Array Value) (n : Nat) (dd : Option Addr) (sl : Array (Option Value)) (x : Int) (u : Tok) (c0 : (decide (x < -(2 ^ 63)) || decide (x ≥ 2 ^ 63)) = false) (c1 : (items.isEmpty || x == 1) = true) :
    Meets (Builtin.«tuple.__mul__» ⟨[.ref l, .int x u], []⟩) (fun _ R s => s.heap.get? l = some { cls := .type "tuple", dict := dd, data := .seq items n, slots := sl } ∧
      R (.ok (.ret (Value.ref l))) s) :=
  .of_wp fun prog w A R s h => by
    obtain ⟨hp, g, d, tk, os⟩ := s
    obtain ⟨hl, h⟩ := h
    have f1 := AutoSeq1.idx_int
    wp_walk using wpAny_loadPart' hl
    repeat (first
      | (refine wpAny_ite_false (decide_eq_false (by rw [c0]; exact Bool.false_ne_true)) ?_; wp_walk using wpAny_loadPart' hl)
      | (refine wpAny_ite_true (decide_eq_true c1) ?_; wp_walk using wpAny_loadPart' hl))
    exact ⟨_, rfl, h⟩
def rRepZ (K : PySem.W.Frag) : R2 := fun x y H Q => ∃ l k xs, x = .ref l ∧ y = .int k ∧ SqT K H l xs ∧ xs ≠ [] ∧ -1000 ≤ k ∧ k ≤ 1 ∧ (k = 1 → Q (.ref l) H) ∧ (k ≤ 0 → ∀ p, H p = none → Q (.ref p) (upd H p (.tup [])))
section
variable {X : Cx} {Tb : List Addr} {e a b f : Expr} {es : List Expr} {m ma mb : ME} {mr : MA} {p pos : Pos}
theorem op_repZ : OpR X (binaryOp .Mult) (rRepZ X.K) := by
  intro pins s σ H x y v u Q I rx ry h
  obtain ⟨l, k, xs, rfl, rfl, hT, hne, h1, h2, q1, q0⟩ := h
  cases rx
  obtain ⟨t, rfl⟩ := ry
  obtain ⟨its, r, ⟨⟨cls, dd, data, sl⟩, ho, hc, n, hd⟩, hs⟩ := I.tuple hT
  simp only at hc hd
  subst hc hd
  have hle : its.length = xs.length := r.length.symm
  have hn : its ≠ [] := fun e => hne (by
    rw [e] at hle
    exact List.eq_nil_of_length_eq_zero hle.symm)
  have hi : its.toArray.isEmpty = false := by
    cases its with
    | nil => exact absurd rfl hn
    | cons a b => rfl
  have c0 : (decide (k < -(2 ^ 63)) || decide (k ≥ 2 ^ 63)) = false := by
    rw [decide_eq_false (by omega), decide_eq_false (by omega)] <;> rfl
  by_cases hk : k = 1
  · have c1 : (its.toArray.isEmpty || k == 1) = true := by
      rw [hi, Bool.false_or]
      exact beq_iff_eq.mpr hk
    refine wpAny_binaryOp_repeat_ref (T := "tuple") (U := "int") (by decide) ⟨_, ho, rfl⟩ (fun s' => typeIs_int s' k t) noFill_tuple_mul F.fills_int_mul F.slot_int_rmul repeat_tuple F.slot_int_index.lookup
      (call_meets F.slot_int_rmul (typeIs_int s k t) F.entry_int_rmul (F.args_int_rmul_2 _ _) (int_rmul_tuple k t l its.toArray n dd sl)
        ⟨ho, rfl, ⟨_, ho, rfl⟩, call_meets F.slot_tuple_mul ⟨_, ho, rfl⟩ F.entry_tuple_mul (F.args_tuple_mul_2 _ _) (tuple_mul1 l its.toArray n dd sl k t c0 c1) ⟨ho, ?_⟩⟩)
    exact ⟨.ref l, H, I, rfl, q1 hk⟩
  · have c1 : (its.toArray.isEmpty || k == 1) = false := by
      rw [hi, Bool.false_or]
      exact beq_eq_false_iff_ne.mpr hk
    have c2 : (decide (k ≤ 0) || its.toArray.isEmpty) = true := by
      rw [decide_eq_true (by omega)]
      rfl
    refine wpAny_binaryOp_repeat_ref (T := "tuple") (U := "int") (by decide) ⟨_, ho, rfl⟩ (fun s' => typeIs_int s' k t) noFill_tuple_mul F.fills_int_mul F.slot_int_rmul repeat_tuple F.slot_int_index.lookup
      (call_meets F.slot_int_rmul (typeIs_int s k t) F.entry_int_rmul (F.args_int_rmul_2 _ _) (int_rmul_tuple k t l its.toArray n dd sl)
        ⟨ho, rfl, ⟨_, ho, rfl⟩, call_meets F.slot_tuple_mul ⟨_, ho, rfl⟩ F.entry_tuple_mul (F.args_tuple_mul_2 _ _) (tuple_mulZ l its.toArray n dd sl k t c0 c1 c2) ⟨ho, ?_⟩⟩)
    refine ⟨.ref s.heap.objs.size, _, I.laid (t' := s.toks) (o := .tup []) (fun b ob q => Heap.get?_push_of_some _ q) (Nat.le_refl _) ?_, rfl, q0 (by omega) _ (I.hok.fresh (Nat.le_refl _))⟩
    exact ⟨Nat.zero_le _, [], .nil, IsTup.new _ _⟩
/-- (..) * k -/
def wRepT : R2W := fun x y S Q => match x, y with
  | .tup l, .int k => (l ≠ [] ∧ l.length ≤ 1000 ∧ -1000 ≤ k ∧ k ≤ 1000) ∧ Q (.tup (List.replicate k.toNat l).flatten) S
  | _, _ => False
theorem mo_repT : MonoO wRepT := fun x y S Q Q' k h => by
  unfold wRepT at h ⊢
  split at h
  · exact ⟨h.1, k _ _ h.2⟩
  · exact h.elim
theorem vrs_rep {K : PySem.W.Frag} {ι : List Addr} {H : Hp} {l : List W} {vs : List V} (r : VRs K ι H l vs) : ∀ n : Nat, VRs K ι H (List.replicate n l).flatten (List.replicate n vs).flatten
  | 0 => rfl
  | n + 1 => by
    rw [List.replicate_succ, List.replicate_succ, List.flatten_cons, List.flatten_cons]
    exact r.app (vrs_rep r n)
theorem rl_repT {K : PySem.W.Frag} : RL K Tb (fun x y H Q => rRepT K x y H Q ∨ rRepZ K x y H Q) wRepT := fun ι S H w1 w2 v1 v2 Q Qv s r1 r2 h k => by
  unfold wRepT at h
  split at h
  · rename_i l i
    obtain ⟨⟨h1, h2, h3, h4⟩, q⟩ := h
    obtain ⟨a, vs, rfl, ha, ra⟩ := r1
    obtain rfl : v2 = _ := r2
    have hv : vs ≠ [] := fun e => h1 (List.eq_nil_of_length_eq_zero (by rw [← ra.len, e]; rfl))
    by_cases g : 2 ≤ i
    · refine .inl ⟨a, i, vs, rfl, rfl, ha, hv, g, h4, by rw [ra.len]; exact h2, fun p np => ?_⟩
      obtain ⟨s', g'⟩ := s.tup (xs := (List.replicate i.toNat vs).flatten) np
      exact k ι S _ _ _ q s' g' ⟨p, _, rfl, .inl (.inl upd_same), vrs_rep (VRs.grow g' _ ra) _⟩
    · refine .inr ⟨a, i, vs, rfl, rfl, ha, hv, h3, by omega, fun e => ?_, fun e p np => ?_⟩
      · subst e
        refine k ι S H _ _ q s Grow.refl ⟨a, vs, rfl, ha, ?_⟩
        have e9 : (List.replicate (1 : Int).toNat l).flatten = l := by
          show (List.replicate 1 l).flatten = l
          simp
        rw [e9]
        exact ra
      · obtain ⟨s', g'⟩ := s.tup (xs := []) np
        refine k ι S _ _ _ q s' g' ⟨p, [], rfl, .inl (.inl upd_same), ?_⟩
        have e0 : i.toNat = 0 := by omega
        rw [e0]
        rfl
  · exact h.elim
theorem e_repT (ha : EE X Tb a ma) (hb : EE X Tb b mb) : EE X Tb (.BinOp a .Mult b pos) (mBin wRepT ma mb) := e_op (OpR.or op_repT op_repZ) rl_repT mo_repT ha hb
/-! ### max of a list -/
def wMaxL : RCW := fun ws S Q => match ws with
  | [.ref n] => oL S[n]? fun l => ∃ ns : List Int, l = ns.map W.int ∧ 0 < ns.length ∧ ∀ i, i ∈ ns → (∀ y, y ∈ ns → y ≤ i) → Q (.int i) S
  | _ => False
theorem mo_maxL : MonoC wMaxL := fun x S Q Q' k h => by
  match x, h with
  | [.ref n], h => exact oL_mono (fun l ⟨ns, a, b, c⟩ => ⟨ns, a, b, fun i h1 h2 => k _ _ (c i h1 h2)⟩) h
theorem vrs_int {K : PySem.W.Frag} {ι : List Addr} {H : Hp} : ∀ {ns : List Int} {vs : List V}, VRs K ι H (ns.map W.int) vs → vs = ns.map V.int
  | [], _, h => h
  | n :: ns, _, ⟨v, r, e, h, t⟩ => by
    have h : v = .int n := h
    rw [e, h, vrs_int t]
    rfl
theorem cl_maxL {K : PySem.W.Frag} : CL K Tb (rMax K) wMaxL := fun ι S H ws vs Q Qv s r h k => by
  match ws, h with
  | [.ref n], h =>
    obtain ⟨v, rfl, a, ha, rfl⟩ := one_of r
    have h : oL S[n]? _ := h
    obtain ⟨l, e, ns, rfl, h2, h3⟩ := oL_some h
    obtain ⟨us, e1, rv⟩ := lst_at s ha e
    rw [vrs_int rv] at e1
    exact ⟨a, ns, rfl, SqL.of e1, h2, fun i h4 h5 => k ι S H _ _ (h3 i h4 h5) s Grow.refl rfl⟩
theorem e_maxL (hg : Gl X "max") (hm : X.mg "max" = none) (ha : EA X Tb [e] mr) (hc : X.calm = true := by rfl) (he : starEach [e] X.env = (false, eval e X.env) :: starEach [] X.env := by rfl) (hpl : (backTo pos (starEach [] X.env)).any (·.1) = false := by rfl) : EE X Tb (.Call (.Name "max" p) [e] [] pos) (mCB wMaxL mr) :=
  e_callB (cr_max hc) cl_maxL mo_maxL hg hm (by decide +kernel) ha (by decide) (by decide) he hpl
end
end Ev

set_option Elab.async false
set_option linter.all false
set_option maxRecDepth 100000
set_option maxHeartbeats 1000000
/-! Expressions that only tell a value; statement by statement. -/
namespace Ev
open PySem PySem.Spec PyProof.Rows L2 Ow EvT
theorem sz0 {α : Type} : ([] : List α).length ≤ sizeLine := Nat.zero_le _
theorem sz1 {α : Type} {a : α} : [a].length ≤ sizeLine := by show 1 ≤ sizeLine; decide
theorem sz2 {α : Type} {a b : α} : [a, b].length ≤ sizeLine := by show 2 ≤ sizeLine; decide
theorem sz3 {α : Type} {a b c : α} : [a, b, c].length ≤ sizeLine := by show 3 ≤ sizeLine; decide
theorem sz4 {α : Type} {a b c d : α} : [a, b, c, d].length ≤ sizeLine := by show 4 ≤ sizeLine; decide
theorem sz5 {α : Type} {a b c d e : α} : [a, b, c, d, e].length ≤ sizeLine := by show 5 ≤ sizeLine; decide
/-- in env m tells w, whatever the store is, and changes nothing -/
def PV (m : ME) (env : EvS) (w : W) : Prop := ∀ (S : Store) (Q : WK), Q w S → m env S Q
def PL (m : MA) (env : EvS) (ws : List W) : Prop := ∀ (S : Store) (Q : List W → Store → Prop), Q ws S → m env S Q
section
variable {env : EvS} {m a b : ME} {mr : MA} {w x y : W} {ws l : List W} {S : Store} {Q : WK}
theorem PV.c : PV (mC w) env w := fun _ _ q => q
theorem PV.var {i : Nat} (h : lk env i = some w) : PV (mVar i) env w := fun S Q q => by
  unfold mVar
  rw [h]
  exact q
theorem PL.nil : PL mNil env [] := fun _ _ q => q
theorem PL.cons (h : PV m env w) (t : PL mr env ws) : PL (mCons m mr) env (w :: ws) := fun S Q q => h S _ (t S _ q)
theorem PV.tup (h : PL mr env ws) (hl : ws.length ≤ 100) : PV (mTup mr) env (.tup ws) := fun S Q q => h S _ ⟨Nat.le_trans hl (by decide), q⟩
theorem PV.ix {i : Int} (h : PV a env (.tup l)) (hi : PV b env (.int i)) (e : wAt l i = some w) : PV (mBin wIx a b) env w := fun S Q q => h S _ (hi S _ (by
  show oW (wAt l i) _
  rw [e]
  exact q))
theorem PV.add {i j : Int} (h : PV a env (.int i)) (hj : PV b env (.int j)) : PV (mBin wAdd a b) env (.int (i + j)) := fun S Q q => h S _ (hj S _ q)
theorem PV.sub {i j : Int} (h : PV a env (.int i)) (hj : PV b env (.int j)) : PV (mBin wSub a b) env (.int (i - j)) := fun S Q q => h S _ (hj S _ ⟨trivial, q⟩)
theorem PV.le {i j : Int} (h : PV a env (.int i)) (hj : PV b env (.int j)) : PV (mBin wLe a b) env (.bl (decide (i ≤ j))) := fun S Q q => h S _ (hj S _ q)
theorem PV.lt {i j : Int} (h : PV a env (.int i)) (hj : PV b env (.int j)) : PV (mBin wLt a b) env (.bl (decide (i < j))) := fun S Q q => h S _ (hj S _ q)
theorem PV.cat {k l : List W} (h : PV a env (.tup k)) (hj : PV b env (.tup l)) (hl : k.length + l.length ≤ sizeLine) : PV (mBin wAdd a b) env (.tup (k ++ l)) := fun S Q q => h S _ (hj S _ ⟨hl, q⟩)
/-- a new list -/
theorem lst_pa (h : PL mr env ws) (hl : ws.length ≤ 100) (q : Q (.ref S.length) (S ++ [.lst ws])) : mLst mr env S Q := h S _ ⟨Nat.le_trans hl (by decide), q⟩
/-- xs = xs + [..] -/
theorem grow_pa {i n : Nat} (h : PL mr env ws) (hl : l.length + ws.length ≤ 100) (hi : lk env i = some (.ref n)) (hn : S[n]? = some (.lst l)) (q : ∀ S' k, Ex S S' → S.length ≤ k → S'[k]? = some (.lst (l ++ ws)) → Q (.ref k) S') : mBin wAdd (mVar i) (mLst mr) env S Q := by
  unfold mBin mVar
  rw [hi]
  refine lst_pa h (by omega) ?_
  refine add_lst (Ex.one.at hn) (new_at S _) (Nat.le_trans hl (by decide)) ?_
  exact q _ _ (Ex.one.trans Ex.one) (by rw [List.length_append]; omega) (new_at _ _)
theorem seq_ok {p q : MS} {D : MD} {e : EvS} (h : p { D with nx := fun e S' => q D e S' } e S) : mSeq p q D e S := h
theorem asg_ok {i : Nat} {D : MD} {e : EvS} (h : m e S fun w S' => D.nx (e.set i (some w)) S') : mAsg m (mgName i) D e S := h
theorem sa {i : Nat} {q : MS} {D : MD} {e : EvS} (h : m e S fun w S' => q D (e.set i (some w)) S') : mSeq (mAsg m (mgName i)) q D e S := h
theorem si {c : MT} {p q r : MS} {D : MD} {e : EvS} (h : c e S fun b S1 => if b = true then p { D with nx := fun e S' => r D e S' } e S1 else q { D with nx := fun e S' => r D e S' } e S1) : mSeq (mIfS c p q) r D e S := h
/-- if c: p; r -/
theorem si0 {c : MT} {p r : MS} {D : MD} {e : EvS} (h : c e S fun b S1 => if b = true then p { D with nx := fun e S' => r D e S' } e S1 else r D e S1) : mSeq (mIfS c p mNext) r D e S := h
theorem ret_ok {D : MD} {e : EvS} (h : m e S D.rt) : mRet m D e S := h
end
end Ev

set_option Elab.async false
set_option linter.all false
set_option maxRecDepth 100000
set_option maxHeartbeats 4000000
/-! repr of data, in a law's own run. -/
namespace Ev
open PySem PySem.Spec PyProof.Rows L2 Ow
theorem call_reprD {X : Cx} (hg : X.A.guards = some []) : CallR X (.builtin "repr") (fun xs H Q => ∃ v d, xs = [v] ∧ Dp X.K H v d ∧ d.showable = true ∧ d.hasDict = false ∧ X.A.units + (d.depth + 1) < cLine ∧ d.shown.length ≤ sizeLine ∧ Q (.str d.shown) H) := by
  intro pins s σ H xs us Q I r h
  obtain ⟨v, d, rfl, hd, hs, hn, hu, hz, q⟩ := h
  have ref : ∀ a, v = .ref a → wpAny (model X.prog X.w) X.A (call (.builtin "repr") us) (EP X pins σ Q) X.xe s := fun a e => by
    subst e
    exact Ow.call_repr hg pins s σ H _ us Q I r ⟨a, d, rfl, hd, hs, hn, hu, hz, q⟩
  obtain ⟨u, rfl, rx⟩ := vals1 r
  cases hd with
  | non =>
    cases rx
    exact PySem.P.repr_of_none ⟨.str _, H, I.tok _, ⟨_, rfl⟩, by simpa [PyData.shown] using q⟩
  | bl b =>
    cases rx
    exact PySem.P.repr_of_bool ⟨.str _, H, I.tok _, ⟨_, rfl⟩, by simpa [PyData.shown] using q⟩
  | int i =>
    obtain ⟨t, rfl⟩ := rx
    have hs' : i.natAbs.log2 < 1920 := by simpa [PyData.showable] using hs
    exact PySem.P.repr_of_int hs' ⟨.str _, H, I.tok _, ⟨_, rfl⟩, by simpa [PyData.shown] using q⟩
  | str x =>
    obtain ⟨t, rfl⟩ := rx
    have hz' : (reprText x).length ≤ sizeLine := by simpa [PyData.shown] using hz
    exact PySem.P.repr_of_str ⟨.str _, H, I.tok _, ⟨_, rfl⟩, by simpa [PyData.shown] using q⟩ hz'
  | _ => exact ref _ rfl
/-- repr(x): the store is as it was -/
def wRepr : RCW := fun ws S Q => match ws with
  | [w] => ∃ d, DW S w d ∧ d.showable = true ∧ d.hasDict = false ∧ d.depth ≤ 3000 ∧ d.shown.length ≤ sizeLine ∧ Q (.str d.shown) S
  | _ => False
theorem mo_repr : MonoC wRepr := fun x S Q Q' k h => by
  match x, h with
  | [w], ⟨d, a, b, c, e, f, g⟩ => exact ⟨d, a, b, c, e, f, k _ _ g⟩
structure ReprOk (A : Around) : Prop where
  g : A.guards = some []
  u : A.units + 3100 < cLine
theorem cl_repr {Tb : List Addr} {K : PySem.W.Frag} {u : Nat} (hu : u + 3100 < cLine) : CL K Tb (fun xs H Q => ∃ v d, xs = [v] ∧ Dp K H v d ∧ d.showable = true ∧ d.hasDict = false ∧ u + (d.depth + 1) < cLine ∧ d.shown.length ≤ sizeLine ∧ Q (.str d.shown) H) wRepr := fun ι S H ws vs Q Qv s r h k => by
  match ws, h with
  | [w], ⟨d, a, b, c, e, f, g⟩ =>
    obtain ⟨v, rfl, rv⟩ := one_of r
    exact ⟨v, d, rfl, DW.dp s a rv, b, c, by omega, f, k ι S H _ _ g s Grow.refl rfl⟩
section
variable {X : Cx} {Tb : List Addr} {e : Expr} {mr : MA} {p pos : Pos}
theorem e_repr (h : ReprOk X.A) (hg : Gl X "repr") (hm : X.mg "repr" = none) (ha : EA X Tb [e] mr) (he : starEach [e] X.env = (false, eval e X.env) :: starEach [] X.env := by rfl) (hpl : (backTo pos (starEach [] X.env)).any (·.1) = false := by rfl) : EE X Tb (.Call (.Name "repr" p) [e] [] pos) (mCB wRepr mr) :=
  e_callB (call_reprD h.g) (cl_repr h.u) mo_repr hg hm (by decide +kernel) ha (by decide) (by decide) he hpl
end
/-! ### a law that uses repr -/
section
variable {P : Program} {w : World} {K : PySem.W.Frag} {mg : Str → Option Value} {base : Heap} {Tb : List Addr} {x : Str} {st : Stmt} {f : Addr} {fd : FuncData} {N ps : List Str} {k : Nat} {C : Con} {m : MS}
theorem fun_of (F : FnP K x st f fd) : Fun K x x st f fd := by
  obtain ⟨oc, od, dV, kV, doc, pm, an, cdv, ct, osl, rfl, lk, hcd, hD, hK⟩ := F.ex
  rcases hD with ⟨_, rfl⟩ | ⟨e, _⟩
  · exact ⟨⟨oc, od, kV, doc, pm, an, cdv, ct, osl, rfl, lk, hcd⟩, F.kp⟩
  · exact absurd rfl e
theorem rz_of {A : Around} (F : FnP K x st f fd) (Sc : FnScope N ps (defScope st)) (len : ∀ a ws S, C.pre a ws S → ws.length = ps.length) (hr : Room (k + 1) A)
    (hm : ∀ (cdv : Value) (outer : List Env) (s : Shared) (H : Hp) (E : XK), Room k (A.deeper (envOfC x (defScope st) s.heap.objs.size f cdv)) → ESs (cxOf CX0 P w K mg base N x (defScope st) f cdv A outer s H E).nox Tb (defBody st) m)
    (vc : ∀ a ws S, C.pre a ws S → m { nx := fun _ S' => C.post a S .non S', rt := fun w S' => C.post a S w S' } (stE N.length ws) S) : RunAt P w K mg base A f fd ps (spOf K Tb C) := by
  refine run_at (fun_of F) Sc (fun vs H Q E h => ?_) hr fun cdv outer s H vs Q E hr h => ?_
  · obtain ⟨ι, ws, S, a, s, r, hp, _⟩ := h
    rw [r.len, len a ws S hp]
  · obtain ⟨ι, ws, S, a, si, r, hp, q⟩ := h
    have hm' := hm cdv outer s H E hr
    exact ⟨_, hm'.ps, sp_body (X := (cxOf CX0 P w K mg base N x (defScope st) f cdv A outer s H E).nox) hm' rfl si r hp q vc⟩
end
/-! the law's walk, where what stands around is known -/
open LamX in
theorem walk_ya {l : PySem.W.OpenLaw} {q : Program} {loose : List Str} {XP : (Str → Option Value) → Heap → Prop} {YP : World → Heap → Prop} {d : DefRec} {hd : Hd} {KF : Params → PySem.W.Frag} (hY : ∀ (w : World) (h : Heap), YP w h → (KF w.params).In h) (hS : ∀ w : World, hd.says w (KF w.params)) (tabs : List Str) (hT : ∀ x ∈ tabs, ∃ d', (recsOf q).find? (fun e => e.name == x) = some d')
    (hn : l.most = some 63) (hdf : d.params.defaults = []) (hx : ∀ K, hd.ex K = true → ∀ x ∈ tabs, tabOk K x = true)
    (F : ∀ (w : World) (mg : Str → Option Value) (fa : Addr) (h : Heap) (K : PySem.W.Frag), K.In h → hd.says w K → h.Ns mainGlobals mg → mg d.name = some (.ref fa) →
      ∃ fd : FuncData, (∀ (s : Shared) (u : Value), BindsTo s fd ⟨[u], []⟩ [("script", u)]) ∧ ∀ base : Heap, K.In base → base.Ns mainGlobals mg → (∀ x ∈ tabs, GxR.TabB base mg (tabAt K x).1 (tabAt K x).2) →
        RunAt l.prog w K mg base callerA fa fd ["script"] (spOf K (tabs.map fun x => (tabAt K x).2) LawC)) :
    PySem.W.WalkO q loose XP YP l.row.toRowW d [] (fun f vs => PySem.call f vs) := by
  refine Att.attach_callB hn hdf fun w s₀ s₁ mg mb fa o pm cd doc a vs ns G Y ho hd' hcd hmg hobj hints hlen hbits hg => ?_
  have KX := hY w _ Y
  have c := hS w
  generalize KF w.params = K at KX c
  have hx := hx K c.x
  obtain ⟨fd, hb, hF⟩ := F w mg fa _ K KX c G.T.g hmg
  have tab : ∀ x ∈ tabs, PySem.W.CodeHd s₁.heap (tabAt K x).1 (tabAt K x).2 ∧ s₁.heap.get? (tabAt K x).2 = some { cls := .none, data := .fields #[] } := fun x h => by
    obtain ⟨d', e⟩ := hT x h
    exact PySem.W.tab_of G.T KX e (tabOk_in (hx x h)).1
  refine law_at (cs := tabs.map fun x => tabAt K x) (sp := spOf K (tabs.map fun x => (tabAt K x).2) LawC) KX G.T.g G.T.b G.T.builtins G.T.nolimit hg (fun p hp => ?_) (fun p hp => ?_) (fun p hp => ?_) G.T.bmain hobj hints (Nat.le_trans hlen (by decide)) (fun base kb nb tb => ?_) hb (fun H hH hS => ?_)
  · obtain ⟨x, hx', rfl⟩ := List.mem_map.mp hp
    exact (tab x hx').2
  · obtain ⟨x, hx', rfl⟩ := List.mem_map.mp hp
    exact (tabOk_in (hx x hx')).2
  · obtain ⟨x, hx', rfl⟩ := List.mem_map.mp hp
    exact (tab x hx').1
  · exact hF base kb nb fun x h => tabB (tb _ (List.mem_map.mpr ⟨x, h, rfl⟩))
  · exact start_law hH hS hlen hbits
end Ev

set_option Elab.async false
set_option linter.all false
set_option maxRecDepth 100000
set_option maxHeartbeats 4000000
/-! More rules: str, join, reversed ranges, defs as values, what is never reached, deep equality, all of a list. -/
namespace Ev
open PySem PySem.Spec PyProof.Rows L2 Ow
section
variable {X : Cx} {Tb : List Addr} {e o a b tg : Expr} {es : List Expr} {m mo ma mb : ME} {mr : MA} {p pos : Pos}
/-! ### str(x) -/
def wStrC : RCW := fun ws S Q => match ws with
  | [.int i] => i.natAbs.log2 < 1920 ∧ Q (.str (toString i)) S
  | [.str z] => Q (.str z) S
  | _ => False
theorem mo_strC : MonoC wStrC := fun x S Q Q' k h => by
  unfold wStrC at h ⊢
  split at h
  · exact ⟨h.1, k _ _ h.2⟩
  · exact k _ _ h
  · exact h.elim
theorem cl_strC {K : PySem.W.Frag} : CL K Tb (fun xs H Q => (∃ i, xs = [V.int i] ∧ i.natAbs.log2 < 1920 ∧ Q (.str (toString i)) H) ∨ ∃ z, xs = [V.str z] ∧ Q (.str z) H) wStrC := fun ι S H ws vs Q Qv s r h k => by
  unfold wStrC at h
  split at h
  · obtain ⟨v, rfl, rv⟩ := one_of r
    obtain rfl : v = .int _ := rv
    exact .inl ⟨_, rfl, h.1, k ι S H _ _ h.2 s Grow.refl rfl⟩
  · obtain ⟨v, rfl, rv⟩ := one_of r
    obtain rfl : v = .str _ := rv
    exact .inr ⟨_, rfl, k ι S H _ _ h s Grow.refl rfl⟩
  · exact h.elim
theorem e_strC (hg : Gl X "str") (hm : X.mg "str" = none) (ha : EA X Tb [e] mr) (he : starEach [e] X.env = (false, eval e X.env) :: starEach [] X.env := by rfl) (hpl : (backTo pos (starEach [] X.env)).any (·.1) = false := by rfl) : EE X Tb (.Call (.Name "str" p) [e] [] pos) (mCB wStrC mr) :=
  e_callTy (callR_or call_str_int SkE.call_str_str) cl_strC mo_strC hg hm (by decide +kernel) ha (by decide) (by decide) he hpl
/-! ### all of a list -/
def wAllL : RCW := fun ws S Q => match ws with
  | [.ref n] => oL S[n]? fun l => ∃ bs : List Bool, l = bs.map W.bl ∧ Q (.bl (bs.all id)) S
  | _ => False
theorem mo_allL : MonoC wAllL := fun x S Q Q' k h => by
  match x, h with
  | [.ref n], h => exact oL_mono (fun l ⟨bs, a, b⟩ => ⟨bs, a, k _ _ b⟩) h
theorem vrs_bls {K : PySem.W.Frag} {ι : List Addr} {H : Hp} : ∀ {bs : List Bool} {vs : List V}, VRs K ι H (bs.map W.bl) vs → vs = bs.map V.bl
  | [], _, h => h
  | n :: ns, _, ⟨v, r, e, h, t⟩ => by
    have h : v = .bl n := h
    rw [e, h, vrs_bls t]
    rfl
theorem cl_allL {K : PySem.W.Frag} : CL K Tb (rAll K) wAllL := fun ι S H ws vs Q Qv s r h k => by
  match ws, h with
  | [.ref n], h =>
    obtain ⟨v, rfl, a, ha, rfl⟩ := one_of r
    have h : oL S[n]? _ := h
    obtain ⟨l, e, bs, rfl, h2⟩ := oL_some h
    obtain ⟨us, e1, rv⟩ := lst_at s ha e
    rw [vrs_bls rv] at e1
    exact ⟨a, bs, rfl, SqL.of e1, k ι S H _ _ h2 s Grow.refl rfl⟩
theorem e_allL (hg : Gl X "all") (hm : X.mg "all" = none) (ha : EA X Tb [e] mr) (hc : X.calm = true := by rfl) (he : starEach [e] X.env = (false, eval e X.env) :: starEach [] X.env := by rfl) (hpl : (backTo pos (starEach [] X.env)).any (·.1) = false := by rfl) : EE X Tb (.Call (.Name "all" p) [e] [] pos) (mCB wAllL mr) :=
  e_callB (cr_all hc) cl_allL mo_allL hg hm (by decide +kernel) ha (by decide) (by decide) he hpl
/-! ### sep.join(xs) -/
def joinW (a : Str) (w : W) (S : Store) (Q : WK) : Prop := ∃ ys : List Str, seqW w S = some (ys.map W.str) ∧ (ys.map (·.length)).sum + ys.length * a.length ≤ 16777216 ∧ Q (.str (Txt.join a ys)) S
def mJoin (mo m : ME) : ME := fun env S Q => mo env S fun x S1 => match x with
  | .str a => m env S1 fun w S2 => joinW a w S2 Q
  | _ => False
theorem e_join {apos : Pos} (ho : EE X Tb o mo) (he : EE X Tb e m) (hs : starEach [e] X.env = [(false, eval e X.env)] := by rfl) (hbase : attributeBase o "join" X.env (eval o X.env) = eval o X.env := by rfl) (hline : (apos.endLine == pos.line) = true := by rfl) :
    EE X Tb (.Call (.Attribute o "join" apos) [e] [] pos) (mJoin mo m) := by
  refine ⟨pe_imp (pe_join ho.pe he.pe hs hbase hline) fun σ H Q q => ?_, fun env S Q Q' k q => ho.mono _ _ _ _ (fun x S1 q1 => ?_) q⟩
  · obtain ⟨ι, env, S, s, er, q⟩ := q
    refine ⟨ι, env, S, s, er, ho.mono _ _ _ _ (fun x S1 q1 ι1 H1 v1 s1 g1 r1 => ?_) q⟩
    cases x with
    | str z =>
      obtain rfl : v1 = .str z := r1
      refine ⟨⟨z, rfl⟩, ι1, env, S1, s1, er.grow g1, he.mono _ _ _ _ (fun w S2 q2 ι2 H2 v2 s2 g2 r2 => ?_) q1⟩
      obtain ⟨ys, h1, h2, h3⟩ := q2
      obtain ⟨c, vs, rfl, rv, hq⟩ := seq_lies s2 r2 h1
      rw [VRs.strs rv] at hq
      exact ⟨z, c, ys, rfl, rfl, hq, h2, h3 ι2 H2 _ s2 (g1.trans g2) rfl⟩
    | _ => exact q1.elim
  · cases x with
    | str z => exact he.mono _ _ _ _ (fun w S2 ⟨ys, a, b, c⟩ => ⟨ys, a, b, k _ _ c⟩) q1
    | _ => exact q1.elim
/-! ### for i in reversed(range(n)) -/
def rrW (n : Nat) : List W := (List.range n).map fun (j : Nat) => W.int ((n : Int) - 1 - j)
def mRevR (m : ME) : MI := fun env S R => m env S fun w S1 => match w with
  | .int j => (-(2 ^ 62) ≤ j ∧ j < 2 ^ 62) ∧ R (fun _ => True) (rrW j.toNat) S1
  | _ => False
theorem feeds_rr {K : PySem.W.Frag} {n : Nat} {ι0 : List Addr} {H0 : Hp} {lo : Int} (e : lo = (n : Int) - 1) : Feeds K Tb (Itc lo (-1) n) (fun _ => True) (rrW n) ι0 H0 := by
  subst e
  intro ι H S i g s _
  constructor
  · intro w hw
    have hi : i < n := by
      have := (List.getElem?_eq_some_iff.mp hw).1
      simpa [rrW] using this
    refine ⟨hi, fun x H' hy => ?_⟩
    obtain ⟨rfl, rfl⟩ := hy
    obtain rfl : W.int ((n : Int) - 1 - i) = w := by
      simpa [rrW, hi] using hw
    exact ⟨ι, s, Grow.refl, by show V.int _ = V.int _; congr 1; omega⟩
  · intro h
    show n ≤ i
    simpa [rrW] using h
theorem i_revR {ea : Expr} {p1 p2 pos1 pos2 : Pos} {ma : ME} (hg : Gl X "reversed") (hm : X.mg "reversed" = none) (hg2 : Gl X "range") (hm2 : X.mg "range" = none) (ha : EE X Tb ea ma) (na : starEach [ea] X.env = (false, eval ea X.env) :: starEach [] X.env := by rfl) (hs : starEach [Expr.Call (.Name "range" p2) [ea] [] pos2] X.env = (false, eval (Expr.Call (.Name "range" p2) [ea] [] pos2) X.env) :: starEach [] X.env := by rfl) : EI X Tb tg (.Call (.Name "reversed" p1) [.Call (.Name "range" p2) [ea] [] pos2] [] pos1) (mRevR ma) := by
  refine ⟨⟨_, pi_revR hg hm (prg_1 hg2 hm2 ha.pe na) hs, fun σ H R ι env S s er q => ?_⟩, fun env S R R' k q => ha.mono _ _ _ _ (fun w S1 z => ?_) q⟩
  · refine ⟨ι, env, S, s, er, ha.mono _ _ _ _ (fun w S1 z ι1 H1 v s1 g1 r1 => ?_) q⟩
    match w, z with
    | .int j, z =>
      obtain rfl : v = .int j := r1
      refine ⟨j, rfl, by decide, by decide, z.1.1, z.1.2, z.2 ι1 H1 _ s1 g1 ?_⟩
      rw [show (j - 0).toNat = j.toNat by omega]
      exact feeds_rr (by omega)
  · match w, z with
    | .int j, z => exact ⟨z.1, k _ _ _ z.2⟩
/-! ### // by a great number -/
abbrev wFdivX : R2W := wInt (fun i j => i / j) CDivW
theorem e_fdivX (ha : EE X Tb a ma) (hb : EE X Tb b mb) : EE X Tb (.BinOp a .FloorDiv b pos) (mBin wFdivX ma mb) := e_op op_fdivW rl_int mo_int ha hb
/-! ### what is never reached -/
def mNever : MS := fun _ _ _ => False
theorem s_never {st : Stmt} : ES X Tb st mNever := ⟨⟨fun pins s σ H D I h => by
  obtain ⟨ι, env, S, _, _, q⟩ := h
  exact q.elim⟩, fun _ _ _ _ _ h => h⟩
/-! ### a def as a value -/
theorem e_gdef {x : Str} {f : Addr} (hg : Gl X x) (g : X.mg x = some (.ref f)) (hd : (x == ("__debug__" : Str)) = false := by decide) : EE X Tb (.Name x pos) (mC (.adr f)) := by
  refine ⟨pe_imp (pe_glob (v := .ref f) hg g rfl hd) fun σ H Q q => ?_, fun env S Q Q' k q => k _ _ q⟩
  obtain ⟨ι, env, S, s, er, q⟩ := q
  exact q ι H _ s Grow.refl rfl
/-! ### equality, far within -/
def dEqX (B : Nat) (x y : W) (S : Store) (k : Bool → Prop) : Prop := ∃ d e, DW S x d ∧ DW S y e ∧ d.canLay0 = true ∧ e.canLay0 = true ∧ min d.depth e.depth ≤ B ∧ k (PyData.eqv d e)
def wEqX (B : Nat) (neg : Bool) : R2W := fun x y S Q => dEqX B x y S fun b => Q (.bl (neg ^^ b)) S
theorem mo_eqX {B : Nat} {neg : Bool} : MonoO (wEqX B neg) := fun x y S Q Q' k ⟨d, e, a, b, c, f, g, h⟩ => ⟨d, e, a, b, c, f, g, k _ _ h⟩
def rEqX (K : PySem.W.Frag) (B : Nat) (neg : Bool) : R2 := fun x y H Q => ∃ d e, Dp K H x d ∧ Dp K H y e ∧ d.canLay0 = true ∧ e.canLay0 = true ∧ min d.depth e.depth ≤ B ∧ Q (.bl (neg ^^ PyData.eqv d e)) H
theorem op_eqX {B : Nat} (hu : X.A.units + B < cLine) : OpR X (compareOp .Eq) (rEqX X.K B false) := fun pins s σ H x y v u Q I rx ry ⟨d, e, hd, he, sd, se, hm, q⟩ => by
  obtain ⟨as, r1⟩ := Dp.reads I d x v hd rx
  obtain ⟨bs, r2⟩ := Dp.reads I e y u he ry
  exact SeqAt.compareEq_reads r1 r2 sd se (by omega) ⟨.bl _, H, I, rfl, by rwa [Bool.false_xor] at q⟩
theorem op_neX {B : Nat} (hu : X.A.units + B < cLine) : OpR X (compareOp .NotEq) (rEqX X.K B true) := fun pins s σ H x y v u Q I rx ry ⟨d, e, hd, he, sd, se, hm, q⟩ => by
  obtain ⟨as, r1⟩ := Dp.reads I d x v hd rx
  obtain ⟨bs, r2⟩ := Dp.reads I e y u he ry
  exact SeqAt.compareNe_reads r1 r2 sd se (by omega) ⟨.bl _, H, I, rfl, by rwa [Bool.true_xor] at q⟩
theorem rl_eqX {K : PySem.W.Frag} {B : Nat} {neg : Bool} : RL K Tb (rEqX K B neg) (wEqX B neg) := fun ι S H w1 w2 v1 v2 Q Qv s r1 r2 ⟨d, e, a, b, c, f, g, h⟩ k =>
  ⟨d, e, DW.dp s a r1, DW.dp s b r2, c, f, g, k ι S H _ _ h s Grow.refl rfl⟩
theorem ux {k : Nat} {A : Around} (hr : Room k A) (hk : 190 ≤ k) : A.units + 3000 < cLine := by
  have := hr.un
  omega
theorem e_eqX {B : Nat} (hu : X.A.units + B < cLine) (ha : EE X Tb a ma) (hb : EE X Tb b mb) : EE X Tb (.Compare a [.Eq] [b] pos) (mBin (wEqX B false) ma mb) := e_cmp (op_eqX hu) rl_eqX mo_eqX ha hb
theorem e_neX {B : Nat} (hu : X.A.units + B < cLine) (ha : EE X Tb a ma) (hb : EE X Tb b mb) : EE X Tb (.Compare a [.NotEq] [b] pos) (mBin (wEqX B true) ma mb) := e_cmp (op_neX hu) rl_eqX mo_eqX ha hb
theorem t_eqX {B : Nat} (hu : X.A.units + B < cLine) (ha : EE X Tb a ma) (hb : EE X Tb b mb) : ET X Tb (.Compare a [.Eq] [b] pos) (mTest (mBin (wEqX B false) ma mb)) := t_cmp (op_eqX hu) rl_eqX mo_eqX ha hb
theorem t_neX {B : Nat} (hu : X.A.units + B < cLine) (ha : EE X Tb a ma) (hb : EE X Tb b mb) : ET X Tb (.Compare a [.NotEq] [b] pos) (mTest (mBin (wEqX B true) ma mb)) := t_cmp (op_neX hu) rl_eqX mo_eqX ha hb
end
end Ev

set_option Elab.async false
set_option linter.all false
set_option maxRecDepth 100000
set_option maxHeartbeats 4000000
/-! sorted(texts), dict(pairs), dict(zip(texts, xs)). -/
namespace Ev
open PySem PySem.Spec PyProof.Rows L2 Ow
section
variable {X : Cx} {Tb : List Addr} {e o a b tg : Expr} {es : List Expr} {m mo ma mb : ME} {mr : MA} {p p2 pos pos2 : Pos} {ta tb : TE}
theorem boot_dictF : bootBuiltins (Str.ofString "dict") = some (Value.type "dict") := by decide +kernel
theorem boot_zipF : bootBuiltins (Str.ofString "zip") = some (Value.type "zip") := by decide +kernel
def zipK (ks : List Str) (vs : List V) : List (Key × V) := (ks.zip vs).map fun p => ((.inr p.1 : Key), p.2)
def zipV (ks : List Str) (vs : List Value) : List (Key × Value) := (ks.zip vs).map fun p => ((.inr p.1 : Key), p.2)
def tDictZip (K : PySem.W.Frag) (ta tb : TE) : TE := fun σ H Q => ta σ H fun x H1 => tb σ H1 fun y H2 => ∃ (l1 l2 : Addr) (ks : List Str) (vs : List V), x = .ref l1 ∧ y = .ref l2 ∧ SqL K H2 l1 (ks.map V.str) ∧ SqL K H2 l2 vs ∧
  ∀ p, H2 p = none → Q (.ref p) (upd H2 p (.dK (mergeK [] (zipK ks vs))))
theorem kv_zip : ∀ {ks : List Str} {vs : List V} {xs ys : List Value}, Vals (ks.map V.str) xs → Vals vs ys → KV (zipK ks vs) (zipV ks ys) ∧ (zipV ks ys).length = min xs.length ys.length ∧ ∀ (i : Nat) (key v : Value), xs[i]? = some key → ys[i]? = some v → ∃ k : Str, (zipV ks ys)[i]? = some ((.inr k : Key), v) ∧ Value.isStrOf k key = true
  | [], vs, _, ys, .nil, hv => ⟨.nil, by simp [zipV], fun i key v h => by simp at h⟩
  | k :: ks, [], _, _, .cons h t, .nil => ⟨.nil, by simp [zipV], fun i key v _ h => by simp at h⟩
  | k :: ks, v :: vs, _, _, .cons h t, .cons h2 t2 => by
    obtain ⟨a, b, c⟩ := kv_zip t t2
    refine ⟨.cons ⟨rfl, h2⟩ a, by simp only [List.length_cons]; show (zipV _ _).length + 1 = _; omega, fun i key v hi hv => ?_⟩
    cases i with
    | zero =>
      obtain ⟨tk, rfl⟩ := h
      cases hi
      cases hv
      exact ⟨k, rfl, by simp [Value.isStrOf]⟩
    | succ i => exact c i key v hi hv
theorem mergeK_len : ∀ (more kvs : List (Key × V)), (mergeK kvs more).length ≤ kvs.length + more.length
  | [], kvs => Nat.le_refl _
  | p :: r, kvs => by
    have h1 := mergeK_len r (putK kvs p.1 p.2)
    have h2 : (putK kvs p.1 p.2).length ≤ kvs.length + 1 := by
      unfold putK
      split
      · rw [List.length_map]
        omega
      · rw [List.length_append]
        exact Nat.le_refl _
    show (mergeK (putK kvs p.1 p.2) r).length ≤ kvs.length + (r.length + 1)
    omega
theorem pe_dictZip {k : Nat} (hr : Room k X.A) (hg : Gl X "dict") (hm : X.mg "dict" = none) (hg2 : Gl X "zip") (hm2 : X.mg "zip" = none) (ha : PE X a ta) (hb : PE X b tb)
    (hst : starEach [Expr.Call (.Name "zip" p2) [a, b] [] pos2] X.env = (false, eval (Expr.Call (.Name "zip" p2) [a, b] [] pos2) X.env) :: starEach [] X.env := by rfl)
    (hst2 : starEach [a, b] X.env = (false, eval a X.env) :: starEach [b] X.env := by rfl) (hst3 : starEach [b] X.env = (false, eval b X.env) :: starEach [] X.env := by rfl) (hpl : ((backTo pos2 (starEach [b] X.env)).any fun x => x.1) = false := by rfl) :
    PE X (.Call (.Name "dict" p) [.Call (.Name "zip" p2) [a, b] [] pos2] [] pos) (tDictZip X.K ta tb) := by
  refine ⟨fun pins s σ H Q I h => ?_⟩
  refine wpAny_Call_NameR (ld_blt I hg hm boot_dictF ?_)
  refine Pv.callWith_type1 ?_ hst (by rfl)
  rw [hst]
  show wpAny _ _ (spliced ((false, eval (Expr.Call (.Name "zip" p2) [a, b] [] pos2) X.env) :: backTo pos (starEach [] X.env))) _ _ s
  refine Calls.spliced_cons ?_
  refine wpAny_Call_NameR (ld_blt I hg2 hm2 boot_zipF ?_)
  refine Pv.callWith_type1 ?_ hst2 hpl
  rw [hst2]
  show wpAny _ _ (spliced ((false, eval a X.env) :: backTo pos2 (starEach [b] X.env))) _ _ s
  refine Calls.spliced_cons ?_
  refine thn (ha.run pins s σ H _ I h) fun u1 s1 h1 => ?_
  obtain ⟨x, H1, I1, r1, h1⟩ := h1
  rw [hst3]
  show wpAny _ _ (spliced ((false, eval b X.env) :: backTo pos2 (starEach [] X.env))) _ _ s1
  refine Calls.spliced_cons ?_
  refine thn (hb.run pins s1 σ H1 _ I1 h1) fun u2 s2 h2 => ?_
  obtain ⟨y, H2, I2, r2, l1, l2, ks, vs, rfl, rfl, q1, q2, q⟩ := h2
  obtain rfl : u1 = Value.ref l1 := r1
  obtain rfl : u2 = Value.ref l2 := r2
  refine Calls.spliced_nil ?_
  obtain ⟨xs, v1, p1, n1⟩ := I2.list q1
  obtain ⟨ys, v2, p2, n2⟩ := I2.list q2
  have i1 : s2.heap.IsList l1 xs.toArray := by
    obtain ⟨o, n, ho, hc, _, hd⟩ := p1
    exact ⟨o, ho, hc, n, hd⟩
  have i2 : s2.heap.IsList l2 ys.toArray := by
    obtain ⟨o, n, ho, hc, _, hd⟩ := p2
    exact ⟨o, ho, hc, n, hd⟩
  obtain ⟨o1, e1, c1⟩ := i1
  obtain ⟨o2, e2, c2⟩ := i2
  have b1 := Heap.lt_size e1
  have b2 := Heap.lt_size e2
  refine call_zip_2 (l1 := l1) (l2 := l2) (xs := xs.toArray) (ys := ys.toArray) ⟨o1, e1, c1⟩ ⟨o2, e2, c2⟩ fun h' z1 z2 z3 z4 z5 sz keep => ?_
  refine Calls.spliced_nil ?_
  obtain ⟨kv, kl, kr⟩ := kv_zip v1 v2
  have hz : sizeLine = 16777216 := rfl
  have l1' : xs.length = ks.length := by
    rw [← v1.length, List.length_map]
  have hap : ZipApart (s2.heap.objs.size + 4) (s2.heap.objs.size + 2) (s2.heap.objs.size + 3) s2.heap.objs.size (s2.heap.objs.size + 1) l1 l2 := by
    have ne : ∀ {i j : Nat}, i < j → i ≠ j ∧ j ≠ i := fun h => ⟨Nat.ne_of_lt h, Nat.ne_of_gt h⟩
    have b1 : @LT.lt Nat instLTNat l1 s2.heap.objs.size := b1
    have b2 : @LT.lt Nat instLTNat l2 s2.heap.objs.size := b2
    generalize s2.heap.objs.size = z at b1 b2
    constructor <;> first | exact (ne (show @LT.lt Nat instLTNat _ _ by omega)).1 | exact (ne (show @LT.lt Nat instLTNat _ _ by omega)).2
  refine call_dict_pairs (knd := mixKind X.prog X.w) (kvs := zipV ks ys) (PairArg.zip (s2.heap.objs.size + 4) (s2.heap.objs.size + 2) (s2.heap.objs.size + 3) s2.heap.objs.size (s2.heap.objs.size + 1) l1 l2 hap xs.toArray ys.toArray) hr.hd
    ⟨z1, z2, ⟨_, _, z3⟩, z4, z5, ⟨o1, keep _ _ e1, c1⟩, ⟨o2, keep _ _ e2, c2⟩⟩ ⟨?_, fun i key v hk => ?_⟩ ?_ fun h'' tk hD hk => ?_
  · rw [kl]
    simp
  · obtain ⟨k1, k2⟩ := hk
    obtain ⟨kk, g1, g2⟩ := kr i key v (by simpa using k1) (by simpa using k2)
    exact ⟨.inr kk, g1, g2⟩
  · have : min xs.toArray.size ys.toArray.size ≤ xs.toArray.size := Nat.min_le_left _ _
    rw [List.length_map] at n1
    have hs : xs.toArray.size = xs.length := List.size_toArray ..
    omega
  · have kp : ∀ c u, s2.heap.get? c = some u → h''.get? c = some u := fun c u e => hk c u (by
      have := Heap.lt_size e
      have h5 : @LT.lt Nat instLTNat c s2.heap.objs.size := this
      have nn : ∀ j, c ≠ s2.heap.objs.size + j := fun j => Nat.ne_of_lt (Nat.lt_of_lt_of_le h5 (Nat.le_add_right _ _))
      simp only [List.mem_cons, List.not_mem_nil, or_false]
      intro z
      rcases z with z | z | z | z
      · exact nn 4 z
      · exact nn 3 z
      · exact nn 0 z
      · exact nn 1 z) (keep c u e)
    have hml : (mergeK [] (zipK ks vs)).length ≤ 0 + (zipK ks vs).length := mergeK_len (zipK ks vs) []
    have hl2 : (zipK ks vs).length ≤ ks.length := by
      unfold zipK
      rw [List.length_map, List.length_zip]
      exact Nat.min_le_left _ _
    rw [List.length_map] at n1
    have hbig := I2.big
    have hge : s2.heap.objs.size ≤ h'.objs.size := by rw [sz]; exact Nat.le_add_right _ _
    have hns : (h'.objs.size == sysModules) = false := beq_eq_false_iff_ne.mpr (Nat.ne_of_gt (Nat.lt_of_lt_of_le hbig hge))
    refine ⟨.ref h'.objs.size, _, I2.laid (h' := h'') (a := h'.objs.size) (o := .dK (mergeK [] (zipK ks vs))) kp hge ?_, rfl, q _ (I2.hok.fresh hge)⟩
    have hfin : (mergeK [] (zipK ks vs)).length ≤ sizeLine := by omega
    exact ⟨hfin, hns, _, KV.merge kv .nil, hD⟩
/-! ### lifted -/
def mergeW (kvs more : List (Key × W)) : List (Key × W) := more.foldl (fun acc kv => putW acc kv.1 kv.2) kvs
theorem mergeW_map {K : PySem.W.Frag} {ι : List Addr} {H : Hp} : ∀ {more : List (Key × W)} {ms : List (Key × V)} {l : List (Key × W)} {kvs : List (Key × V)}, ms.map (·.1) = more.map (·.1) → VRs K ι H (more.map (·.2)) (ms.map (·.2)) → kvs.map (·.1) = l.map (·.1) → VRs K ι H (l.map (·.2)) (kvs.map (·.2)) →
    (mergeK kvs ms).map (·.1) = (mergeW l more).map (·.1) ∧ VRs K ι H ((mergeW l more).map (·.2)) ((mergeK kvs ms).map (·.2))
  | [], ms, l, kvs, h1, r1, h2, r2 => by
    cases ms with
    | nil => exact ⟨h2, r2⟩
    | cons a b => cases h1
  | p :: more, ms, l, kvs, h1, r1, h2, r2 => by
    cases ms with
    | nil => cases h1
    | cons q ms =>
      obtain ⟨v, rs, e, x1, x2⟩ := r1
      rw [List.map_cons] at e
      injection e with y1 y2
      subst y1
      subst y2
      rw [List.map_cons, List.map_cons] at h1
      injection h1 with g1 g2
      obtain ⟨i1, i2⟩ := putW_map h2 r2 p.1 x1
      have e9 : q.1 = p.1 := g1
      show (mergeK (putK kvs q.1 q.2) ms).map (·.1) = (mergeW (putW l p.1 p.2) more).map (·.1) ∧ _
      show _ ∧ VRs K ι H ((mergeW (putW l p.1 p.2) more).map (·.2)) ((mergeK (putK kvs q.1 q.2) ms).map (·.2))
      rw [e9]
      exact mergeW_map g2 x2 i1 i2
def zipW (ks : List Str) (ws : List W) : List (Key × W) := (ks.zip ws).map fun p => ((.inr p.1 : Key), p.2)
theorem zip_map {K : PySem.W.Frag} {ι : List Addr} {H : Hp} : ∀ {ks : List Str} {ws : List W} {vs : List V}, VRs K ι H ws vs → (zipK ks vs).map (·.1) = (zipW ks ws).map (·.1) ∧ VRs K ι H ((zipW ks ws).map (·.2)) ((zipK ks vs).map (·.2))
  | [], ws, vs, h => ⟨rfl, rfl⟩
  | k :: ks, [], vs, h => by
    obtain rfl : vs = [] := h
    exact ⟨rfl, rfl⟩
  | k :: ks, w :: ws, vs, ⟨v, rs, e, h, t⟩ => by
    subst e
    obtain ⟨a, b⟩ := zip_map (ks := ks) t
    refine ⟨?_, v, _, rfl, h, b⟩
    show Sum.inr k :: (zipK ks rs).map (·.1) = Sum.inr k :: (zipW ks ws).map (·.1)
    rw [a]
def mDictZip (ma mb : ME) : ME := fun env S Q => ma env S fun x S1 => mb env S1 fun y S2 => match x, y with
  | .ref i, .ref j => oL S2[i]? fun l1 => oL S2[j]? fun l2 => ∃ ks : List Str, l1 = ks.map W.str ∧ Q (.ref S2.length) (S2 ++ [.dK (mergeW [] (zipW ks l2))])
  | _, _ => False
theorem e_dictZip {k : Nat} (hr : Room k X.A) (hg : Gl X "dict") (hm : X.mg "dict" = none) (hg2 : Gl X "zip") (hm2 : X.mg "zip" = none) (ha : EE X Tb a ma) (hb : EE X Tb b mb)
    (hst : starEach [Expr.Call (.Name "zip" p2) [a, b] [] pos2] X.env = (false, eval (Expr.Call (.Name "zip" p2) [a, b] [] pos2) X.env) :: starEach [] X.env := by rfl)
    (hst2 : starEach [a, b] X.env = (false, eval a X.env) :: starEach [b] X.env := by rfl) (hst3 : starEach [b] X.env = (false, eval b X.env) :: starEach [] X.env := by rfl) (hpl : ((backTo pos2 (starEach [b] X.env)).any fun x => x.1) = false := by rfl) :
    EE X Tb (.Call (.Name "dict" p) [.Call (.Name "zip" p2) [a, b] [] pos2] [] pos) (mDictZip ma mb) := by
  refine ⟨pe_imp (pe_dictZip hr hg hm hg2 hm2 ha.pe hb.pe hst hst2 hst3 hpl) fun σ H Q q => ?_, fun env S Q Q' k q => ha.mono _ _ _ _ (fun x S1 q1 => hb.mono _ _ _ _ (fun y S2 q2 => ?_) q1) q⟩
  · obtain ⟨ι, env, S, s, er, q⟩ := q
    refine ⟨ι, env, S, s, er, ha.mono _ _ _ _ (fun x S1 q1 ι1 H1 v1 s1 g1 r1 => ⟨ι1, env, S1, s1, er.grow g1, hb.mono _ _ _ _ (fun y S2 q2 ι2 H2 v2 s2 g2 r2 => ?_) q1⟩) q⟩
    have rx := VR.grow g2 x r1
    match x, y, q2 with
    | .ref i, .ref j, q2 =>
      obtain ⟨l1, e1, q3⟩ := oL_some q2
      obtain ⟨l2, e2, ks, rfl, q4⟩ := oL_some q3
      obtain ⟨a1, ha1, rfl⟩ := rx
      obtain ⟨a2, ha2, rfl⟩ := r2
      obtain ⟨vs1, f1, w1⟩ := lst_at s2 ha1 e1
      obtain ⟨vs2, f2, w2⟩ := lst_at s2 ha2 e2
      rw [VRs.strs w1] at f1
      refine ⟨a1, a2, ks, vs2, rfl, rfl, SqL.of f1, SqL.of f2, fun p hp => ?_⟩
      obtain ⟨m1, m2⟩ := zip_map (ks := ks) w2
      obtain ⟨n1, n2⟩ := mergeW_map (l := []) (kvs := []) m1 m2 rfl rfl
      obtain ⟨s3, g3⟩ := s2.new (u := .dK (mergeK [] (zipK ks vs2))) (o := .dK (mergeW [] (zipW ks l2))) hp fun ι' H' g e => ⟨_, e, n1, n2.grow g⟩
      refine q4 _ _ (.ref p) s3 ((g1.trans g2).trans g3) ⟨p, ?_, rfl⟩
      rw [← s2.len, List.getElem?_append_right (Nat.le_refl _), Nat.sub_self]
      rfl
  · match x, y, q2 with
    | .ref i, .ref j, q2 => exact oL_mono (fun l1 z => oL_mono (fun l2 ⟨ks, a, b⟩ => ⟨ks, a, k _ _ b⟩) z) q2
/-- dict(pairs) -/
def pairsW (kws : List (Str × W)) : List W := kws.map fun p => .tup [.str p.1, p.2]
def keyed (kws : List (Str × W)) : List (Key × W) := kws.map fun p => ((.inr p.1 : Key), p.2)
def wDictP : RCW := fun ws S Q => match ws with
  | [.ref n] => oL S[n]? fun l => ∃ kws : List (Str × W), l = pairsW kws ∧ Q (.ref S.length) (S ++ [.dK (mergeW [] (keyed kws))])
  | _ => False
theorem mo_dictP : MonoC wDictP := fun x S Q Q' k h => by
  match x, h with
  | [.ref n], h => exact oL_mono (fun l ⟨kws, a, b⟩ => ⟨kws, a, k _ _ b⟩) h
theorem pairs_v {K : PySem.W.Frag} {ι : List Addr} {H : Hp} : ∀ {kws : List (Str × W)} {vs : List V}, VRs K ι H (pairsW kws) vs → ∃ (ps : List Addr) (kvs : List (Key × V)), vs = ps.map V.ref ∧ Paired (fun p kv => SqT K H p [kV kv.1, kv.2]) ps kvs ∧ kvs.map (·.1) = (keyed kws).map (·.1) ∧ VRs K ι H ((keyed kws).map (·.2)) (kvs.map (·.2))
  | [], vs, h => by
    obtain rfl : vs = [] := h
    exact ⟨[], [], rfl, .nil, rfl, rfl⟩
  | (z, w) :: kws, vs, ⟨v, rs, e, h, t⟩ => by
    subst e
    obtain ⟨ps, kvs, rfl, h2, h3, h4⟩ := pairs_v t
    obtain ⟨a, us, rfl, hq, v1, r1, rfl, hz, v2, r2, rfl, hw, rfl⟩ := h
    obtain rfl : v1 = .str z := hz
    refine ⟨a :: ps, (.inr z, v2) :: kvs, rfl, .cons hq h2, ?_, v2, _, rfl, hw, h4⟩
    show Sum.inr z :: kvs.map (·.1) = Sum.inr z :: (keyed kws).map (·.1)
    rw [h3]
theorem cl_dictP {K : PySem.W.Frag} : CL K Tb (fun xs H Q => ∃ (a : Addr) (ps : List Addr) (kvs : List (Key × V)), xs = [.ref a] ∧ SqL K H a (ps.map V.ref) ∧ Paired (fun p kv => SqT K H p [kV kv.1, kv.2]) ps kvs ∧ ∀ p, H p = none → Q (.ref p) (upd H p (.dK (mergeK [] kvs)))) wDictP := fun ι S H ws vs Q Qv s r h k => by
  match ws, h with
  | [.ref n], h =>
    obtain ⟨v, rfl, a, ha, rfl⟩ := one_of r
    have h : oL S[n]? _ := h
    obtain ⟨l, e, kws, rfl, h2⟩ := oL_some h
    obtain ⟨us, e1, rv⟩ := lst_at s ha e
    obtain ⟨ps, kvs, rfl, x1, x2, x3⟩ := pairs_v rv
    refine ⟨a, ps, kvs, rfl, SqL.of e1, x1, fun p hp => ?_⟩
    obtain ⟨n1, n2⟩ := mergeW_map (l := []) (kvs := []) x2 x3 rfl rfl
    obtain ⟨s3, g3⟩ := s.new (u := .dK (mergeK [] kvs)) (o := .dK (mergeW [] (keyed kws))) hp fun ι' H' g e => ⟨_, e, n1, n2.grow g⟩
    refine k _ _ _ _ (.ref p) h2 s3 g3 ⟨p, ?_, rfl⟩
    rw [← s.len, List.getElem?_append_right (Nat.le_refl _), Nat.sub_self]
    rfl
theorem e_dictP (hg : Gl X "dict") (hm : X.mg "dict" = none) (ha : EA X Tb [e] mr) (hc : X.calm = true := by rfl) (he : starEach [e] X.env = (false, eval e X.env) :: starEach [] X.env := by rfl) (hpl : (backTo pos (starEach [] X.env)).any (·.1) = false := by rfl) : EE X Tb (.Call (.Name "dict" p) [e] [] pos) (mCB wDictP mr) :=
  e_callTy (call_dictP hc) cl_dictP mo_dictP hg hm (by decide +kernel) ha (by decide) (by decide) he hpl
/-- sorted(l), l a list of texts -/
def wSortL : RCW := fun ws S Q => match ws with
  | [.ref n] => oL S[n]? fun l => ∃ ks : List Str, l = ks.map W.str ∧ ks.length < 64 ∧ ∀ ys : List Str, ys.Perm ks → sortedS ys = true → Q (.ref S.length) (S ++ [.lst (ys.map W.str)])
  | _ => False
theorem mo_sortL : MonoC wSortL := fun x S Q Q' k h => by
  match x, h with
  | [.ref n], h => exact oL_mono (fun l ⟨ks, a, b, c⟩ => ⟨ks, a, b, fun ys d e => k _ _ (c ys d e)⟩) h
theorem cl_sortL {K : PySem.W.Frag} : CL K Tb (rSortedS K) wSortL := fun ι S H ws vs Q Qv s r h k => by
  match ws, h with
  | [.ref n], h =>
    obtain ⟨v, rfl, a, ha, rfl⟩ := one_of r
    have h : oL S[n]? _ := h
    obtain ⟨l, e, ks, rfl, h2, h3⟩ := oL_some h
    obtain ⟨us, e1, rv⟩ := lst_at s ha e
    rw [VRs.strs rv] at e1
    refine ⟨a, ks, rfl, SqL.of e1, h2, fun ys p pm so hp => ?_⟩
    obtain ⟨ι2, s2, g2, r2⟩ := newL s (VRs.ofStrs ys) hp
    exact k ι2 _ _ _ _ (h3 ys pm so) s2 g2 r2
theorem e_sortL (hg : Gl X "sorted") (hm : X.mg "sorted" = none) (ha : EA X Tb [e] mr) (he : starEach [e] X.env = (false, eval e X.env) :: starEach [] X.env := by rfl) (hpl : (backTo pos (starEach [] X.env)).any (·.1) = false := by rfl) : EE X Tb (.Call (.Name "sorted" p) [e] [] pos) (mCB wSortL mr) :=
  e_callB cr_sortedS cl_sortL mo_sortL hg hm (by decide +kernel) ha (by decide) (by decide) he hpl
/-- a, b, c = l, l a list -/
def mgUnl (n : Nat) (t : MGs) : MG := fun w env S Q => match w with
  | .ref m => oL S[m]? fun l => l.length = n ∧ t l env S Q
  | _ => False
theorem g_unl {k n : Nat} {tgs : MGs} (hc : X.calm = true) (h : EGs X Tb es tgs) (hn : (assignEach es X.env).length = n := by rfl) (hst : (assignEach es X.env).findIdx? (·.1) = none := by rfl) : EG X Tb (.Tuple es k pos) (mgUnl n tgs) := by
  refine ⟨pg_imp (pg_unl hc h.pg hn hst) fun v σ H Q q => ?_, fun w env S Q Q' k q => ?_⟩
  · obtain ⟨ι, env, S, w, s, er, r, q⟩ := q
    cases w with
    | ref m =>
      obtain ⟨a, ha, rfl⟩ := r
      obtain ⟨l, e, q1, q2⟩ := oL_some q
      obtain ⟨vs, e1, rv⟩ := lst_at s ha e
      exact ⟨a, vs, rfl, SqL.of e1, by rw [rv.len]; exact q1, ι, env, S, l, s, er, rv, q2⟩
    | _ => exact q.elim
  · cases w with
    | ref m => exact oL_mono (fun l z => ⟨z.1, h.mono _ _ _ _ _ k z.2⟩) q
    | _ => exact q.elim
end
end Ev

set_option Elab.async false
set_option linter.all false
set_option maxRecDepth 100000
set_option maxHeartbeats 1000000
namespace Ev06
open PySem PySem.Spec PyProof.Rows L2 Ow Ev
def m_x_law_feed  : MS :=
  (mSeq (mAsg (mIf (mTest (mBin wLt (mVar 1) (mCB wLen (mCons (mVar 0) mNil)))) (mBin wIx (mVar 0) (mVar 1)) (mBin wAdd (mBin wMul (mC (.int 71)) (mVar 1)) (mC (.int 23)))) (mgName 2))
  (mSeq (mAsg (mCB wMax (mCons (mC (.int 0)) (mCons (mBin wSub (mCB wAbs (mCons (mVar 2) mNil)) (mBin wPow (mC (.int 10)) (mC (.int 18)))) mNil))) (mgName 3))
  (mSeq (mAsg (mBin wMod (mBin wAdd (mBin wAdd (mBin wMul (mVar 2) (mC (.int 6364136223846793005))) (mBin wMul (mC (.int 9973)) (mVar 1))) (mC (.int 1442695040888963407))) (mC (.int 2305843009213693951))) (mgName 4))
  (mRet (mLst (mCons (mVar 3) (mCons (mVar 4) mNil)))))))
def m_x_law_take  : MS :=
  (mSeq (mIfS (mTest (mBin wGt (mBin wIx (mVar 0) (mC (.int 0))) (mC (.int 0))))
  (mSeq (mAsg (mBin wMod (mBin wIx (mVar 0) (mC (.int 0))) (mVar 1)) (mgName 2))
  (mSeq (mAsg (mBin wFdiv (mBin wIx (mVar 0) (mC (.int 0))) (mVar 1)) (mgSub (mVar 0) (mC (.int 0))))
  (mRet (mVar 2))))
  mNext)
  (mSeq (mAsg (mBin wMod (mBin wAdd (mBin wMul (mBin wIx (mVar 0) (mC (.int 1))) (mC (.int 6364136223846793005))) (mC (.int 1442695040888963407))) (mC (.int 2305843009213693951))) (mgSub (mVar 0) (mC (.int 1))))
  (mRet (mBin wMod (mBin wFdiv (mBin wIx (mVar 0) (mC (.int 1))) (mC (.int 65536))) (mVar 1)))))
def m_x_law_pick (C_x_law_take : Con) : MS :=
  (mRet (mBin wIx (mVar 1) (mCB (conR C_x_law_take) (mCons (mVar 0) (mCons (mCB wLen (mCons (mVar 1) mNil)) mNil)))))
def m_x_law_names (C_x_law_take : Con) (C_x_law_pick : Con) : MS :=
  (mSeq (mAsg (mC (.str "abcdefghijklmnopqrstuvwxyz")) (mgName 1))
  (mSeq (mAsg (mTup (mCons (mCB (conR C_x_law_take) (mCons (mVar 0) (mCons (mC (.int 26)) mNil))) (mCons (mBin wMul (mBin wIx (mVar 1) (mCB (conR C_x_law_take) (mCons (mVar 0) (mCons (mC (.int 26)) mNil)))) (mCB (conR C_x_law_take) (mCons (mVar 0) (mCons (mC (.int 8)) mNil)))) mNil))) (mgTup 2 (mgCons (mgName 2) (mgCons (mgName 3) mgNil))))
  (mSeq (mAsg (mLc (mRg1 (mCons (mC (.int 8)) mNil)) (mgName 7) mYes (mBin wAdd (mBin wIx (mVar 1) (mBin wMod (mBin wAdd (mVar 2) (mBin wMul (mC (.int 5)) (mVar 7))) (mC (.int 26)))) (mVar 3)) [7]) (mgName 4))
  (mSeq (mAsg (mLst (mCons (mC (.str "num")) (mCons (mC (.str "name")) (mCons (mC (.str "fun")) (mCons (mC (.str "call")) (mCons (mC (.str "let")) (mCons (mC (.str "now")) (mCons (mC (.str "letall")) (mCons (mC (.str "made")) (mCons (mC (.str "by")) (mCons (mC (.str "sum")) (mCons (mC (.str "minus")) (mCons (mC (.str "less")) mNil))))))))))))) (mgName 5))
  (mSeq (mAsg (mBin wAdd (mVar 5) (mLst (mCons (mC (.str "same")) (mCons (mC (.str "yes")) mNil)))) (mgName 5))
  (mSeq (mFor (mRg1 (mCons (mCB (conR C_x_law_pick) (mCons (mVar 0) (mCons (mLst (mCons (mC (.int 0)) (mCons (mC (.int 0)) (mCons (mC (.int 1)) (mCons (mC (.int 4)) mNil))))) mNil))) mNil)) (mgName 6)
  (mAsg (mCB (conR C_x_law_pick) (mCons (mVar 0) (mCons (mVar 5) mNil))) (mgSub (mVar 4) (mCB (conR C_x_law_take) (mCons (mVar 0) (mCons (mC (.int 8)) mNil))))))
  (mRet (mVar 4))))))))
def m_x_law_few (C_x_law_take : Con) (C_x_law_pick : Con) : MS :=
  (mSeq (mAsg (mLst mNil) (mgName 3))
  (mSeq (mFor (mRg1 (mCons (mCB (conR C_x_law_take) (mCons (mVar 0) (mCons (mBin wAdd (mVar 2) (mC (.int 1))) mNil))) mNil)) (mgName 4)
  (mSeq (mAsg (mCB (conR C_x_law_pick) (mCons (mVar 0) (mCons (mVar 1) mNil))) (mgName 5))
  (mIfS (mTest (mBin wNotIn (mVar 5) (mVar 3)))
  (mDrop (mBM wAppend (mVar 3) (mCons (mVar 5) mNil)))
  mNext)))
  (mRet (mCB wTuple (mCons (mVar 3) mNil)))))
def m_x_law_made (C_x_law_take : Con) (C_x_law_pick : Con) : MS :=
  (mSeq (mAsg (mLc (mRg1 (mCons (mCB (conR C_x_law_take) (mCons (mVar 0) (mCons (mC (.int 4)) mNil))) mNil)) (mgName 3) mYes (mCB (conR C_x_law_pick) (mCons (mVar 0) (mCons (mVar 1) mNil))) [3]) (mgName 2))
  (mRet (mTup (mCons (mC (.str "made")) (mCons (mCB (conR C_x_law_pick) (mCons (mVar 0) (mCons (mVar 1) mNil))) (mCons (mCB wTuple (mCons (mVar 2) mNil)) mNil))))))
def m_x_law_leaf (C_x_law_take : Con) (C_x_law_pick : Con) (C_x_law_made : Con) : MS :=
  (mSeq (mAsg (mCB (conR C_x_law_take) (mCons (mVar 0) (mCons (mC (.int 5)) mNil))) (mgName 2))
  (mSeq (mIfS (mTest (mBin wEq (mVar 2) (mC (.int 0))))
  (mRet (mTup (mCons (mC (.str "num")) (mCons (mCB (conR C_x_law_pick) (mCons (mVar 0) (mCons (mLst (mCons (mC (.int 0)) (mCons (mC (.int 1)) (mCons (mNeg (mC (.int 1))) (mCons (mBin wPow (mC (.int 10)) (mC (.int 18))) (mCons (mBin wSub (mC (.int 0)) (mBin wPow (mC (.int 10)) (mC (.int 18)))) (mCons (mBin wSub (mCB (conR C_x_law_take) (mCons (mVar 0) (mCons (mC (.int 99)) mNil))) (mC (.int 40))) mNil))))))) mNil))) mNil))))
  mNext)
  (mSeq (mIfS (mTest (mBin wEq (mVar 2) (mC (.int 1))))
  (mRet (mCB (conR C_x_law_made) (mCons (mVar 0) (mCons (mVar 1) mNil))))
  mNext)
  (mSeq (mIfS (mTest (mBin wEq (mVar 2) (mC (.int 2))))
  (mRet (mTup (mCons (mC (.str "name")) (mCons (mCB (conR C_x_law_pick) (mCons (mVar 0) (mCons (mVar 1) mNil))) mNil))))
  mNext)
  (mSeq (mAsg (mCB (conR C_x_law_pick) (mCons (mVar 0) (mCons (mLst (mCons (mC (.str "call")) (mCons (mC (.str "sum")) (mCons (mC (.str "minus")) (mCons (mC (.str "less")) (mCons (mC (.str "same")) (mCons (mC (.str "call")) mNil))))))) mNil))) (mgName 3))
  (mRet (mTup (mCons (mVar 3) (mCons (mCB (conR C_x_law_pick) (mCons (mVar 0) (mCons (mVar 1) mNil))) (mCons (mCB (conR C_x_law_pick) (mCons (mVar 0) (mCons (mVar 1) mNil))) mNil))))))))))
def m_x_law_worth (C_x_law_take : Con) (C_x_law_made : Con) (C_x_law_term : Con) (C_x_law_pick : Con) : MS :=
  (mSeq (mAsg (mBin wSub (mBin wIx (mVar 2) (mC (.int 0))) (mC (.int 1))) (mgSub (mVar 2) (mC (.int 0))))
  (mSeq (mIfS (mTest (mBin wEq (mCB (conR C_x_law_take) (mCons (mVar 0) (mCons (mC (.int 3)) mNil))) (mC (.int 0))))
  (mRet (mCB (conR C_x_law_made) (mCons (mVar 0) (mCons (mVar 1) mNil))))
  mNext)
  (mRet (mTup (mCons (mC (.str "fun")) (mCons (mCB (conR C_x_law_pick) (mCons (mVar 0) (mCons (mVar 1) mNil))) (mCons (mCB (conR C_x_law_term) (mCons (mVar 0) (mCons (mVar 1) (mCons (mVar 2) (mCons (mBin wSub (mVar 3) (mC (.int 1))) mNil))))) mNil)))))))
def m_x_law_term (C_x_law_take : Con) (C_x_law_leaf : Con) (C_x_law_term : Con) (C_x_law_pick : Con) (C_x_law_few : Con) (C_x_law_worth : Con) : MS :=
  (mSeq (mAsg (mBin wSub (mBin wIx (mVar 2) (mC (.int 0))) (mC (.int 1))) (mgSub (mVar 2) (mC (.int 0))))
  (mSeq (mAsg (mCB (conR C_x_law_take) (mCons (mVar 0) (mCons (mC (.int 7)) mNil))) (mgName 4))
  (mSeq (mIfS (mOr (mTest (mBin wLt (mVar 3) (mC (.int 1)))) (mOr (mTest (mBin wLt (mBin wIx (mVar 2) (mC (.int 0))) (mC (.int 1)))) (mTest (mBin wEq (mVar 4) (mC (.int 0))))))
  (mRet (mCB (conR C_x_law_leaf) (mCons (mVar 0) (mCons (mVar 1) mNil))))
  mNext)
  (mSeq (mIfS (mTest (mBin wEq (mVar 4) (mC (.int 1))))
  (mRet (mTup (mCons (mC (.str "fun")) (mCons (mCB (conR C_x_law_pick) (mCons (mVar 0) (mCons (mVar 1) mNil))) (mCons (mCB (conR C_x_law_term) (mCons (mVar 0) (mCons (mVar 1) (mCons (mVar 2) (mCons (mBin wSub (mVar 3) (mC (.int 1))) mNil))))) mNil)))))
  mNext)
  (mSeq (mIfS (mTest (mBin wEq (mVar 4) (mC (.int 2))))
  (mSeq (mAsg (mCB (conR C_x_law_few) (mCons (mVar 0) (mCons (mVar 1) (mCons (mC (.int 6)) mNil)))) (mgName 5))
  (mSeq (mAsg (mIf (mTest (mBin wNe (mVar 5) (mTup mNil))) (mVar 5) (mCB wTuple (mCons (mSl (mVar 1) mNoP (mP (mC (.int 1)))) mNil))) (mgName 5))
  (mSeq (mAsg (mCB wTuple (mCons (mLc (mIt (mVar 5)) (mgName 11) mYes (mTup (mCons (mVar 11) (mCons (mCB (conR C_x_law_worth) (mCons (mVar 0) (mCons (mVar 1) (mCons (mVar 2) (mCons (mBin wSub (mVar 3) (mC (.int 1))) mNil))))) mNil))) [11]) mNil)) (mgName 6))
  (mRet (mTup (mCons (mC (.str "letall")) (mCons (mVar 6) (mCons (mCB (conR C_x_law_term) (mCons (mVar 0) (mCons (mVar 1) (mCons (mVar 2) (mCons (mBin wSub (mVar 3) (mC (.int 1))) mNil))))) mNil))))))))
  mNext)
  (mSeq (mIfS (mTest (mBin wEq (mVar 4) (mC (.int 3))))
  (mSeq (mAsg (mCB (conR C_x_law_few) (mCons (mVar 0) (mCons (mVar 1) (mCons (mC (.int 6)) mNil)))) (mgName 5))
  (mSeq (mAsg (mLst mNil) (mgName 7))
  (mSeq (mFor (mIt (mIf (mTest (mBin wNe (mVar 5) (mTup mNil))) (mVar 5) (mCB wTuple (mCons (mSl (mVar 1) mNoP (mP (mC (.int 1)))) mNil)))) (mgName 8)
  (mSeq (mAsg (mCB (conR C_x_law_few) (mCons (mVar 0) (mCons (mVar 1) (mCons (mC (.int 3)) mNil)))) (mgName 9))
  (mDrop (mBM wAppend (mVar 7) (mCons (mTup (mCons (mVar 8) (mCons (mVar 9) (mCons (mCB (conR C_x_law_term) (mCons (mVar 0) (mCons (mVar 1) (mCons (mVar 2) (mCons (mBin wSub (mVar 3) (mC (.int 1))) mNil))))) mNil)))) mNil)))))
  (mRet (mTup (mCons (mC (.str "by")) (mCons (mCB (conR C_x_law_pick) (mCons (mVar 0) (mCons (mVar 1) mNil))) (mCons (mCB wTuple (mCons (mVar 7) mNil)) mNil))))))))
  mNext)
  (mSeq (mAsg (mCB (conR C_x_law_term) (mCons (mVar 0) (mCons (mVar 1) (mCons (mVar 2) (mCons (mBin wSub (mVar 3) (mC (.int 1))) mNil))))) (mgName 10))
  (mSeq (mAsg (mCB (conR C_x_law_pick) (mCons (mVar 0) (mCons (mLst (mCons (mC (.str "let")) (mCons (mC (.str "let")) (mCons (mC (.str "now")) mNil)))) mNil))) (mgName 8))
  (mRet (mTup (mCons (mVar 8) (mCons (mCB (conR C_x_law_pick) (mCons (mVar 0) (mCons (mVar 1) mNil))) (mCons (mVar 10) (mCons (mCB (conR C_x_law_term) (mCons (mVar 0) (mCons (mVar 1) (mCons (mVar 2) (mCons (mBin wSub (mVar 3) (mC (.int 1))) mNil))))) mNil))))))))))))))
def m_x_law_called (C_x_law_called : Con) : MS :=
  (mSeq (mAsg (mBin wIx (mVar 0) (mC (.int 0))) (mgName 2))
  (mSeq (mIfS (mTest (mBin wEq (mVar 2) (mC (.str "num"))))
  (mRet (mVar 0))
  mNext)
  (mSeq (mIfS (mTest (mBin wEq (mVar 2) (mC (.str "made"))))
  (mRet (mTup (mCons (mVar 2) (mCons (mBin wIx (mVar 1) (mBin wIx (mVar 0) (mC (.int 1)))) (mCons (mCB wTuple (mCons (mLc (mIt (mBin wIx (mVar 0) (mC (.int 2)))) (mgName 8) mYes (mBin wIx (mVar 1) (mVar 8)) [8]) mNil)) mNil)))))
  mNext)
  (mSeq (mIfS (mTest (mBin wEq (mVar 2) (mC (.str "letall"))))
  (mSeq (mAsg (mLc (mIt (mBin wIx (mVar 0) (mC (.int 1)))) (mgTup 2 (mgCons (mgName 8) (mgCons (mgName 9) mgNil))) mYes (mTup (mCons (mBin wIx (mVar 1) (mVar 8)) (mCons (mCB (conR C_x_law_called) (mCons (mVar 9) (mCons (mVar 1) mNil))) mNil))) [8, 9]) (mgName 3))
  (mRet (mTup (mCons (mVar 2) (mCons (mCB wTuple (mCons (mVar 3) mNil)) (mCons (mCB (conR C_x_law_called) (mCons (mBin wIx (mVar 0) (mC (.int 2))) (mCons (mVar 1) mNil))) mNil))))))
  mNext)
  (mSeq (mIfS (mTest (mBin wEq (mVar 2) (mC (.str "by"))))
  (mSeq (mAsg (mLst mNil) (mgName 4))
  (mSeq (mFor (mIt (mBin wIx (mVar 0) (mC (.int 2)))) (mgTup 3 (mgCons (mgName 5) (mgCons (mgName 6) (mgCons (mgName 7) mgNil))))
  (mDrop (mBM wAppend (mVar 4) (mCons (mTup (mCons (mBin wIx (mVar 1) (mVar 5)) (mCons (mCB wTuple (mCons (mLc (mIt (mVar 6)) (mgName 8) mYes (mBin wIx (mVar 1) (mVar 8)) [8]) mNil)) (mCons (mCB (conR C_x_law_called) (mCons (mVar 7) (mCons (mVar 1) mNil))) mNil)))) mNil))))
  (mRet (mTup (mCons (mVar 2) (mCons (mBin wIx (mVar 1) (mBin wIx (mVar 0) (mC (.int 1)))) (mCons (mCB wTuple (mCons (mVar 4) mNil)) mNil)))))))
  mNext)
  (mSeq (mIfS (mTest (mBin wIn (mVar 2) (mLst (mCons (mC (.str "fun")) (mCons (mC (.str "let")) (mCons (mC (.str "now")) mNil))))))
  (mRet (mBin wAdd (mTup (mCons (mVar 2) (mCons (mBin wIx (mVar 1) (mBin wIx (mVar 0) (mC (.int 1)))) mNil))) (mCB wTuple (mCons (mLc (mIt (mSl (mVar 0) (mP (mC (.int 2))) mNoP)) (mgName 7) mYes (mCB (conR C_x_law_called) (mCons (mVar 7) (mCons (mVar 1) mNil))) [7]) mNil))))
  mNext)
  (mRet (mBin wAdd (mTup (mCons (mVar 2) mNil)) (mCB wTuple (mCons (mLc (mIt (mSl (mVar 0) (mP (mC (.int 1))) mNoP)) (mgName 8) mYes (mBin wIx (mVar 1) (mVar 8)) [8]) mNil))))))))))
def m_x_law_but (C_free_names : Con) : MS :=
  (mRet (mLc (mIt (mCB (conR C_free_names) (mCons (mVar 0) mNil))) (mgName 2) (mTest (mBin wNotIn (mVar 2) (mVar 1))) (mVar 2) [2]))
def m_x_law_around_right (C_x_law_but : Con) (C_free_names : Con) (C_is_term : Con) : MS :=
  (mSeq (mAsg (mVar 2) (mgUnl 3 (mgCons (mgName 3) (mgCons (mgName 4) (mgCons (mgName 5) mgNil)))))
  (mSeq (mAsg (mLst (mCons (mTup (mCons (mTup (mCons (mC (.str "fun")) (mCons (mVar 3) (mCons (mVar 0) mNil)))) (mCons (mCB (conR C_x_law_but) (mCons (mVar 0) (mCons (mLst (mCons (mVar 3) mNil)) mNil))) mNil))) mNil)) (mgName 6))
  (mSeq (mFor (mIt (mLst (mCons (mTup (mCons (mC (.str "let")) (mCons (mVar 3) mNil))) (mCons (mTup (mCons (mC (.str "now")) (mCons (mVar 4) mNil))) mNil)))) (mgTup 2 (mgCons (mgName 7) (mgCons (mgName 8) mgNil)))
  (mDrop (mBM wAppend (mVar 6) (mCons (mTup (mCons (mTup (mCons (mVar 7) (mCons (mVar 8) (mCons (mVar 0) (mCons (mVar 1) mNil))))) (mCons (mBin wAdd (mCB (conR C_free_names) (mCons (mVar 0) mNil)) (mCB (conR C_x_law_but) (mCons (mVar 1) (mCons (mLst (mCons (mVar 8) mNil)) mNil)))) mNil))) mNil))))
  (mSeq (mAsg (mTup (mCons (mTup (mCons (mVar 3) (mCons (mTup (mCons (mC (.str "fun")) (mCons (mVar 4) (mCons (mVar 0) mNil)))) mNil))) (mCons (mTup (mCons (mVar 5) (mCons (mTup (mCons (mC (.str "made")) (mCons (mVar 4) (mCons (mTup (mCons (mVar 3) (mCons (mVar 4) (mCons (mVar 5) mNil)))) mNil)))) mNil))) mNil))) (mgName 9))
  (mSeq (mDrop (mBM wAppend (mVar 6) (mCons (mTup (mCons (mTup (mCons (mC (.str "letall")) (mCons (mVar 9) (mCons (mVar 1) mNil)))) (mCons (mBin wAdd (mBin wAdd (mCB (conR C_x_law_but) (mCons (mVar 0) (mCons (mLst (mCons (mVar 3) (mCons (mVar 4) (mCons (mVar 5) mNil)))) mNil))) (mLst (mCons (mVar 4) mNil))) (mCB (conR C_x_law_but) (mCons (mVar 1) (mCons (mLst (mCons (mVar 3) (mCons (mVar 5) mNil))) mNil)))) mNil))) mNil)))
  (mSeq (mAsg (mTup (mCons (mTup (mCons (mVar 3) (mCons (mTup (mCons (mVar 4) (mCons (mVar 5) mNil))) (mCons (mVar 0) mNil)))) (mCons (mTup (mCons (mVar 4) (mCons (mTup mNil) (mCons (mVar 1) mNil)))) mNil))) (mgName 10))
  (mSeq (mDrop (mBM wAppend (mVar 6) (mCons (mTup (mCons (mTup (mCons (mC (.str "by")) (mCons (mVar 5) (mCons (mVar 10) mNil)))) (mCons (mBin wAdd (mBin wAdd (mLst (mCons (mVar 5) mNil)) (mCB (conR C_x_law_but) (mCons (mVar 0) (mCons (mLst (mCons (mVar 4) (mCons (mVar 5) mNil))) mNil)))) (mCB (conR C_free_names) (mCons (mVar 1) mNil))) mNil))) mNil)))
  (mSeq (mFor (mIt (mVar 6)) (mgTup 2 (mgCons (mgName 11) (mgCons (mgName 12) mgNil)))
  (mIfS (mAnd (mTru (mCB (conR C_is_term) (mCons (mVar 11) mNil))) (mTest (mBin wNe (mCB (conR C_free_names) (mCons (mVar 11) mNil)) (mSortSet (mVar 12)))))
  (mRet (mC (.bl false)))
  mNext))
  (mRet (mC (.bl true)))))))))))
def m_law (C_x_law_feed : Con) (C_x_law_names : Con) (C_x_law_term : Con) (C_x_law_take : Con) (C_x_law_pick : Con) (C_x_law_around_right : Con) (C_x_law_called : Con) (C_free_names : Con) (C_is_term : Con) (C_is_program : Con) : MS :=
  (mSeq (mFor (mRg1 (mCons (mCB wMax (mCons (mC (.int 2)) (mCons (mCB wMin (mCons (mC (.int 5)) (mCons (mCB wLen (mCons (mVar 0) mNil)) mNil))) mNil))) mNil)) (mgName 1)
  (mSeq (mAsg (mCB (conR C_x_law_feed) (mCons (mVar 0) (mCons (mVar 1) mNil))) (mgName 2))
  (mSeq (mAsg (mCB (conR C_x_law_names) (mCons (mVar 2) mNil)) (mgName 3))
  (mSeq (mAsg (mSortSet (mVar 3)) (mgName 4))
  (mSeq (mAsg (mCB (conR C_x_law_term) (mCons (mVar 2) (mCons (mVar 4) (mCons (mLst (mCons (mCB (conR C_x_law_pick) (mCons (mVar 2) (mCons (mLst (mCons (mC (.int 3)) (mCons (mC (.int 10)) (mCons (mC (.int 40)) mNil)))) mNil))) mNil)) (mCons (mBin wAdd (mC (.int 1)) (mCB (conR C_x_law_take) (mCons (mVar 2) (mCons (mC (.int 6)) mNil)))) mNil))))) (mgName 5))
  (mSeq (mAsg (mCB (conR C_x_law_term) (mCons (mVar 2) (mCons (mVar 4) (mCons (mLst (mCons (mCB (conR C_x_law_pick) (mCons (mVar 2) (mCons (mLst (mCons (mC (.int 3)) (mCons (mC (.int 10)) (mCons (mC (.int 40)) mNil)))) mNil))) mNil)) (mCons (mBin wAdd (mC (.int 1)) (mCB (conR C_x_law_take) (mCons (mVar 2) (mCons (mC (.int 6)) mNil)))) mNil))))) (mgName 6))
  (mSeq (mIfS (mAnd (mTest (mBin wGt (mCB wLen (mCons (mVar 4) mNil)) (mC (.int 2)))) (mNot (mTru (mCB (conR C_x_law_around_right) (mCons (mVar 5) (mCons (mVar 6) (mCons (mSl (mVar 4) mNoP (mP (mC (.int 3)))) mNil)))))))
  (mRet (mC (.bl false)))
  mNext)
  (mSeq (mAsg (mLc (mRg1 (mCons (mC (.int 8)) mNil)) (mgName 15) mYes (mBin wAdd (mBin wAdd (mC (.str "q")) (mBin wIx (mC (.str "abcdefgh")) (mVar 15))) (mBin wMul (mC (.str "w")) (mCB (conR C_x_law_take) (mCons (mVar 2) (mCons (mC (.int 7)) mNil))))) [15]) (mgName 7))
  (mSeq (mAsg (mCB (conR C_x_law_take) (mCons (mVar 2) (mCons (mC (.int 8)) mNil))) (mgName 8))
  (mSeq (mAsg (mDictZip (mVar 4) (mBin wAdd (mSl (mVar 7) (mP (mVar 8)) mNoP) (mSl (mVar 7) mNoP (mP (mVar 8))))) (mgName 9))
  (mSeq (mAsg (mCB (conR C_x_law_called) (mCons (mVar 5) (mCons (mVar 9) mNil))) (mgName 10))
  (mSeq (mIfS (mOr (mTest (mBin wNe (mCB (conR C_free_names) (mCons (mVar 10) mNil)) (mCB wSortL (mCons (mLc (mIt (mCB (conR C_free_names) (mCons (mVar 5) mNil))) (mgName 11) mYes (mBin wIx (mVar 9) (mVar 11)) [11]) mNil)))) (mNot (mTru (mCB (conR C_is_term) (mCons (mVar 10) mNil)))))
  (mRet (mC (.bl false)))
  mNext)
  (mSeq (mIfS (mTest (mBin wNe (mCB (conR C_is_program) (mCons (mVar 10) mNil)) (mCB (conR C_is_program) (mCons (mVar 5) mNil))))
  (mRet (mC (.bl false)))
  mNext)
  (mSeq (mAsg (mCB (conR C_x_law_pick) (mCons (mVar 2) (mCons (mVar 4) mNil))) (mgName 11))
  (mSeq (mAsg (mCB (conR C_x_law_called) (mCons (mVar 5) (mCons (mCB wDictP (mCons (mBin wAdd (mLc (mIt (mVar 4)) (mgName 16) mYes (mTup (mCons (mVar 16) (mCons (mVar 16) mNil))) [16]) (mLst (mCons (mTup (mCons (mVar 11) (mCons (mC (.str "qzq")) mNil))) mNil))) mNil)) mNil))) (mgName 12))
  (mSeq (mIfS (mTest (mBin wNe (mCB (conR C_free_names) (mCons (mTup (mCons (mC (.str "let")) (mCons (mVar 11) (mCons (mVar 6) (mCons (mVar 5) mNil))))) mNil)) (mCB (conR C_free_names) (mCons (mTup (mCons (mC (.str "let")) (mCons (mC (.str "qzq")) (mCons (mVar 6) (mCons (mVar 12) mNil))))) mNil))))
  (mRet (mC (.bl false)))
  mNext)
  (mSeq (mAsg (mVar 5) (mgName 13))
  (mSeq (mFor (mIt (mCB (conR C_free_names) (mCons (mVar 5) mNil))) (mgName 14)
  (mAsg (mCB (conR C_x_law_pick) (mCons (mVar 2) (mCons (mLst (mCons (mTup (mCons (mC (.str "let")) (mCons (mVar 14) (mCons (mTup (mCons (mC (.str "num")) (mCons (mC (.int 0)) mNil))) (mCons (mVar 13) mNil))))) (mCons (mTup (mCons (mC (.str "fun")) (mCons (mVar 14) (mCons (mVar 13) mNil)))) mNil))) mNil))) (mgName 13)))
  (mIfS (mTest (mBin (wIsN true) (mCB (conR C_is_program) (mCons (mVar 13) mNil)) (mC (.bl true))))
  (mRet (mC (.bl false)))
  mNext)))))))))))))))))))
  (mRet (mC (.bl true))))
end Ev06

set_option Elab.async false
set_option linter.all false
set_option maxRecDepth 100000
set_option maxHeartbeats 1000000
/-! _law_called. -/
namespace Ev06
open PySem PySem.Spec PyProof.Rows L2 Ow Ev OwT EvT Ev05
abbrev Vc (N : Nat) (m : MS) (C : Con) : Prop := ∀ a ws S, C.pre a ws S → m { nx := fun _ S' => C.post a S .non S', rt := fun w S' => C.post a S w S' } (stE N ws) S
theorem filter_true {α : Type} (l : List α) : l.filter (fun _ => true) = l := List.filter_eq_self.mpr fun _ _ => rfl
/-- a list comprehension over a tuple; its part may make more of the store -/
theorem comp_tup {vs : List Nat} {l : List W} {f : W → W} {E : W → EvS} {m te : ME} {mg : MG} {env : EvS} {S : Store} {Q : WK} (hm : ∀ R : WK, R (.tup l) S → m env S R) (hl : l.length ≤ 5000)
    (hg : ∀ w ∈ l, ∀ (S1 : Store) (R : EvS → Store → Prop), R (E w) S1 → mg w (wpE env vs) S1 R)
    (he : ∀ w ∈ l, ∀ (S1 : Store) (k : WK), Ex S S1 → (∀ S', Ex S1 S' → k (f w) S') → te (E w) S1 k)
    (k : ∀ n S', Ex S S' → S.length ≤ n → S'[n]? = some (.lst (l.map f)) → Q (.ref n) S') : mLc (mIt m) mg mYes te vs env S Q := by
  unfold mLc mIt
  refine hm _ ?_
  have key := lcL_ex (chk := fun _ => True) (mg := mg) (tt := mYes) (te := te) (env := wpE env vs) (Q := Q) (S0 := S) (fun _ => true) f E (fun _ _ => trivial) l [] (by show 0 + l.length ≤ sizeLine; have : sizeLine = 16777216 := rfl; omega) hg (fun w _ S2 k _ z => z S2 Ex.refl) (fun w hw _ S2 k x z => he w hw S2 k x z) (fun S5 h5 => ?_) _ Ex.refl
  · exact key
  · rw [filter_true, List.nil_append] at h5
    obtain ⟨h6, at6⟩ := h5.new
    exact k _ _ h6 (Nat.le_refl _) at6
/-- the same over a list -/
theorem comp_lst {vs : List Nat} {i : Nat} {l : List W} {t : W → Bool} {f : W → W} {E : W → EvS} {m te : ME} {tt : MT} {mg : MG} {env : EvS} {S S0 : Store} {Q : WK} (hm : ∀ R : WK, R (.ref i) S → m env S0 R) (hi : S[i]? = some (.lst l)) (hl : l.length ≤ 5000)
    (hg : ∀ w ∈ l, ∀ (S1 : Store) (R : EvS → Store → Prop), R (E w) S1 → mg w (wpE env vs) S1 R)
    (ht : ∀ w ∈ l, ∀ (S1 : Store) (k : Bool → Store → Prop), Ex S S1 → (∀ S', Ex S1 S' → k (t w) S') → tt (E w) S1 k)
    (he : ∀ w ∈ l, t w = true → ∀ (S1 : Store) (k : WK), Ex S S1 → (∀ S', Ex S1 S' → k (f w) S') → te (E w) S1 k)
    (k : ∀ n S', Ex S S' → S.length ≤ n → S'[n]? = some (.lst ((l.filter t).map f)) → Q (.ref n) S') : mLc (mIt m) mg tt te vs env S0 Q := by
  unfold mLc mIt
  refine hm _ ?_
  rw [walk_lst hi]
  have key := lcL_ex (chk := fun S' => S'[i]? = some (.lst l)) (mg := mg) (tt := tt) (te := te) (env := wpE env vs) (Q := Q) (S0 := S) t f E (fun S' h => h.at hi) l [] (by show 0 + l.length ≤ sizeLine; have : sizeLine = 16777216 := rfl; omega) hg (fun w hw S2 k x z => ht w hw S2 k x z) (fun w hw e S2 k x z => he w hw e S2 k x z) (fun S5 h5 => ?_) _ Ex.refl
  · exact key
  · rw [List.nil_append] at h5
    obtain ⟨h6, at6⟩ := h5.new
    exact k _ _ h6 (Nat.le_refl _) at6
def Tab (kv : List (Key × W)) (ns : List Str) (f : Str → Str) : Prop := ∀ x ∈ ns, valW kv (.inr x : Key) = some (.str (f x))
theorem tb_at {S : Store} {m : Nat} {kv : List (Key × W)} {x : Str} {w : W} {Q : WK} (h : S[m]? = some (.dK kv)) (e : valW kv (.inr x : Key) = some w) (q : Q w S) : wIx (.ref m) (.str x) S Q := by
  show oIx (.str x) S[m]? fun w => Q w S
  rw [h]
  show oW (valW kv (.inr x : Key)) _
  rw [e]
  exact q
theorem tup_at {S : Store} {n : Nat} {l : List W} {Q : WK} (h : S[n]? = some (.lst l)) (q : Q (.tup l) S) : wTuple [.ref n] S Q := by
  show oL S[n]? _
  rw [h]
  exact q
theorem ix_tup {S : Store} {l : List W} {i : Int} {w : W} {Q : WK} (e : wAt l i = some w) (q : Q w S) : wIx (.tup l) (.int i) S Q := by
  show oW (wAt l i) _
  rw [e]
  exact q
/-! ### what is called otherwise -/
open Classical in
noncomputable def reW (f : Str → Str) (w : W) : W := if h : ∃ t, WF t ∧ w = tW t then tW (ren f (Classical.choose h)) else .non
theorem reW_tW {f : Str → Str} {t : T} (w : WF t) : reW f (tW t) = tW (ren f t) := by
  have h : ∃ u, WF u ∧ tW t = tW u := ⟨t, w, rfl⟩
  unfold reW
  rw [dif_pos h]
  have hs := Classical.choose_spec h
  rw [← tW_inj t _ w hs.1 hs.2]
noncomputable def reP (f : Str → Str) : W → W
  | .tup [.str x, e] => .tup [.str (f x), reW f e]
  | _ => .non
theorem reP_ps {f : Str → Str} : ∀ ps : Ps, WFp ps → (pW ps).map (reP f) = pW (renPs f ps)
  | .nil, _ => rfl
  | .cons x e r, w => by
    show reP f (.tup [.str x, tW e]) :: (pW r).map (reP f) = .tup [.str (f x), tW (ren f e)] :: pW (renPs f r)
    rw [reP_ps r w.2.2.2]
    show W.tup [.str (f x), reW f (tW e)] :: _ = _
    rw [reW_tW w.2.2.1]
def strF (f : Str → Str) : W → W
  | .str x => .str (f x)
  | _ => .non
theorem strF_map {f : Str → Str} (xs : List Str) : (xs.map W.str).map (strF f) = (xs.map f).map W.str := by
  rw [List.map_map, List.map_map]
  rfl
abbrev CdA := T × Nat × (Str → Str) × List Str × List (Key × W)
def CalledC (n : Nat) : Con := ⟨CdA, fun (t, m, f, ns, kv) ws S => ws = [tW t, .ref m] ∧ S[m]? = some (.dK kv) ∧ Good ns t ∧ WF t ∧ deep t ≤ n ∧ Tab kv ns f, fun (t, m, f, ns, kv) S w S' => w = tW (ren f t) ∧ Ex S S'⟩
def isW (z : Str) : MT := (mTest (mBin wEq (mVar 2) (mC (.str z))))
def madeE : MS := (mRet (mTup (mCons (mVar 2) (mCons (mBin wIx (mVar 1) (mBin wIx (mVar 0) (mC (.int 1)))) (mCons (mCB wTuple (mCons (mLc (mIt (mBin wIx (mVar 0) (mC (.int 2)))) (mgName 8) mYes (mBin wIx (mVar 1) (mVar 8)) [8]) mNil)) mNil)))))
def allE (CT : Con) : MS := (mSeq (mAsg (mLc (mIt (mBin wIx (mVar 0) (mC (.int 1)))) (mgTup 2 (mgCons (mgName 8) (mgCons (mgName 9) mgNil))) mYes (mTup (mCons (mBin wIx (mVar 1) (mVar 8)) (mCons (mCB (conR CT) (mCons (mVar 9) (mCons (mVar 1) mNil))) mNil))) [8, 9]) (mgName 3))
  (mRet (mTup (mCons (mVar 2) (mCons (mCB wTuple (mCons (mVar 3) mNil)) (mCons (mCB (conR CT) (mCons (mBin wIx (mVar 0) (mC (.int 2))) (mCons (mVar 1) mNil))) mNil))))))
def byB (CT : Con) : MS := (mDrop (mBM wAppend (mVar 4) (mCons (mTup (mCons (mBin wIx (mVar 1) (mVar 5)) (mCons (mCB wTuple (mCons (mLc (mIt (mVar 6)) (mgName 8) mYes (mBin wIx (mVar 1) (mVar 8)) [8]) mNil)) (mCons (mCB (conR CT) (mCons (mVar 7) (mCons (mVar 1) mNil))) mNil)))) mNil)))
def byE (CT : Con) : MS := (mSeq (mAsg (mLst mNil) (mgName 4))
  (mSeq (mFor (mIt (mBin wIx (mVar 0) (mC (.int 2)))) (mgTup 3 (mgCons (mgName 5) (mgCons (mgName 6) (mgCons (mgName 7) mgNil)))) (byB CT))
  (mRet (mTup (mCons (mVar 2) (mCons (mBin wIx (mVar 1) (mBin wIx (mVar 0) (mC (.int 1)))) (mCons (mCB wTuple (mCons (mVar 4) mNil)) mNil)))))))
def funE (CT : Con) : MS := (mRet (mBin wAdd (mTup (mCons (mVar 2) (mCons (mBin wIx (mVar 1) (mBin wIx (mVar 0) (mC (.int 1)))) mNil))) (mCB wTuple (mCons (mLc (mIt (mSl (mVar 0) (mP (mC (.int 2))) mNoP)) (mgName 7) mYes (mCB (conR CT) (mCons (mVar 7) (mCons (mVar 1) mNil))) [7]) mNil))))
def namE : MS := (mRet (mBin wAdd (mTup (mCons (mVar 2) mNil)) (mCB wTuple (mCons (mLc (mIt (mSl (mVar 0) (mP (mC (.int 1))) mNoP)) (mgName 8) mYes (mBin wIx (mVar 1) (mVar 8)) [8]) mNil))))
def inE : MT := (mTest (mBin wIn (mVar 2) (mLst (mCons (mC (.str "fun")) (mCons (mC (.str "let")) (mCons (mC (.str "now")) mNil))))))
theorem called_eq (CT : Con) : m_x_law_called CT = (mSeq (mAsg (mBin wIx (mVar 0) (mC (.int 0))) (mgName 2))
  (mSeq (mIfS (isW "num") (mRet (mVar 0)) mNext)
  (mSeq (mIfS (isW "made") madeE mNext)
  (mSeq (mIfS (isW "letall") (allE CT) mNext)
  (mSeq (mIfS (isW "by") (byE CT) mNext)
  (mSeq (mIfS inE (funE CT) mNext) namE)))))) := rfl
section
variable {S : Store} {D : MD} {e : EvS} {y z : Str} {p r : MS}
theorem if_yes (he : lk e 2 = some (.str y)) (h : y = z) (q : p { D with nx := fun e S' => r D e S' } e S) : mSeq (mIfS (isW z) p mNext) r D e S := by
  refine si0 ?_
  unfold isW
  simp only [mTest, mBin, mVar, mC]
  rw [he]
  show if (false ^^ decide (y = z)) = true then _ else _
  rw [Bool.false_xor, decide_eq_true h]
  exact iteT q
theorem if_no (he : lk e 2 = some (.str y)) (h : y ≠ z) (q : r D e S) : mSeq (mIfS (isW z) p mNext) r D e S := by
  refine si0 ?_
  unfold isW
  simp only [mTest, mBin, mVar, mC]
  rw [he]
  show if (false ^^ decide (y = z)) = true then _ else _
  rw [Bool.false_xor, decide_eq_false h]
  exact iteF q
def f3 : List Str := ["fun", "let", "now"]
theorem in_yes (he : lk e 2 = some (.str y)) (h : y ∈ f3) (q : ∀ S', Ex S S' → p { D with nx := fun e S' => r D e S' } e S') : mSeq (mIfS inE p mNext) r D e S := by
  refine si0 ?_
  unfold inE
  simp only [mTest, mBin, mVar, mC, mLst, mCons, mNil]
  rw [he]
  refine ⟨sz3, ?_⟩
  refine wIn_strsL (xs := f3) (new_at S _) ?_
  rw [Bool.false_xor, decide_eq_true h]
  exact iteT (q _ Ex.one)
theorem in_no (he : lk e 2 = some (.str y)) (h : y ∉ f3) (q : ∀ S', Ex S S' → r D e S') : mSeq (mIfS inE p mNext) r D e S := by
  refine si0 ?_
  unfold inE
  simp only [mTest, mBin, mVar, mC, mLst, mCons, mNil]
  rw [he]
  refine ⟨sz3, ?_⟩
  refine wIn_strsL (xs := f3) (new_at S _) ?_
  rw [Bool.false_xor, decide_eq_false h]
  exact iteF (q _ Ex.one)
end
section
variable {S : Store} {D : MD} {m n : Nat} {f : Str → Str} {ns : List Str} {kv : List (Key × W)} {CT : Con} {a : W}
theorem names_ok {i : Nat} {mE : ME} {env : EvS} {xs : List Str} {S : Store} {Q : WK} (hm : ∀ R : WK, R (.tup (xs.map W.str)) S → mE env S R) (hl : xs.length ≤ 5000) (hx : ∀ x ∈ xs, x ∈ ns) (hS : S[m]? = some (.dK kv)) (hT : Tab kv ns f) (h1 : ∀ w, lk ((wpE env [8]).set 8 (some w)) 1 = some (.ref m)) (h8 : ∀ w, lk ((wpE env [8]).set 8 (some w)) 8 = some w) (k : ∀ S', Ex S S' → Q (.tup ((xs.map f).map W.str)) S') :
    mCB wTuple (mCons (mLc (mIt mE) (mgName 8) mYes (mBin wIx (mVar 1) (mVar 8)) [8]) mNil) env S Q := by
  unfold mCB mCons mNil
  refine comp_tup (f := strF f) (E := fun w => (wpE env [8]).set 8 (some w)) hm (by rw [List.length_map]; exact hl) (fun w hw S1 R r => r) (fun w hw S1 k x q => ?_) fun n S1 x1 l1 at1 => ?_
  · obtain ⟨x', hx', rfl⟩ := List.mem_map.mp hw
    unfold mBin mVar
    rw [h1, h8]
    exact tb_at (x.at hS) (hT x' (hx x' hx')) (q S1 Ex.refl)
  · rw [strF_map] at at1
    exact tup_at at1 (k S1 x1)
def word : W → W
  | .tup (w :: _) => w
  | _ => .non
abbrev EnvC (a : W) (m : Nat) (y : Str) : EvS := [some a, some (.ref m), some (.str y), none, none, none, none, none, none, none]
theorem cd_call {t : T} {Q : WK} (hS : S[m]? = some (.dK kv)) (g : Good ns t) (w : WF t) (hd : deep t ≤ n) (hT : Tab kv ns f) (k : ∀ S', Ex S S' → Q (tW (ren f t)) S') : conR (CalledC n) [tW t, .ref m] S Q :=
  ⟨(t, m, f, ns, kv), ⟨rfl, hS, g, w, hd, hT⟩, fun w S' ⟨a, b⟩ => by rw [a]; exact k S' b⟩
theorem made_ok {c : Str} {xs : List Str} (hS : S[m]? = some (.dK kv)) (hT : Tab kv ns f) (hc : c ∈ ns) (hx : ∀ x ∈ xs, x ∈ ns) (hl : xs.length ≤ 3) (k : ∀ S', Ex S S' → D.rt (tW (ren f (.mk c xs))) S') : madeE D (EnvC (tW (.mk c xs)) m "made") S := by
  unfold madeE
  refine ret_ok ?_
  simp only [mTup, mCons, mNil, mBin, mVar, mC, lk, tW]
  refine ix_tup rfl (tb_at hS (hT c hc) ?_)
  refine names_ok (m := m) (f := f) (ns := ns) (kv := kv) (i := 0) (xs := xs) (fun R q => ?_) (by omega) hx hS hT (fun w => rfl) (fun w => rfl) fun S1 x1 => ?_
  · exact q
  · exact ⟨sz3, k S1 x1⟩
theorem all_ok {ps : Ps} {b : T} (hS : S[m]? = some (.dK kv)) (hT : Tab kv ns f) (g : Good ns (.all ps b)) (w : WF (.all ps b)) (hd : deep (.all ps b) ≤ n + 1) (k : ∀ S', Ex S S' → D.rt (tW (ren f (.all ps b))) S') : allE (CalledC n) D (EnvC (tW (.all ps b)) m "letall") S := by
  have hd : 1 + max (deepPs ps) (deep b) ≤ n + 1 := hd
  have hm1 := Nat.le_max_left (deepPs ps) (deep b)
  have hm2 := Nat.le_max_right (deepPs ps) (deep b)
  have pl : ∀ ps : Ps, (pW ps).length = ps.names.length := by
    intro ps
    induction ps using Ps.rec (motive_1 := fun _ => True) (motive_3 := fun _ => True) with
    | nil => rfl
    | cons x e r _ ih => show (pW r).length + 1 = r.names.length + 1; rw [ih]
    | _ => trivial
  have mem : ∀ (ps : Ps), GoodPs ns ps → WFp ps → deepPs ps ≤ n → ∀ w ∈ pW ps, ∃ x e, w = .tup [.str x, tW e] ∧ x ∈ ns ∧ Good ns e ∧ WF e ∧ deep e ≤ n := by
    intro ps
    induction ps using Ps.rec (motive_1 := fun _ => True) (motive_3 := fun _ => True) with
    | nil => exact fun _ _ _ w hw => (List.not_mem_nil hw).elim
    | cons x e r _ ih =>
      intro g w hd y hy
      have hd : max (deep e) (deepPs r) ≤ n := hd
      have h1 := Nat.le_max_left (deep e) (deepPs r)
      have h2 := Nat.le_max_right (deep e) (deepPs r)
      rcases List.mem_cons.mp hy with rfl | hy
      · exact ⟨x, e, rfl, g.1, g.2.1, w.2.2.1, by omega⟩
      · exact ih g.2.2 w.2.2.2 (by omega) y hy
    | _ => trivial
  unfold allE
  refine sa (i := 3) ?_
  refine comp_tup (l := pW ps) (f := reP f) (E := fun w => match w with | .tup [x, e] => ((wpE (EnvC (tW (.all ps b)) m "letall") [8, 9]).set 8 (some x)).set 9 (some e) | _ => []) (fun R q => ?_) (by rw [pl]; have := w.1.2; omega) (fun w' hw S1 R r => ?_) (fun w' hw S1 k x q => ?_) fun i S1 x1 l1 at1 => ?_
  · exact q
  · obtain ⟨x, e, rfl, _⟩ := mem ps g.1 w.2.2.1 (by omega) w' hw
    exact ⟨rfl, ⟨rfl, r⟩⟩
  · obtain ⟨x', e, rfl, hx, ge, we, de⟩ := mem ps g.1 w.2.2.1 (by omega) w' hw
    show mTup _ [some _, some (.ref m), some _, none, none, none, none, none, some (.str x'), some (tW e)] S1 k
    simp only [mTup, mBin, mCB, mCons, mNil, mVar, lk]
    refine tb_at (x.at hS) (hT x' hx) ?_
    refine cd_call (x.at hS) ge we de hT fun S2 x2 => ⟨sz2, ?_⟩
    have := q S2 x2
    rw [show reP f (.tup [.str x', tW e]) = .tup [.str (f x'), reW f (tW e)] from rfl, reW_tW we] at this
    exact this
  · rw [reP_ps ps w.2.2.1] at at1
    refine ret_ok ?_
    simp only [mTup, mBin, mCB, mCons, mNil, mVar, mC, lk, List.set]
    refine tup_at at1 ?_
    show conR (CalledC n) [tW b, .ref m] S1 _
    refine cd_call (x1.at hS) g.2 w.2.2.2 (by omega) hT fun S2 x2 => ⟨sz3, k S2 (x1.trans x2)⟩
theorem fun_ok {x : Str} {t : T} (hS : S[m]? = some (.dK kv)) (hT : Tab kv ns f) (g : Good ns (.fn x t)) (w : WF (.fn x t)) (hd : deep (.fn x t) ≤ n + 1) (k : ∀ S', Ex S S' → D.rt (tW (ren f (.fn x t))) S') : funE (CalledC n) D (EnvC (tW (.fn x t)) m "fun") S := by
  have hd : 1 + deep t ≤ n + 1 := hd
  unfold funE
  refine ret_ok ?_
  simp only [mTup, mCons, mNil, mBin, mCB, mVar, mC, lk, tW]
  refine ix_tup rfl (tb_at hS (hT x g.1) ⟨sz2, ?_⟩)
  refine comp_tup (l := [tW t]) (f := reW f) (E := fun w' => (wpE (EnvC (.tup [.str "fun", .str x, tW t]) m "fun") [7]).set 7 (some w')) (fun R q => q) (by show 1 ≤ 5000; decide) (fun w' hw S1 R r => r) (fun w' hw S1 k x q => ?_) fun i S1 x1 l1 at1 => ?_
  · obtain rfl := List.mem_singleton.mp hw
    show conR (CalledC n) [tW t, .ref m] S1 k
    refine cd_call (x.at hS) g.2 w.2 (by omega) hT fun S2 x2 => ?_
    have := q S2 x2
    rw [reW_tW w.2] at this
    exact this
  · refine tup_at at1 ?_
    rw [List.map_cons, List.map_nil, reW_tW w.2]
    exact ⟨by show 2 + 1 ≤ sizeLine; decide, k S1 x1⟩
theorem let_ok {y x : Str} {t b : T} (hy : y = "let" ∨ y = "now") (hS : S[m]? = some (.dK kv)) (hT : Tab kv ns f) (g : Good ns (.lt y x t b)) (w : WF (.lt y x t b)) (hd : deep (.lt y x t b) ≤ n + 1) (k : ∀ S', Ex S S' → D.rt (tW (ren f (.lt y x t b))) S') : funE (CalledC n) D (EnvC (tW (.lt y x t b)) m y) S := by
  have hd : 1 + max (deep t) (deep b) ≤ n + 1 := hd
  have hm1 := Nat.le_max_left (deep t) (deep b)
  have hm2 := Nat.le_max_right (deep t) (deep b)
  unfold funE
  refine ret_ok ?_
  simp only [mTup, mCons, mNil, mBin, mCB, mVar, mC, lk, tW]
  refine ix_tup rfl (tb_at hS (hT x g.2.1) ⟨sz2, ?_⟩)
  refine comp_tup (l := [tW t, tW b]) (f := reW f) (E := fun w' => (wpE (EnvC (.tup [.str y, .str x, tW t, tW b]) m y) [7]).set 7 (some w')) (fun R q => q) (by show 2 ≤ 5000; decide) (fun w' hw S1 R r => r) (fun w' hw S1 k x q => ?_) fun i S1 x1 l1 at1 => ?_
  · have hw : w' = tW t ∨ w' = tW b := by simpa using hw
    rcases hw with rfl | rfl
    · show conR (CalledC n) [tW t, .ref m] S1 k
      refine cd_call (x.at hS) g.2.2.1 w.2.2.1 (by omega) hT fun S2 x2 => ?_
      have := q S2 x2
      rw [reW_tW w.2.2.1] at this
      exact this
    · show conR (CalledC n) [tW b, .ref m] S1 k
      refine cd_call (x.at hS) g.2.2.2 w.2.2.2 (by omega) hT fun S2 x2 => ?_
      have := q S2 x2
      rw [reW_tW w.2.2.2] at this
      exact this
  · refine tup_at at1 ?_
    rw [List.map_cons, List.map_cons, List.map_nil, reW_tW w.2.2.1, reW_tW w.2.2.2]
    exact ⟨by show 2 + 2 ≤ sizeLine; decide, k S1 x1⟩
theorem nam_ok {y : Str} {xs : List Str} (hl : xs.length ≤ 3) (hS : S[m]? = some (.dK kv)) (hT : Tab kv ns f) (hx : ∀ x ∈ xs, x ∈ ns) (k : ∀ S', Ex S S' → D.rt (.tup (.str y :: (xs.map f).map W.str)) S') : namE D (EnvC (.tup (.str y :: xs.map W.str)) m y) S := by
  unfold namE
  refine ret_ok ?_
  simp only [mTup, mCons, mNil, mBin, mVar, mC, lk]
  refine ⟨sz1, ?_⟩
  refine names_ok (m := m) (f := f) (ns := ns) (kv := kv) (i := 0) (xs := xs) (fun R q => ?_) (by omega) hx hS hT (fun w => rfl) (fun w => rfl) fun S1 x1 => ?_
  · have e : cutG (W.str y :: xs.map W.str) (some 1) none = xs.map W.str := by
      match xs, hl with
      | [], _ => rfl
      | [a], _ => rfl
      | [a, b], _ => rfl
      | [a, b, c], _ => rfl
    show R (.tup (cutG (W.str y :: xs.map W.str) (some 1) none)) S
    rw [e]
    exact q
  · refine ⟨?_, k S1 x1⟩
    rw [List.length_map, List.length_map]
    exact Nat.le_trans (show 1 + xs.length ≤ 4 by omega) (by decide)
end
end Ev06

set_option Elab.async false
set_option linter.all false
set_option maxRecDepth 100000
set_option maxHeartbeats 1000000
/-! _law_called: the lines; the whole; _law_but. -/
namespace Ev06
open PySem PySem.Spec PyProof.Rows L2 Ow Ev OwT EvT Ev05
theorem Ex.put {S0 S : Store} {n : Nat} {o : O} (h : Ex S0 S) (hn : S0.length ≤ n) : Ex S0 (S.set n o) := by
  obtain ⟨more, rfl⟩ := h
  exact ⟨more.set (n - S0.length) o, List.set_append_right _ _ hn⟩
theorem set_other {S : Store} {n m : Nat} {u v : O} (h : S[m]? = some v) (hn : m ≠ n) : (S.set n u)[m]? = some v := by
  rw [List.getElem?_set_ne (fun z => hn z.symm)]
  exact h
theorem isl_at {S : Store} {n : Nat} {l : List W} (h : S[n]? = some (.lst l)) : isLst (.ref n) S := by
  show oL S[n]? _
  rw [h]
  trivial
theorem apd_at {S : Store} {n : Nat} {l : List W} {w : W} {Q : WK} (h : S[n]? = some (.lst l)) (hl : l.length < sizeLine) (q : Q .non (S.set n (.lst (l ++ [w])))) : wAppend (.ref n) [w] S Q := by
  show oL S[n]? _
  rw [h]
  exact ⟨hl, q⟩
section
variable {S : Store} {D : MD} {m n : Nat} {f : Str → Str} {ns : List Str} {kv : List (Key × W)} {a : W} {S0 : Store} {L : Nat} {y : Str}
theorem by_loop (hL : S0.length ≤ L) (hm : S0[m]? = some (.dK kv)) (hT : Tab kv ns f) : ∀ (bs : Bs) (acc : List W) (S : Store) (e5 e6 e7 : Option W), GoodBs ns bs → WFb bs → deepBs bs ≤ n → Ex S0 S → S[L]? = some (.lst acc) → acc.length + (headsB bs).length ≤ 100 →
    (∀ S' e5 e6 e7, Ex S0 S' → S'[L]? = some (.lst (acc ++ bW (renBs f bs))) → D.nx [some a, some (.ref m), some (.str y), none, some (.ref L), e5, e6, e7, none, none] S') →
    forL (fun _ => True) (mgTup 3 (mgCons (mgName 5) (mgCons (mgName 6) (mgCons (mgName 7) mgNil)))) (byB (CalledC n)) D (bW bs) [some a, some (.ref m), some (.str y), none, some (.ref L), e5, e6, e7, none, none] S
  | .nil, acc, S, e5, e6, e7, _, _, _, x, at1, _, k => ⟨trivial, k S e5 e6 e7 x (by rw [show bW (renBs f .nil) = [] from rfl, List.append_nil]; exact at1)⟩
  | .cons c ys e r, acc, S, e5, e6, e7, g, w, hd, x, at1, hl, k => by
    have hd : max (deep e) (deepBs r) ≤ n := hd
    have h1 := Nat.le_max_left (deep e) (deepBs r)
    have h2 := Nat.le_max_right (deep e) (deepBs r)
    have hl : acc.length + ((headsB r).length + 1) ≤ 100 := hl
    refine ⟨trivial, rfl, ?_⟩
    simp only [mgCons, mgNil, mgName, List.set]
    refine ⟨trivial, ?_⟩
    unfold byB mBM
    simp only [mDrop, mTup, mBin, mCons, mNil, mVar, lk]
    refine ⟨isl_at at1, ?_⟩
    refine tb_at (x.at hm) (hT c g.1) ?_
    refine names_ok (m := m) (f := f) (ns := ns) (kv := kv) (i := 0) (xs := ys) (fun R q => q) (by have := g.2.2.1; omega) g.2.1 (x.at hm) hT (fun w => rfl) (fun w => rfl) fun S1 x1 => ?_
    simp only [mCB, mCons, mNil, mVar, lk]
    refine cd_call ((x.trans x1).at hm) g.2.2.2.1 w.2.2.1 (by omega) hT fun S2 x2 => ⟨sz3, ?_⟩
    have at2 := (x1.trans x2).at at1
    refine apd_at at2 (Nat.lt_of_le_of_lt (show acc.length ≤ 100 by omega) (by decide)) ?_
    refine by_loop hL hm hT r _ _ _ _ _ g.2.2.2.2 w.2.2.2 (by omega) (Ex.put ((x.trans x1).trans x2) hL) (get_set at2) (by rw [List.length_append, List.length_singleton]; omega) fun S' e5 e6 e7 x' at' => ?_
    refine k S' e5 e6 e7 x' ?_
    rw [at', List.append_assoc]
    rfl
theorem by_ok {x : Str} {bs : Bs} (hS : S[m]? = some (.dK kv)) (hT : Tab kv ns f) (g : Good ns (.by_ x bs)) (w : WF (.by_ x bs)) (hd : deep (.by_ x bs) ≤ n + 1) (k : ∀ S', Ex S S' → D.rt (tW (ren f (.by_ x bs))) S') : byE (CalledC n) D (EnvC (tW (.by_ x bs)) m "by") S := by
  have hd : 1 + deepBs bs ≤ n + 1 := hd
  unfold byE
  refine sa (i := 4) ?_
  simp only [mLst, mNil]
  refine ⟨sz0, ?_⟩
  simp only [List.set]
  refine seq_ok ?_
  unfold mFor mIt
  simp only [mBin, mVar, mC, lk, tW]
  refine ix_tup rfl ?_
  have x0 : Ex S (S ++ [O.lst []]) := Ex.one
  refine by_loop (S0 := S) (L := S.length) (n := n) (Nat.le_refl _) hS hT bs [] _ none none none g.2 w.2.2.2 (by omega) x0 (new_at S _) (by have := w.2.1.2; show 0 + _ ≤ 100; omega) fun S' e5 e6 e7 x' at' => ?_
  dsimp only
  refine ret_ok ?_
  simp only [mTup, mBin, mCB, mCons, mNil, mVar, mC, lk]
  refine ix_tup rfl (tb_at (x'.at hS) (hT x g.1) ?_)
  refine tup_at at' ⟨sz3, k S' x'⟩
end
theorem vd_called {n : Nat} {CT : Con} (hC : ∀ e, n = e + 1 → CT = CalledC e) : Vc 10 (m_x_law_called CT) (CalledC n) := fun (t, m, f, ns, kv) ws S ⟨e, hS, g, w, hd, hT⟩ => by
  subst e
  show m_x_law_called _ _ [some (tW t), some (.ref m), none, none, none, none, none, none, none, none] S
  have fin : ∀ S', Ex S S' → (CalledC n).post (t, m, f, ns, kv) S (tW (ren f t)) S' := fun S' x => ⟨rfl, x⟩
  rw [called_eq]
  refine sa (i := 2) ?_
  simp only [mBin, mVar, mC, lk]
  have dp : ∀ t : T, 1 ≤ deep t := fun t => by cases t <;> first | exact Nat.le_refl 1 | (show 1 ≤ 1 + _; omega)
  obtain ⟨e, rfl⟩ : ∃ e, n = e + 1 := ⟨n - 1, by have := dp t; omega⟩
  obtain rfl := hC e rfl
  cases t with
  | num i =>
    refine ix_tup rfl ?_
    exact if_yes rfl rfl (ret_ok (fin S Ex.refl))
  | nam x =>
    refine ix_tup rfl ?_
    refine if_no rfl (by decide +kernel) (if_no rfl (by decide +kernel) (if_no rfl (by decide +kernel) (if_no rfl (by decide +kernel) (in_no rfl (by decide +kernel) fun S1 x1 => ?_))))
    exact nam_ok (xs := [x]) (by show 1 ≤ 3; decide) (x1.at hS) hT (fun z hz => by rw [List.mem_singleton.mp hz]; exact g) fun S2 x2 => fin S2 (x1.trans x2)
  | fn x b =>
    refine ix_tup rfl ?_
    refine if_no rfl (by decide +kernel) (if_no rfl (by decide +kernel) (if_no rfl (by decide +kernel) (if_no rfl (by decide +kernel) (in_yes rfl (by decide +kernel) fun S1 x1 => ?_))))
    exact fun_ok (x1.at hS) hT g w hd fun S2 x2 => fin S2 (x1.trans x2)
  | two z x y =>
    have hz := isTwo w.1
    have n1 : z ≠ "num" := by rcases hz with rfl | rfl | rfl | rfl | rfl <;> decide +kernel
    have n2 : z ≠ "made" := by rcases hz with rfl | rfl | rfl | rfl | rfl <;> decide +kernel
    have n3 : z ≠ "letall" := by rcases hz with rfl | rfl | rfl | rfl | rfl <;> decide +kernel
    have n4 : z ≠ "by" := by rcases hz with rfl | rfl | rfl | rfl | rfl <;> decide +kernel
    have n5 : z ∉ f3 := by rcases hz with rfl | rfl | rfl | rfl | rfl <;> decide +kernel
    refine ix_tup rfl ?_
    refine if_no rfl n1 (if_no rfl n2 (if_no rfl n3 (if_no rfl n4 (in_no rfl n5 fun S1 x1 => ?_))))
    exact nam_ok (xs := [x, y]) (by show 2 ≤ 3; decide) (x1.at hS) hT (fun u hu => by
      have hu : u = x ∨ u = y := by simpa using hu
      rcases hu with rfl | rfl
      · exact g.2.1
      · exact g.2.2) fun S2 x2 => fin S2 (x1.trans x2)
  | lt z x a b =>
    have hz := w.1
    have n1 : z ≠ "num" := by rcases hz with rfl | rfl <;> decide +kernel
    have n2 : z ≠ "made" := by rcases hz with rfl | rfl <;> decide +kernel
    have n3 : z ≠ "letall" := by rcases hz with rfl | rfl <;> decide +kernel
    have n4 : z ≠ "by" := by rcases hz with rfl | rfl <;> decide +kernel
    have n5 : z ∈ f3 := by rcases hz with rfl | rfl <;> decide +kernel
    refine ix_tup rfl ?_
    refine if_no rfl n1 (if_no rfl n2 (if_no rfl n3 (if_no rfl n4 (in_yes rfl n5 fun S1 x1 => ?_))))
    exact let_ok hz (x1.at hS) hT g w hd fun S2 x2 => fin S2 (x1.trans x2)
  | all ps b =>
    refine ix_tup rfl ?_
    refine if_no rfl (by decide +kernel) (if_no rfl (by decide +kernel) (if_yes rfl rfl ?_))
    exact all_ok hS hT g w hd fin
  | mk c xs =>
    refine ix_tup rfl ?_
    refine if_no rfl (by decide +kernel) (if_yes rfl rfl ?_)
    exact made_ok hS hT g.1 g.2.1 w.2.1 fin
  | by_ x bs =>
    refine ix_tup rfl ?_
    refine if_no rfl (by decide +kernel) (if_no rfl (by decide +kernel) (if_no rfl (by decide +kernel) (if_yes rfl rfl ?_)))
    exact by_ok hS hT g w hd fin
/-! ### _law_but -/
abbrev ButC : Con := ⟨T × Nat × List Str × List Str, fun (t, m, own, fs) ws S => ws = [tW t, .ref m] ∧ S[m]? = some (.lst (own.map W.str)) ∧ WF t ∧ nodes t ≤ 300 ∧ fs.length < 64 ∧ ∀ k, Free k t → k ∈ fs,
  fun (t, m, own, fs) S w S' => ∃ (n : Nat) (ys : List Str), w = .ref n ∧ Ex S S' ∧ S.length ≤ n ∧ S'[n]? = some (.lst (ys.map W.str)) ∧ ys.length ≤ fs.length ∧ ∀ k, k ∈ ys ↔ Free k t ∧ k ∉ own⟩
theorem nodup_len {a b : List Str} (h : a.Nodup) (k : ∀ x ∈ a, x ∈ b) : a.length ≤ b.length := nodup_sub a b h k
theorem filter_strs (own : List Str) (t : W → Bool) (ht : ∀ x : Str, t (.str x) = !decide (x ∈ own)) (ys : List Str) : ((ys.map W.str).filter t).map id = (ys.filter fun x => !decide (x ∈ own)).map W.str := by
  rw [List.map_id, List.filter_map]
  congr 1
  exact List.filter_congr fun x _ => ht x
theorem vd_but : Vc 3 (m_x_law_but FreeC) ButC := fun (t, m, own, fs) ws S ⟨e, hm, w, hn, h64, hf⟩ => by
  subst e
  show m_x_law_but _ _ [some (tW t), some (.ref m), none] S
  unfold m_x_law_but
  refine ret_ok ?_
  have call : ∀ R : WK, (∀ (n : Nat) (ys : List Str) (S' : Store), Ex S S' → S.length ≤ n → S'[n]? = some (.lst (ys.map W.str)) → ys.Nodup → (∀ k, k ∈ ys ↔ Free k t) → R (.ref n) S') → (mCB (conR FreeC) (mCons (mVar 0) mNil)) [some (tW t), some (.ref m), none] S R := fun R k => by
    simp only [mCB, mCons, mNil, mVar, lk]
    exact ⟨t, ⟨rfl, w, hn, fs, h64, hf⟩, fun w' S' ⟨n, ys, e, a, b, c, d, _, f⟩ => by rw [e]; exact k n ys S' a b c d f⟩
  show mLc (mIt (mCB (conR FreeC) (mCons (mVar 0) mNil))) (mgName 2) (mTest (mBin wNotIn (mVar 2) (mVar 1))) (mVar 2) [2] [some (tW t), some (.ref m), none] S _
  unfold mLc mIt
  refine call _ fun n ys S1 x1 l1 at1 nd mem => ?_
  have key := comp_lst (i := n) (l := ys.map W.str) (t := fun w => match w with | .str x => !decide (x ∈ own) | _ => false) (f := id) (E := fun w' => [some (tW t), some (.ref m), some w']) (m := fun e S R => R (.ref n) S) (te := mVar 2) (tt := mTest (mBin wNotIn (mVar 2) (mVar 1))) (mg := mgName 2) (vs := [2]) (env := [some (tW t), some (.ref m), none]) (S := S1) (S0 := S1)
    (Q := fun w S' => ButC.post (t, m, own, fs) S w S') (fun R q => q) at1 (by have := nodup_len nd fun x hx => hf x ((mem x).mp hx); rw [List.length_map]; omega) (fun w' hw S2 R r => r) (fun w' hw S2 k x q => ?_) (fun w' hw _ S2 k x q => q S2 Ex.refl) fun n2 S2 x2 l2 at2 => ?_
  · exact key
  · obtain ⟨z, _, rfl⟩ := List.mem_map.mp hw
    simp only [mTest, mBin, mVar, lk]
    refine wIn_strsL (x.at (x1.at hm)) ?_
    rw [Bool.true_xor]
    exact q S2 Ex.refl
  · rw [filter_strs own _ (fun x => rfl)] at at2
    refine ⟨n2, _, rfl, x1.trans x2, Nat.le_trans x1.len l2, at2, ?_, fun k => ?_⟩
    · have h1 := nodup_len nd fun x hx => hf x ((mem x).mp hx)
      have h2 := List.length_filter_le (fun x => !decide (x ∈ own)) ys
      omega
    · rw [List.mem_filter, mem]
      simp
end Ev06

set_option Elab.async false
set_option linter.all false
set_option maxRecDepth 100000
set_option maxHeartbeats 1000000
namespace Ev05
open PySem PySem.Spec PyProof.Rows L2 Ow Ev OwT EvT
/-! ### is_program -/
def isP (x : W) : Prop := ∃ t, x = tW t ∧ WF t ∧ nodes t ≤ 300 ∧ deep t ≤ 60 ∧ ∀ k, ¬ Free k t
def IsPC (Z : List Str) : Con := ⟨W, fun x ws S => ws = [x] ∧ dat S x ∧ TX Z x, fun x S w S' => ∃ b, w = .bl b ∧ (b = true ↔ isP x) ∧ Ex S S'⟩
theorem isT_call {x : W} {S : Store} {Q : WK} (h : dat S x) (q : ∀ b S', (b = true ↔ isT x) → Ex S S' → Q (.bl b) S') : conR IsTC [x] S Q :=
  ⟨x, ⟨rfl, h⟩, fun w S' ⟨b, e, a, c⟩ => by rw [e]; exact q b S' a c⟩
theorem isP_call {Z : List Str} {x : W} {S : Store} {Q : WK} (h : dat S x) (z : TX Z x) (q : ∀ b S', (b = true ↔ isP x) → Ex S S' → Q (.bl b) S') : conR (IsPC Z) [x] S Q :=
  ⟨x, ⟨rfl, h, z⟩, fun w S' ⟨b, e, a, c⟩ => by rw [e]; exact q b S' a c⟩
theorem free_call {t : T} {S : Store} {Q : WK} (wt : WF t) (sz : nodes t ≤ 300) {fs : List Str} (hfs : fs.length < 64) (hf : ∀ k, Free k t → k ∈ fs)
    (q : ∀ (n : Nat) (ys : List Str) (S' : Store), Ex S S' → S.length ≤ n → S'[n]? = some (.lst (ys.map W.str)) → (∀ k, k ∈ ys ↔ Free k t) → Q (.ref n) S') : conR FreeC [tW t] S Q :=
  ⟨t, ⟨rfl, wt, sz, fs, hfs, hf⟩, fun w S' ⟨n, ys, e, a, b, c, _, _, d⟩ => by rw [e]; exact q n ys S' a b c d⟩
theorem isP_of {x : W} (h : isP x) : isT x := let ⟨t, a, b, c, d, _⟩ := h; ⟨t, a, b, c, d⟩
theorem vc_is_program {Z : List Str} (hZ : Z.length < 64) {x : W} {S : Store} {D : MD} (h : dat S x) (z : TX Z x) (q : ∀ b S', (b = true ↔ isP x) → Ex S S' → D.rt (.bl b) S') : m_is_program IsTC FreeC D [some x] S := by
  unfold m_is_program
  simp only [mSeq, mIfS, mRet, mRetN, mAsg, mDrop, mTest, mBin, mChain, mTru, mAnd, mOr, mNot, mAndV, mOrV, mNotV, mIf, mVar, mC, mCons, mNil, mTup, mLst, mCB, mgName, mNext, mIt, mPar, mAug, lk, wLen_tup, wLe_int, wLt_int, wGt_int, wEq_int, wNe_int, wEq_str, wNe_str, wIx_tup, wAt0, wAt1, wAt2, wAt3, oW_s, tru_bl, List.set]
  refine isT_call h fun b S1 hb h1 => ?_
  refine ifB (fun e => ?_) fun e => ?_
  · subst e
    obtain ⟨t, rfl, w, hn, hd⟩ := hb.mp rfl
    refine free_call w hn hZ (fun k hk => free_tx t z hk) fun n ys S2 h2 l2 a2 m2 => ?_
    refine len_seq (l := ys.map W.str) (by unfold seqW; dsimp only; rw [a2]) ?_
    rw [wEq_int, List.length_map]
    refine q _ S2 ?_ (h1.trans h2)
    rw [decide_eq_true_iff]
    constructor
    · intro e
      have e0 : ys = [] := List.eq_nil_of_length_eq_zero (by omega)
      subst e0
      exact ⟨t, rfl, w, hn, hd, fun k hk => by cases (m2 k).mpr hk⟩
    · rintro ⟨u, eu, wu, _, _, fu⟩
      obtain rfl := tW_inj t u w wu eu
      cases ys with
      | nil => rfl
      | cons y ys => exact absurd ((m2 y).mp List.mem_cons_self) (fu y)
  · subst e
    exact q false S1 ⟨(fun z => by cases z), fun z => absurd (hb.mpr (isP_of z)) (by decide)⟩ h1
end Ev05

set_option Elab.async false
set_option linter.all false
set_option maxRecDepth 100000
set_option maxHeartbeats 1000000
/-! A thing otherwise called. -/
namespace Ev05
open PySem PySem.Spec PyProof.Rows L2 Ow Ev OwT EvT
mutual
/-- tuples, numbers and texts of Z -/
def okW (Z : List Str) : W → Prop
  | .str x => x ∈ Z
  | .int _ => True
  | .tup l => l.length ≤ 100 ∧ oks Z l
  | _ => False
def oks (Z : List Str) : List W → Prop
  | [] => True
  | w :: l => okW Z w ∧ oks Z l
end
mutual
def toD : W → PyData
  | .str x => .str x
  | .int i => .int i
  | .tup l => .tuple (toDs l)
  | _ => .none
def toDs : List W → List PyData
  | [] => []
  | w :: l => toD w :: toDs l
end
mutual
theorem ok_dw {Z : List Str} {S : Store} : ∀ (w : W), okW Z w → DW S w (toD w)
  | .str x, _ => .str x
  | .int i, _ => .int i
  | .tup l, h => .tup (oks_dw l h.2)
theorem oks_dw {Z : List Str} {S : Store} : ∀ (l : List W), oks Z l → DWs S l (toDs l)
  | [], _ => .nil
  | w :: l, h => .cons (ok_dw w h.1) (oks_dw l h.2)
end
mutual
theorem ok_lay {Z : List Str} (hz : ∀ x ∈ Z, Lo x) : ∀ (w : W), okW Z w → PyData.canLay0 (toD w) = true ∧ (toD w).depth ≤ lay w
  | .str x, h => by
    refine ⟨?_, Nat.zero_le _⟩
    have := lay_strs [x] (fun y hy => by rw [List.mem_singleton.mp hy]; exact hz x h)
    show PyData.canLay0 (.str x) = true
    simpa [PyData.canLayAll0] using this
  | .int i, _ => ⟨by first | rfl | simp [toD, PyData.canLay0], Nat.zero_le _⟩
  | .tup l, h => by
    obtain ⟨a, b⟩ := oks_lay hz l h.2
    refine ⟨?_, ?_⟩
    · show PyData.canLay0 (.tuple (toDs l)) = true
      unfold PyData.canLay0
      exact a
    · show PyData.depth (.tuple (toDs l)) ≤ 1 + lays l
      unfold PyData.depth
      omega
theorem oks_lay {Z : List Str} (hz : ∀ x ∈ Z, Lo x) : ∀ (l : List W), oks Z l → PyData.canLayAll0 (toDs l) = true ∧ PyData.depthAll (toDs l) ≤ lays l
  | [], _ => ⟨by simp [toDs, PyData.canLayAll0], by simp [toDs, PyData.depthAll]⟩
  | w :: l, h => by
    obtain ⟨a, b⟩ := ok_lay hz w h.1
    obtain ⟨c, d⟩ := oks_lay hz l h.2
    refine ⟨?_, ?_⟩
    · show PyData.canLayAll0 (toD w :: toDs l) = true
      simp [PyData.canLayAll0, a, c]
    · show PyData.depthAll (toD w :: toDs l) ≤ max (lay w) (lays l)
      simp only [PyData.depthAll]
      omega
end
theorem eq_tnil {Z : List Str} (hz : ∀ x ∈ Z, Lo x) {l : List W} {S : Store} {Q : WK} (h : okW Z (.tup l)) (hl : lay (.tup l) ≤ 64) (q : Q (.bl l.isEmpty) S) : wEq (.tup l) (.tup []) S Q := by
  obtain ⟨a, b⟩ := ok_lay hz (.tup l) h
  refine ⟨toD (.tup l), .tuple [], ok_dw _ h, .tup .nil, ?_, by decide, ?_⟩
  · unfold SeqAt.shaped
    rw [a, decide_eq_true (Nat.le_trans b hl)]
    rfl
  · show Q (.bl (false ^^ PyData.eqv (.tuple (toDs l)) (.tuple []))) S
    rw [eqv_tnil, Bool.false_xor]
    cases l with
    | nil => exact q
    | cons w l => exact q
theorem oks_mem {Z : List Str} : ∀ {l : List W}, oks Z l → ∀ w ∈ l, okW Z w
  | w :: l, h, x, hx => by
    rcases List.mem_cons.mp hx with rfl | hx
    · exact h.1
    · exact oks_mem h.2 x hx
theorem oks_of {Z : List Str} : ∀ {l : List W}, (∀ w ∈ l, okW Z w) → oks Z l
  | [], _ => trivial
  | w :: l, h => ⟨h w List.mem_cons_self, oks_of fun x hx => h x (List.mem_cons_of_mem _ hx)⟩
theorem lay_mem : ∀ {l : List W}, ∀ w ∈ l, lay w ≤ lays l
  | w :: l, x, hx => by
    show lay x ≤ max (lay w) (lays l)
    rcases List.mem_cons.mp hx with rfl | hx
    · exact Nat.le_max_left _ _
    · exact Nat.le_trans (lay_mem x hx) (Nat.le_max_right _ _)
theorem cut_to {l : List W} {k : Nat} : cutG l none (some (k : Int)) = l.take (min k l.length) := by
  unfold cutG
  rw [HT.sIx_none, HT.sIx_nat]
  simp
theorem cut_from {l : List W} {k : Nat} : cutG l (some (k : Int)) none = l.drop (min k l.length) := by
  unfold cutG
  rw [HT.sIx_none, HT.sIx_nat]
  rw [List.take_of_length_le (by rw [List.length_drop]; exact Nat.le_refl _)]
def OtherC (Z : List Str) (n : Nat) : Con := ⟨Nat × W × Str, fun (p, x, y) ws S => ws = [.ref p, x, .str y] ∧ FdS S p ∧ okW Z x ∧ lay x ≤ n ∧ y ∈ Z, fun (p, x, y) S w S' => okW Z w ∧ Fx [p] S S' ∧ FdS S' p⟩
theorem other_call {Z : List Str} {n p : Nat} {x : W} {y : Str} {S : Store} {Q : WK} (h : FdS S p) (hx : okW Z x) (hl : lay x ≤ n) (hy : y ∈ Z) (q : ∀ w S', okW Z w → Fx [p] S S' → FdS S' p → Q w S') : conR (OtherC Z n) [.ref p, x, .str y] S Q :=
  ⟨(p, x, y), ⟨rfl, h, hx, hl, hy⟩, fun w S' ⟨a, b, c⟩ => q w S' a b c⟩
mutual
theorem ok_dat {Z : List Str} (hlen : ∀ x ∈ Z, x.length ≤ sizeLine) {S : Store} : ∀ (w : W), okW Z w → dat S w
  | .str x, h => hlen x h
  | .int _, _ => trivial
  | .tup l, h => ⟨Nat.le_trans h.1 (by decide), oks_dat hlen l h.2⟩
theorem oks_dat {Z : List Str} (hlen : ∀ x ∈ Z, x.length ≤ sizeLine) {S : Store} : ∀ (l : List W), oks Z l → dats S l
  | [], _ => trivial
  | w :: l, h => ⟨ok_dat hlen w h.1, oks_dat hlen l h.2⟩
end
theorem wAdd_tup {a b : List W} {S : Store} {Q : WK} (h : a.length + b.length ≤ sizeLine) (q : Q (.tup (a ++ b)) S) : wAdd (.tup a) (.tup b) S Q := ⟨h, q⟩
theorem vc_other {Z : List Str} {n p : Nat} {x : W} {y : Str} {S : Store} {D : MD} (hz : ∀ x ∈ Z, Lo x) (hlen : ∀ x ∈ Z, x.length ≤ sizeLine) {CO : Con} (hO : ∀ m, n = m + 1 → ∀ ws S Q, conR (OtherC Z m) ws S Q → conR CO ws S Q) (h64 : n ≤ 64) (h : FdS S p) (hx : okW Z x) (hl : lay x ≤ n) (hy : y ∈ Z) (q : ∀ w S', okW Z w → Fx [p] S S' → FdS S' p → D.rt w S') :
    m_x_law_otherwise TakeC CO D [some (.ref p), some x, some (.str y), none] S := by
  have e100 : 100 ≤ sizeLine := by decide
  unfold m_x_law_otherwise
  cases x with
  | str z =>
    simp only [mSeq, mIfS, mRet, mRetN, mAsg, mDrop, mTest, mBin, mChain, mTru, mAnd, mOr, mNot, mAndV, mOrV, mNotV, mIf, mVar, mC, mCons, mNil, mTup, mLst, mCB, mgName, mNext, mIt, mPar, mAug, lk, wLen_tup, wLe_int, wLt_int, wGt_int, wEq_int, wNe_int, wEq_str, wNe_str, wIx_tup, wAt0, wAt1, wAt2, wAt3, oW_s, tru_bl, List.set]
    refine isi_str (hlen z hx) ?_
    simp only [mSeq, mIfS, mRet, mRetN, mAsg, mDrop, mTest, mBin, mChain, mTru, mAnd, mOr, mNot, mAndV, mOrV, mNotV, mIf, mVar, mC, mCons, mNil, mTup, mLst, mCB, mgName, mNext, mIt, mPar, mAug, lk, wLen_tup, wLe_int, wLt_int, wGt_int, wEq_int, wNe_int, wEq_str, wNe_str, wIx_tup, wAt0, wAt1, wAt2, wAt3, oW_s, tru_bl, List.set]
    exact ifB (fun _ => q _ S hy Fx.refl h) fun e => by cases e
  | int i =>
    simp only [mSeq, mIfS, mRet, mRetN, mAsg, mDrop, mTest, mBin, mChain, mTru, mAnd, mOr, mNot, mAndV, mOrV, mNotV, mIf, mVar, mC, mCons, mNil, mTup, mLst, mCB, mgName, mNext, mIt, mPar, mAug, lk, wLen_tup, wLe_int, wLt_int, wGt_int, wEq_int, wNe_int, wEq_str, wNe_str, wIx_tup, wAt0, wAt1, wAt2, wAt3, oW_s, tru_bl, List.set]
    refine isi_str (w := .int i) trivial ?_
    simp only [mSeq, mIfS, mRet, mRetN, mAsg, mDrop, mTest, mBin, mChain, mTru, mAnd, mOr, mNot, mAndV, mOrV, mNotV, mIf, mVar, mC, mCons, mNil, mTup, mLst, mCB, mgName, mNext, mIt, mPar, mAug, lk, wLen_tup, wLe_int, wLt_int, wGt_int, wEq_int, wNe_int, wEq_str, wNe_str, wIx_tup, wAt0, wAt1, wAt2, wAt3, oW_s, tru_bl, List.set]
    refine ifB (fun e => by cases e) fun _ => ?_
    refine isi_tup (w := .int i) trivial ?_
    simp only [mSeq, mIfS, mRet, mRetN, mAsg, mDrop, mTest, mBin, mChain, mTru, mAnd, mOr, mNot, mAndV, mOrV, mNotV, mIf, mVar, mC, mCons, mNil, mTup, mLst, mCB, mgName, mNext, mIt, mPar, mAug, lk, wLen_tup, wLe_int, wLt_int, wGt_int, wEq_int, wNe_int, wEq_str, wNe_str, wIx_tup, wAt0, wAt1, wAt2, wAt3, oW_s, tru_bl, List.set]
    exact ifNB (fun _ => ifT (q _ S trivial Fx.refl h)) fun e => by cases e
  | tup l =>
    have hd : dat S (.tup l) := ok_dat hlen _ hx
    obtain ⟨hl100, ho⟩ := hx
    simp only [mSeq, mIfS, mRet, mRetN, mAsg, mDrop, mTest, mBin, mChain, mTru, mAnd, mOr, mNot, mAndV, mOrV, mNotV, mIf, mVar, mC, mCons, mNil, mTup, mLst, mCB, mgName, mNext, mIt, mPar, mAug, lk, wLen_tup, wLe_int, wLt_int, wGt_int, wEq_int, wNe_int, wEq_str, wNe_str, wIx_tup, wAt0, wAt1, wAt2, wAt3, oW_s, tru_bl, List.set]
    refine isi_str (w := .tup l) hd ?_
    simp only [mSeq, mIfS, mRet, mRetN, mAsg, mDrop, mTest, mBin, mChain, mTru, mAnd, mOr, mNot, mAndV, mOrV, mNotV, mIf, mVar, mC, mCons, mNil, mTup, mLst, mCB, mgName, mNext, mIt, mPar, mAug, lk, wLen_tup, wLe_int, wLt_int, wGt_int, wEq_int, wNe_int, wEq_str, wNe_str, wIx_tup, wAt0, wAt1, wAt2, wAt3, oW_s, tru_bl, List.set]
    refine ifB (fun e => by cases e) fun _ => ?_
    refine isi_tup (w := .tup l) hd ?_
    simp only [mSeq, mIfS, mRet, mRetN, mAsg, mDrop, mTest, mBin, mChain, mTru, mAnd, mOr, mNot, mAndV, mOrV, mNotV, mIf, mVar, mC, mCons, mNil, mTup, mLst, mCB, mgName, mNext, mIt, mPar, mAug, lk, wLen_tup, wLe_int, wLt_int, wGt_int, wEq_int, wNe_int, wEq_str, wNe_str, wIx_tup, wAt0, wAt1, wAt2, wAt3, oW_s, tru_bl, List.set]
    refine ifNB (fun e => by cases e) fun _ => ?_
    refine ⟨Nat.zero_le _, eq_tnil hz ⟨hl100, ho⟩ (Nat.le_trans hl h64) ?_⟩
    simp only [mSeq, mIfS, mRet, mRetN, mAsg, mDrop, mTest, mBin, mChain, mTru, mAnd, mOr, mNot, mAndV, mOrV, mNotV, mIf, mVar, mC, mCons, mNil, mTup, mLst, mCB, mgName, mNext, mIt, mPar, mAug, lk, wLen_tup, wLe_int, wLt_int, wGt_int, wEq_int, wNe_int, wEq_str, wNe_str, wIx_tup, wAt0, wAt1, wAt2, wAt3, oW_s, tru_bl, List.set]
    refine ifB (fun _ => q _ S ⟨hl100, ho⟩ Fx.refl h) fun e => ?_
    have l1 : 1 ≤ l.length := by
      cases l with
      | nil => cases e
      | cons => simp
    refine take_call h (by omega) (by omega) fun r S1 r0 r1 f1 fd1 => ?_
    have rest : ∀ j : Nat, j < l.length → mRet (mBin wAdd (mBin wAdd (mSl (mVar 1) mNoP (mP (mVar 3))) (mTup (mCons (mCB (conR CO) (mCons (mVar 0) (mCons (mBin wIx (mVar 1) (mVar 3)) (mCons (mVar 2) mNil)))) mNil))) (mSl (mVar 1) (mP (mBin wAdd (mVar 3) (mC (.int 1)))) mNoP)) D [some (.ref p), some (.tup l), some (.str y), some (.int j)] S1 := fun j hj => by
      obtain ⟨x, hxj⟩ : ∃ x, l[j]? = some x := ⟨_, List.getElem?_eq_getElem hj⟩
      have xm := List.mem_of_getElem? hxj
      have n1 : ∃ m, n = m + 1 := by
        have : lay (.tup l) = 1 + lays l := rfl
        exact ⟨n - 1, by omega⟩
      obtain ⟨m, hm⟩ := n1
      have lx : lay x ≤ m := by
        have a := lay_mem x xm
        have : lay (.tup l) = 1 + lays l := rfl
        omega
      simp only [mRet, mBin, mSl, mVar, mNoP, mP, lk, mTup, mCons, mNil, mCB, mC]
      rw [wSl_tup, cut_to, wIx_tup, wAt_nat (by omega), Int.toNat_natCast, hxj]
      simp only [oW]
      refine hO m hm _ _ _ (other_call fd1 (oks_mem ho x xm) lx hy fun v S2 hv f2 fd2 => ?_)
      have lt : (l.take (min j l.length)).length ≤ 100 := by
        rw [List.length_take]
        omega
      refine ⟨by show 1 ≤ sizeLine; decide, wAdd_tup (Nat.le_trans (show _ ≤ 101 by rw [List.length_singleton]; omega) (by decide)) ?_⟩
      show wSl (.tup l) (some ((j : Int) + 1)) none S2 fun y S3 => wAdd (.tup (l.take (min j l.length) ++ [v])) y S3 D.rt
      rw [show ((j : Int) + 1) = ((j + 1 : Nat) : Int) by omega, wSl_tup, cut_from]
      have l3 : (l.take (min j l.length) ++ [v] ++ l.drop (min (j + 1) l.length)).length ≤ 100 := by
        rw [List.length_append, List.length_append, List.length_take, List.length_drop, List.length_singleton]
        omega
      refine ⟨?_, q _ S2 ⟨l3, oks_of fun u hu => ?_⟩ (f1.trans f2) fd2⟩
      · rw [← List.length_append]
        exact Nat.le_trans l3 e100
      · rcases List.mem_append.mp hu with hu | hu
        · rcases List.mem_append.mp hu with hu | hu
          · exact oks_mem ho u (List.mem_of_mem_take hu)
          · rw [List.mem_singleton.mp hu]
            exact hv
        · exact oks_mem ho u (List.mem_of_mem_drop hu)
    rw [wEq_int]
    obtain ⟨k, rfl⟩ : ∃ k : Nat, r = k := ⟨r.toNat, by omega⟩
    have kl : k < l.length := by omega
    have last : mRet (mBin wAdd (mBin wAdd (mSl (mVar 1) mNoP (mP (mVar 3))) (mTup (mCons (mCB (conR CO) (mCons (mVar 0) (mCons (mBin wIx (mVar 1) (mVar 3)) (mCons (mVar 2) mNil)))) mNil))) (mSl (mVar 1) (mP (mBin wAdd (mVar 3) (mC (.int 1)))) mNoP)) D [some (.ref p), some (.tup l), some (.str y), some (.int ((l.length : Int) - 1))] S1 := by
      rw [show (l.length : Int) - 1 = ((l.length - 1 : Nat) : Int) by omega]
      exact rest (l.length - 1) (by omega)
    refine ifB (fun e0 => ?_) fun e0 => (if_neg (by decide)).mpr (rest k kl)
    obtain ⟨w0, h0⟩ : ∃ w, l[0]? = some w := ⟨_, List.getElem?_eq_getElem (by omega)⟩
    show oW (wAt l 0) _
    rw [wAt_nat (by decide), show (0 : Int).toNat = 0 from rfl, h0]
    simp only [oW]
    refine isi_str (ok_dat hlen _ (oks_mem ho w0 (List.mem_of_getElem? h0))) ?_
    simp only [tru_bl]
    refine ifB (fun e1 => ifB (fun e2 => ⟨trivial, last⟩) fun e2 => rest k kl) fun e1 => ?_
    exact (if_neg (by decide)).mpr (rest k kl)
  | _ => exact hx.elim
end Ev05

set_option Elab.async false
set_option linter.all false
set_option maxRecDepth 100000
set_option maxHeartbeats 1000000
/-! The law over programs: its things, its turns. -/
namespace OwT
open PySem PySem.Spec PyProof.Rows L2 Ow
mutual
theorem free_good' {ns : List Str} {k : Str} : ∀ t : T, Good ns t → Free k t → k ∈ ns
  | .num n, _, f => f.elim
  | .nam x, h, f => by cases f; exact h
  | .fn x e, h, f => free_good' e h.2 f.1
  | .two w x y, h, f => by
    rcases f with rfl | rfl
    · exact h.2.1
    · exact h.2.2
  | .lt w x e b, h, f => by
    rcases f with f | f
    · exact free_good' e h.2.2.1 f
    · exact free_good' b h.2.2.2 f.1
  | .all ps b, h, f => by
    rcases f.1 with f | f
    · exact free_goodPs' ps h.1 f
    · exact free_good' b h.2 f
  | .mk c xs, h, f => h.2.1 k f
  | .by_ x bs, h, f => by
    rcases f with rfl | f
    · exact h.1
    · exact free_goodBs' bs h.2 f
theorem free_goodPs' {ns : List Str} {k : Str} : ∀ ps : Ps, GoodPs ns ps → FreePs k ps → k ∈ ns
  | .nil, _, f => f.elim
  | .cons x e r, h, f => by
    rcases f with f | f
    · exact free_good' e h.2.1 f
    · exact free_goodPs' r h.2.2 f
theorem free_goodBs' {ns : List Str} {k : Str} : ∀ bs : Bs, GoodBs ns bs → FreeBs k bs → k ∈ ns
  | .nil, _, f => f.elim
  | .cons c ys e r, h, f => by
    rcases f with f | f
    · exact free_good' e h.2.2.2.1 f.1
    · exact free_goodBs' r h.2.2.2.2 f
end
end OwT
namespace Ev05
open PySem PySem.Spec PyProof.Rows L2 Ow Ev OwT EvT
structure OkZ (Z : List Str) : Prop where
  w13 : ∀ y ∈ w13, y ∈ Z
  c : ("c" : Str) ∈ Z
  d : ("d" : Str) ∈ Z
  q : ("qq" : Str) ∈ Z
  a : ("a" : Str) ∈ Z
  nm : ∀ x ∈ Z, isNm x = true
  len : Z.length < 64
def UnC (F : List Str → Con) : Con := ⟨(Z : List Str) × (F Z).α, fun a ws S => OkZ a.1 ∧ (F a.1).pre a.2 ws S, fun a S w S' => (F a.1).post a.2 S w S'⟩
theorem un_of {F : List Str → Con} {Z : List Str} {ws : List W} {S : Store} {Q : WK} (z : OkZ Z) (h : conR (F Z) ws S Q) : conR (UnC F) ws S Q := by
  obtain ⟨a, p, q⟩ := h
  exact ⟨⟨Z, a⟩, ⟨z, p⟩, q⟩
mutual
theorem ok_tx {Z : List Str} : ∀ (w : W), okW Z w → TX Z w
  | .str _, h => h
  | .int _, _ => trivial
  | .tup l, h => oks_tx l h.2
theorem oks_tx {Z : List Str} : ∀ (l : List W), oks Z l → TXs Z l
  | [], _ => trivial
  | w :: l, h => ⟨ok_tx w h.1, oks_tx l h.2⟩
end
theorem oks_strs {Z : List Str} {xs : List Str} (h : TXs Z (xs.map W.str)) : oks Z (xs.map W.str) := oks_of fun w hw => by
  obtain ⟨x, hx, rfl⟩ := List.mem_map.mp hw
  exact txs_strs h x hx
mutual
theorem ok_tW {Z : List Str} : ∀ (t : T), WF t → TX Z (tW t) → okW Z (tW t)
  | .num _, _, z => ⟨by show 2 ≤ 100; decide, z.1, trivial, trivial⟩
  | .nam _, _, z => ⟨by show 2 ≤ 100; decide, z.1, z.2.1, trivial⟩
  | .fn _ e, w, z => ⟨by show 3 ≤ 100; decide, z.1, z.2.1, ok_tW e w.2 z.2.2.1, trivial⟩
  | .two _ _ _, _, z => ⟨by show 3 ≤ 100; decide, z.1, z.2.1, z.2.2.1, trivial⟩
  | .lt _ _ e b, w, z => ⟨by show 4 ≤ 100; decide, z.1, z.2.1, ok_tW e w.2.2.1 z.2.2.1, ok_tW b w.2.2.2 z.2.2.2.1, trivial⟩
  | .all ps b, w, z => ⟨by show 3 ≤ 100; decide, z.1, ⟨by rw [pW_len]; have := w.1.2; omega, ok_pW ps w.2.2.1 z.2.1⟩, ok_tW b w.2.2.2 z.2.2.1, trivial⟩
  | .mk _ xs, w, z => ⟨by show 3 ≤ 100; decide, z.1, z.2.1, ⟨by rw [List.length_map]; have := w.2.1; omega, oks_strs z.2.2.1⟩, trivial⟩
  | .by_ _ bs, w, z => ⟨by show 3 ≤ 100; decide, z.1, z.2.1, ⟨by rw [bW_len]; have := w.2.1.2; omega, ok_bW bs w.2.2.2 z.2.2.1⟩, trivial⟩
theorem ok_pW {Z : List Str} : ∀ (ps : Ps), WFp ps → TXs Z (pW ps) → oks Z (pW ps)
  | .nil, _, _ => trivial
  | .cons _ e r, w, z => ⟨⟨by show 2 ≤ 100; decide, z.1.1, ok_tW e w.2.2.1 z.1.2.1, trivial⟩, ok_pW r w.2.2.2 z.2⟩
theorem ok_bW {Z : List Str} : ∀ (bs : Bs), WFb bs → TXs Z (bW bs) → oks Z (bW bs)
  | .nil, _, _ => trivial
  | .cons _ ys e r, w, z => ⟨⟨by show 3 ≤ 100; decide, z.1.1, ⟨by rw [List.length_map]; have := w.2.1.1; omega, oks_strs z.1.2.1⟩, ok_tW e w.2.2.1 z.1.2.2.1, trivial⟩, ok_bW r w.2.2.2 z.2⟩
end
theorem eqv_lnil : ∀ l : List PyData, PyData.eqv (.list l) (.list []) = l.isEmpty
  | [] => by simp [PyData.eqv, PyData.eqvAll]
  | _ :: _ => by simp [PyData.eqv, PyData.eqvAll]
theorem shaped_lst {l : List Str} (h : ∀ x ∈ l, Lo x) : SeqAt.shaped (.list (l.map PyData.str)) = true := by
  unfold SeqAt.shaped
  rw [Bool.and_eq_true]
  constructor
  · unfold PyData.canLay0
    exact lay_strs l h
  · have := shaped_tup h
    unfold SeqAt.shaped at this
    rw [Bool.and_eq_true] at this
    unfold PyData.depth at this ⊢
    exact this.2
theorem eq_lnil {m n : Nat} {ys : List Str} {S : Store} {Q : WK} (hm : S[m]? = some (.lst (ys.map W.str))) (hn : S[n]? = some (.lst [])) (h : ∀ y ∈ ys, isNm y = true) (q : Q (.bl ys.isEmpty) S) : wEq (.ref m) (.ref n) S Q := by
  refine ⟨.list (ys.map PyData.str), .list [], .lst hm (dw_strs ys), .lst hn .nil, shaped_lst fun x hx => lo_nm (h x hx), by decide, ?_⟩
  rw [eqv_lnil]
  show Q (.bl (false ^^ (ys.map PyData.str).isEmpty)) S
  rw [Bool.false_xor]
  cases ys with
  | nil => exact q
  | cons y ys => exact q
/-! ### a thing is looked at -/
abbrev BC : Con := UnC BoundC
abbrev PC : Con := UnC IsPC
abbrev OC : Con := UnC fun Z => OtherC Z 64
def thingB : MS := (mSeq (mAsg (mAndV (mCB (conR IsTC) (mCons (mVar 10) mNil)) (mBin wEq (mCB (conR (OpenC 60)) (mCons (mVar 10) (mCons (mLst mNil) mNil))) (mLst mNil))) (mgName 11))
  (mSeq (mAsg (mCB (conR PC) (mCons (mVar 10) mNil)) (mgName 12))
  (mIfS (mOr (mNot (mTru (mCB wIsi (mCons (mVar 12) (mCons (mC (.ty "bool")) mNil))))) (mTest (mBin wNe (mVar 12) (mVar 11))))
  (mRet (mC (.bl false)))
  mNext)))
theorem thing_ok {Z : List Str} (z : OkZ Z) {D : MD} {x : W} {S : Store} {E : EvS} {e0 e1 e2 e3 e4 e5 e6 e7 e8 e9 e11 e12 e13 : Option W} (hE : E = [e0, e1, e2, e3, e4, e5, e6, e7, e8, e9, some x, e11, e12, e13]) (h : okW Z x)
    (q : ∀ b S', Ex S S' → D.nx [e0, e1, e2, e3, e4, e5, e6, e7, e8, e9, some x, some (.bl b), some (.bl b), e13] S') : thingB D E S := by
  subst hE
  have hlen : ∀ x ∈ Z, x.length ≤ sizeLine := fun x hx => isNm_len (z.nm x hx)
  have tail : ∀ (b : Bool) S1, Ex S S1 → (b = true ↔ isP x) → conR PC [x] S1 fun w S2 => (mIfS (mOr (mNot (mTru (mCB wIsi (mCons (mVar 12) (mCons (mC (.ty "bool")) mNil))))) (mTest (mBin wNe (mVar 12) (mVar 11))))
  (mRet (mC (.bl false)))
  mNext) D [e0, e1, e2, e3, e4, e5, e6, e7, e8, e9, some x, some (.bl b), some w, e13] S2 := fun b S1 h1 hb => by
    refine un_of z (isP_call (ok_dat hlen x h) (ok_tx x h) fun c S2 hc h2 => ?_)
    have e : c = b := by
      cases c <;> cases b <;> first | rfl | exact absurd (hb.mp rfl) (fun y => absurd (hc.mpr y) (by decide)) | exact absurd (hc.mp rfl) (fun y => absurd (hb.mpr y) (by decide))
    subst e
    simp only [mSeq, mIfS, mRet, mRetN, mAsg, mDrop, mTest, mBin, mChain, mTru, mAnd, mOr, mNot, mAndV, mOrV, mNotV, mIf, mVar, mC, mCons, mNil, mTup, mLst, mCB, mgName, mNext, mIt, mPar, mAug, lk, wLen_tup, wLe_int, wLt_int, wGt_int, wEq_int, wNe_int, wEq_str, wNe_str, wIx_tup, wAt0, wAt1, wAt2, wAt3, oW_s, tru_bl, List.set]
    refine isi_bl (w := .bl c) trivial ?_
    refine ifB (fun e => absurd e (by rw [decide_eq_true rfl]; decide)) fun _ => ?_
    exact q c S2 (h1.trans h2)
  unfold thingB
  simp only [mSeq, mAsg, mAndV, mCB, mCons, mNil, mVar, lk]
  refine isT_call (ok_dat hlen x h) fun b S1 hb h1 => ?_
  refine ifB (fun e => ?_) fun e => ?_
  · subst e
    obtain ⟨t, rfl, w, hn, hd⟩ := hb.mp rfl
    simp only [mBin, mCB, mCons, mNil, mVar, mLst, lk]
    refine ⟨Nat.zero_le _, ?_⟩
    refine open_call (bs := []) w hd hn (by show 0 + 6 * deep t ≤ 600; omega) (new_at S1 _) fun r ys S2 h2 l2 a2 m2 y2 => ?_
    refine ⟨Nat.zero_le _, ?_⟩
    have hx2 : Ex S S2 := (h1.trans Ex.one).trans h2
    refine eq_lnil (Ex.one.at a2) (new_at S2 _) (fun y hy => z.nm y (free_tx t (ok_tx _ h) ((m2 y).mp hy).1)) ?_
    refine tail _ _ (hx2.trans Ex.one) ?_
    constructor
    · intro e
      refine ⟨t, rfl, w, hn, hd, fun k hk => ?_⟩
      have := (m2 k).mpr ⟨hk, by simp⟩
      cases ys with
      | nil => cases this
      | cons => cases e
    · rintro ⟨u, eu, wu, _, _, fu⟩
      obtain rfl := tW_inj t u w wu eu
      cases ys with
      | nil => rfl
      | cons y ys => exact absurd ((m2 y).mp List.mem_cons_self).1 (fu y)
  · subst e
    exact tail false S1 h1 ⟨(fun z => by cases z), fun z => absurd (hb.mpr (isP_of z)) (by decide)⟩
theorem things_for {Z : List Str} (z : OkZ Z) {D : MD} {nt : Nat} {al : List W} {e0 e1 e2 e3 e4 e5 e6 e7 e8 e9 e13 : Option W} :
    ∀ (xs : List W) (S : Store) (e10 e11 e12 : Option W), (∀ x ∈ xs, okW Z x) → S[nt]? = some (.lst al) → (∀ S' e10 e11 e12, Ex S S' → D.nx [e0, e1, e2, e3, e4, e5, e6, e7, e8, e9, e10, e11, e12, e13] S') →
      forL (fun S' => S'[nt]? = some (.lst al)) (mgName 10) thingB D xs [e0, e1, e2, e3, e4, e5, e6, e7, e8, e9, e10, e11, e12, e13] S
  | [], S, e10, e11, e12, _, h, q => ⟨h, q S _ _ _ Ex.refl⟩
  | x :: xs, S, e10, e11, e12, hx, h, q => ⟨h, thing_ok z rfl (hx x List.mem_cons_self) fun b S' h' => things_for z xs S' _ _ _ (fun y hy => hx y (List.mem_cons_of_mem _ hy)) (h'.at h) fun S2 _ _ _ h2 => q S2 _ _ _ (h'.trans h2)⟩
/-! ### things otherwise called -/
def otherB : MS := (mDrop (mBM wAppend (mVar 8) (mCons (mCB (conR OC) (mCons (mVar 2) (mCons (mVar 7) (mCons (mCB (conR PickC) (mCons (mVar 2) (mCons (mBin wAdd (mLst (mCons (mC (.str "qq")) (mCons (mC (.str "qq")) mNil))) (mVar 3)) mNil))) mNil)))) mNil)))
theorem others_for {Z : List Str} (z : OkZ Z) {D : MD} {p nl nt : Nat} {ns : List Str} {c : W} (hns : ∀ x ∈ ns, x ∈ Z) (h1 : nt ≠ p) (h2 : nt ≠ nl) (hc : okW Z c) (hlc : lay c ≤ 64) {e0 e1 e4 e5 e6 e10 e11 e12 e13 : Option W} :
    ∀ (rs : List W) (S : Store) (l : List W) (e9 : Option W), l.length + rs.length ≤ 100 → Src S p nl ns → S[nt]? = some (.lst l) → (∀ x ∈ l, okW Z x) →
      (∀ S' l' e9, Fx [p, nt] S S' → Src S' p nl ns → S'[nt]? = some (.lst l') → (∀ x ∈ l', okW Z x) → D.nx [e0, e1, some (.ref p), some (.ref nl), e4, e5, e6, some c, some (.ref nt), e9, e10, e11, e12, e13] S') →
      forL (fun _ => True) (mgName 9) otherB D rs [e0, e1, some (.ref p), some (.ref nl), e4, e5, e6, some c, some (.ref nt), e9, e10, e11, e12, e13] S
  | [], S, l, e9, _, s, a, ho, q => ⟨trivial, q S l e9 Fx.refl s a ho⟩
  | r :: rs, S, l, e9, hl, s, a, ho, q => by
    rw [List.length_cons] at hl
    refine ⟨trivial, ?_⟩
    unfold otherB
    simp only [mDrop, mBM, mCB, mCons, mNil, mVar, mBin, mLst, mC, mgName, List.set, lk]
    refine ⟨by show oL S[nt]? _; rw [a]; trivial, ?_⟩
    refine ⟨by show 2 ≤ sizeLine; decide, ?_⟩
    have pl := s.fd.lt
    have nll := lt_len s.at_
    have ntl := lt_len a
    refine add_lst (new_at S _) (Ex.one.at s.at_) (small (by show 2 + (ns.map W.str).length ≤ 100; rw [List.length_map]; have := s.few; omega)) ?_
    have ex2 : Ex S (S ++ [O.lst [W.str "qq", .str "qq"]] ++ [O.lst ([W.str "qq", .str "qq"] ++ ns.map W.str)]) := Ex.one.trans Ex.one
    have s2 := s.ex ex2
    refine pick_call (l := [W.str "qq", .str "qq"] ++ ns.map W.str) s2.fd (fun e => ?_) ?_ ?_ ?_ fun w S3 hw f3 fd3 => ?_
    · have e := W.ref.inj e
      rw [List.length_append] at e
      omega
    · unfold seqW
      dsimp only
      rw [new_at]
    · rw [List.length_append]
      exact Nat.lt_of_lt_of_le (show 0 < 2 by decide) (Nat.le_add_right _ _)
    · rw [List.length_append, List.length_map]
      have := s.few
      exact Nat.lt_of_le_of_lt (Nat.add_le_add_left this _) (by decide)
    have hy : ∃ y, w = .str y ∧ y ∈ Z := by
      rcases List.mem_append.mp hw with h | h
      · refine ⟨"qq", ?_, z.q⟩
        simpa using h
      · obtain ⟨y, hy, rfl⟩ := List.mem_map.mp h
        exact ⟨y, rfl, hns y hy⟩
    obtain ⟨y, rfl, hy⟩ := hy
    have s3 := s2.one f3 fd3
    refine un_of (F := fun Z => OtherC Z 64) z (other_call s3.fd hc hlc hy fun v S4 hv f4 fd4 => ?_)
    have s4 := s3.one f4 fd4
    have f24 : Fx [p] S S4 := ((Fx.ex ex2).trans f3).trans f4
    have a4 : S4[nt]? = some (.lst l) := f24.keep _ _ (by simpa using h1) a
    show oL S4[nt]? _
    rw [a4]
    refine ⟨Nat.lt_of_lt_of_le (show l.length < 101 by omega) (by decide), ?_⟩
    refine others_for z hns h1 h2 hc hlc rs _ (l ++ [v]) _ (by rw [List.length_append, List.length_singleton]; omega) (s4.put h1 h2) (get_set a4) (fun x hx => ?_) fun S' l' e9 f s' b c => ?_
    · rcases List.mem_append.mp hx with h | h
      · exact ho x h
      · rw [List.mem_singleton.mp h]
        exact hv
    · exact q S' l' e9 (((f24.mono (fun n hn => List.mem_cons.mpr (.inl (List.mem_singleton.mp hn)))).trans (Fx.set (by simp))).trans f) s' b c
end Ev05

set_option Elab.async false
set_option linter.all false
set_option maxRecDepth 100000
set_option maxHeartbeats 1000000
/-! _law_around_right. -/
namespace Ev06
open PySem PySem.Spec PyProof.Rows L2 Ow Ev OwT EvT Ev05
def le (a b : Str) : Prop := ltCps b.cps.toList a.cps.toList = false
theorem le_iff (a b : Str) : le a b ↔ a.cps.toList ≤ b.cps.toList := by
  unfold le
  rw [ltCps_eq, decide_eq_false_iff_not]
  exact List.not_lt
theorem le_trans' {a b c : Str} (h : le a b) (k : le b c) : le a c := (le_iff a c).mpr (List.le_trans ((le_iff a b).mp h) ((le_iff b c).mp k))
theorem le_anti {a b : Str} (h : le a b) (k : le b a) : a = b := by
  have e := List.le_antisymm ((le_iff a b).mp h) ((le_iff b a).mp k)
  cases a with | mk x =>
  cases b with | mk y =>
  have : x = y := Array.ext' e
  rw [this]
theorem rising_pair : ∀ (p : Str) (l : List Str), risingS p l = true → (p :: l).Pairwise le
  | p, [], _ => List.pairwise_singleton _ _
  | p, x :: r, h => by
    unfold risingS at h
    obtain ⟨h1, h2⟩ := Bool.and_eq_true_iff.mp h
    have k := rising_pair x r h2
    have h3 : le p x := by
      unfold le
      simpa using h1
    refine List.pairwise_cons.mpr ⟨fun y hy => ?_, k⟩
    rcases List.mem_cons.mp hy with rfl | hy
    · exact h3
    · exact le_trans' h3 (List.rel_of_pairwise_cons k hy)
theorem sorted_pair : ∀ l : List Str, sortedS l = true → l.Pairwise le
  | [], _ => List.Pairwise.nil
  | x :: r, h => rising_pair x r h
theorem sorted_eq {xs ys : List Str} (hx : xs.Nodup) (hy : ys.Nodup) (sx : sortedS xs = true) (sy : sortedS ys = true) (h : ∀ k, k ∈ xs ↔ k ∈ ys) : xs = ys :=
  List.Perm.eq_of_pairwise (le := le) (fun a b _ _ h k => le_anti h k) (sorted_pair xs sx) (sorted_pair ys sy) ((List.perm_ext_iff_of_nodup hx hy).mpr h)
theorem ne_same {m n : Nat} {ys : List Str} {S : Store} {Q : WK} (hm : S[m]? = some (.lst (ys.map W.str))) (hn : S[n]? = some (.lst (ys.map W.str))) (h : ∀ y ∈ ys, isNm y = true) (q : Q (.bl false) S) : wNe (.ref m) (.ref n) S Q := by
  have hs := shaped_lst fun x hx => lo_nm (h x hx)
  refine ⟨.list (ys.map PyData.str), .list (ys.map PyData.str), .lst hm (dw_strs ys), .lst hn (dw_strs ys), hs, hs, ?_⟩
  have hc : PyData.canLay0 (.list (ys.map PyData.str)) = true := by
    unfold SeqAt.shaped at hs
    rw [Bool.and_eq_true] at hs
    exact hs.1
  rw [PySem.SeqAt.eqv_refl _ hc]
  exact q
section
variable {S : Store} {ns : List Str}
theorem fr_call {t : T} {Q : WK} (w : WF t) (hn : nodes t ≤ 300) (hf : ∀ k, Free k t → k ∈ ns) (h8 : ns.length ≤ 8) (k : ∀ (n : Nat) (ys : List Str) S', Ex S S' → S.length ≤ n → S'[n]? = some (.lst (ys.map W.str)) → ys.length ≤ 8 → ys.Nodup → sortedS ys = true → (∀ k, k ∈ ys ↔ Free k t) → Q (.ref n) S') : conR FreeC [tW t] S Q :=
  ⟨t, ⟨rfl, w, hn, ns, by omega, hf⟩, fun w' S' ⟨n, ys, e, a, b, c, d, s, f⟩ => by
    rw [e]
    exact k n ys S' a b c (Nat.le_trans (nodup_sub ys ns d fun x hx => hf x ((f x).mp hx)) h8) d s f⟩
theorem but_call {t : T} {m : Nat} {own : List Str} {Q : WK} (hm : S[m]? = some (.lst (own.map W.str))) (w : WF t) (hn : nodes t ≤ 300) (hf : ∀ k, Free k t → k ∈ ns) (h8 : ns.length ≤ 8) (k : ∀ (n : Nat) (ys : List Str) S', Ex S S' → S.length ≤ n → S'[n]? = some (.lst (ys.map W.str)) → ys.length ≤ 8 → (∀ k, k ∈ ys ↔ Free k t ∧ k ∉ own) → Q (.ref n) S') : conR ButC [tW t, .ref m] S Q :=
  ⟨(t, m, own, ns), ⟨rfl, hm, w, hn, by omega, hf⟩, fun w' S' ⟨n, ys, e, a, b, c, d, f⟩ => by
    rw [e]
    exact k n ys S' a b c (Nat.le_trans d h8) f⟩
end
abbrev Item := T × Nat
def itW (p : Item) : W := .tup [tW p.1, .ref p.2]
structure It (S : Store) (ns : List Str) (L : Nat) (p : Item) : Prop where
  wf : WF p.1
  nd : nodes p.1 ≤ 300
  fr : ∀ k, Free k p.1 → k ∈ ns
  ne : p.2 ≠ L
  du : ∃ due : List Str, S[p.2]? = some (.lst (due.map W.str)) ∧ due.length ≤ 100 ∧ ∀ k, k ∈ due ↔ Free k p.1
structure St6 (S0 S : Store) (ns : List Str) (L : Nat) (its : List Item) : Prop where
  ex : Ex S0 S
  ge : S0.length ≤ L
  at_ : S[L]? = some (.lst (its.map itW))
  ok : ∀ p ∈ its, It S ns L p
  few : its.length ≤ 8
section
variable {S0 S S' : Store} {ns : List Str} {L : Nat} {its : List Item} {p : Item}
theorem It.grow (h : It S ns L p) (x : Ex S S') : It S' ns L p := by
  obtain ⟨due, a, b⟩ := h.du
  exact ⟨h.wf, h.nd, h.fr, h.ne, due, x.at a, b⟩
theorem St6.grow (h : St6 S0 S ns L its) (x : Ex S S') : St6 S0 S' ns L its := ⟨h.ex.trans x, h.ge, x.at h.at_, fun p hp => (h.ok p hp).grow x, h.few⟩
theorem St6.app (h : St6 S0 S ns L its) (hp : It S ns L p) (hl : its.length ≤ 7) : St6 S0 (S.set L (.lst (its.map itW ++ [itW p]))) ns L (its ++ [p]) := by
  have put : ∀ {q : Item}, It S ns L q → It (S.set L (.lst (its.map itW ++ [itW p]))) ns L q := fun {q} h => by
    obtain ⟨due, a, b⟩ := h.du
    exact ⟨h.wf, h.nd, h.fr, h.ne, due, set_other a h.ne, b⟩
  refine ⟨Ex.put h.ex h.ge, h.ge, ?_, fun q hq => ?_, by rw [List.length_append, List.length_singleton]; omega⟩
  · rw [List.map_append]
    exact get_set h.at_
  · rcases List.mem_append.mp hq with hq | hq
    · exact put (h.ok q hq)
    · rw [List.mem_singleton.mp hq]
      exact put hp
end
/-- what is known of the two terms and the three names -/
structure Ar (ns : List Str) (one other : T) (x y z : Str) : Prop where
  g1 : Good ns one
  w1 : WF one
  n1 : nodes one ≤ 140
  g2 : Good ns other
  w2 : WF other
  n2 : nodes other ≤ 140
  h8 : ns.length ≤ 8
  nm : ∀ k ∈ ns, isNm k = true
  hx : x ∈ ns
  hy : y ∈ ns
  hz : z ∈ ns
  xy : x ≠ y
  xz : x ≠ z
  yz : y ≠ z
section
variable {S0 S : Store} {D : MD} {ns : List Str} {one other : T} {x y z : Str} {L : Nat} {its : List Item} {e2 e7 e8 e9 e10 e11 e12 : Option W}
def firstE : ME := (mLst (mCons (mTup (mCons (mTup (mCons (mC (.str "fun")) (mCons (mVar 3) (mCons (mVar 0) mNil)))) (mCons (mCB (conR ButC) (mCons (mVar 0) (mCons (mLst (mCons (mVar 3) mNil)) mNil))) mNil))) mNil))
theorem one_name {k v : Str} : k ∉ [v] ↔ k ≠ v := by simp
theorem first_ok {Q : WK} (h : Ar ns one other x y z) (k : ∀ L S' its, St6 S S' ns L its → its.length ≤ 1 → Q (.ref L) S') : firstE [some (tW one), some (tW other), e2, some (.str x), some (.str y), some (.str z), none, e7, e8, e9, e10, e11, e12] S Q := by
  unfold firstE
  simp only [mLst, mTup, mCB, mCons, mNil, mVar, mC, lk]
  refine ⟨sz3, sz1, ?_⟩
  have n1 := h.n1
  refine but_call (own := [x]) (new_at S _) h.w1 (by omega) (fun k hk => free_in one h.g1 hk) h.h8 fun n ys S1 x1 l1 at1 h8 mem => ⟨sz2, sz1, ?_⟩
  have x2 : Ex S1 (S1 ++ [O.lst [itW (.fn x one, n)]]) := Ex.one
  have x0 : Ex S S1 := Ex.one.trans x1
  refine k S1.length _ [(.fn x one, n)] ⟨x0.trans x2, x0.len, new_at _ _, fun p hp => ?_, by show 1 ≤ 8; decide⟩ (by show 1 ≤ 1; decide)
  rw [List.mem_singleton.mp hp]
  refine ⟨⟨h.nm x h.hx, h.w1⟩, by show 1 + nodes one ≤ 300; omega, fun k hk => free_in one h.g1 hk.1, ?_, ys, x2.at at1, by omega, fun k => ?_⟩
  · have := lt_len at1
    show n ≠ S1.length
    omega
  · rw [mem]
    exact and_congr_right fun _ => one_name
def letB : MS := (mDrop (mBM wAppend (mVar 6) (mCons (mTup (mCons (mTup (mCons (mVar 7) (mCons (mVar 8) (mCons (mVar 0) (mCons (mVar 1) mNil))))) (mCons (mBin wAdd (mCB (conR FreeC) (mCons (mVar 0) mNil)) (mCB (conR ButC) (mCons (mVar 1) (mCons (mLst (mCons (mVar 8) mNil)) mNil)))) mNil))) mNil)))
theorem let_item {w v : Str} (hw : w = "let" ∨ w = "now") (hv : v ∈ ns) (h : Ar ns one other x y z) (st : St6 S0 S ns L its) (hl : its.length ≤ 7)
    (k : ∀ S' p, St6 S0 S' ns L (its ++ [p]) → (∀ n u, n ≠ L → S[n]? = some u → S'[n]? = some u) → D.nx [some (tW one), some (tW other), e2, some (.str x), some (.str y), some (.str z), some (.ref L), some (.str w), some (.str v), e9, e10, e11, e12] S') :
    letB D [some (tW one), some (tW other), e2, some (.str x), some (.str y), some (.str z), some (.ref L), some (.str w), some (.str v), e9, e10, e11, e12] S := by
  have n1 := h.n1
  have n2 := h.n2
  unfold letB mBM
  simp only [mDrop, mBin, mLst, mTup, mCB, mCons, mNil, mVar, lk]
  refine ⟨isl_at st.at_, sz4, ?_⟩
  refine fr_call h.w1 (by omega) (fun k hk => free_in one h.g1 hk) h.h8 fun n ys S1 x1 l1 at1 h8 _ _ mem => ⟨sz1, ?_⟩
  have x2 : Ex S1 (S1 ++ [O.lst [.str v]]) := Ex.one
  refine but_call (own := [v]) (new_at S1 _) h.w2 (by omega) (fun k hk => free_in other h.g2 hk) h.h8 fun n3 zs S3 x3 l3 at3 h83 mem3 => ?_
  refine add_lst ((x2.trans x3).at at1) at3 (Nat.le_trans (show (ys.map W.str).length + (zs.map W.str).length ≤ 16 by rw [List.length_map, List.length_map]; omega) (by decide)) ⟨sz2, ?_⟩
  have x4 : Ex S3 (S3 ++ [O.lst (ys.map W.str ++ zs.map W.str)]) := Ex.one
  have xa := ((x1.trans x2).trans x3).trans x4
  have st4 := st.grow xa
  have lL := lt_len st.at_
  have hS := xa.len
  have l3 := (x1.trans (x2.trans x3)).len
  have hi : It (S3 ++ [O.lst (ys.map W.str ++ zs.map W.str)]) ns L (.lt w v one other, S3.length) := by
    refine ⟨⟨hw, h.nm v hv, h.w1, h.w2⟩, by show 1 + nodes one + nodes other ≤ 300; omega, fun k hk => ?_, by show S3.length ≠ L; omega, ys ++ zs, ?_, by rw [List.length_append]; omega, fun k => ?_⟩
    · rcases hk with hk | hk
      · exact free_in one h.g1 hk
      · exact free_in other h.g2 hk.1
    · rw [List.map_append]
      exact new_at S3 _
    · rw [List.mem_append, mem, mem3, one_name]
      exact Iff.rfl
  have ha : (its.map itW).length < sizeLine := by
    rw [List.length_map]
    exact Nat.lt_of_le_of_lt hl (by decide)
  refine apd_at st4.at_ ha ?_
  exact k _ (.lt w v one other, S3.length) (st4.app hi hl) fun n u hn e => set_other (xa.at e) hn
end
end Ev06

set_option Elab.async false
set_option linter.all false
set_option maxRecDepth 100000
set_option maxHeartbeats 1000000
/-! _law_around_right, the rest. -/
namespace Ev06
open PySem PySem.Spec PyProof.Rows L2 Ow Ev OwT EvT Ev05
def allT (x y z : Str) (one other : T) : T := .all (.cons x (.fn y one) (.cons z (.mk y [x, y, z]) .nil)) other
def byT (x y z : Str) (one other : T) : T := .by_ z (.cons x [y, z] one (.cons y [] other .nil))
section
variable {S0 S : Store} {D : MD} {ns : List Str} {one other : T} {x y z : Str} {L : Nat} {its : List Item} {e2 e7 e8 e9 e10 e11 e12 : Option W}
theorem wf_all (h : Ar ns one other x y z) : WF (allT x y z one other) := by
  refine ⟨⟨by show 1 ≤ 2; decide, by show 2 ≤ 6; decide⟩, ?_, ⟨h.nm x h.hx, trivial, ⟨h.nm y h.hy, h.w1⟩, h.nm z h.hz, trivial, ⟨h.nm y h.hy, by show 3 ≤ 3; decide, fun k hk => ?_⟩, trivial⟩, h.w2⟩
  · show [x, z].Nodup
    simp [h.xz]
  · have hk : k = x ∨ k = y ∨ k = z := by simpa using hk
    rcases hk with rfl | rfl | rfl
    · exact h.nm _ h.hx
    · exact h.nm _ h.hy
    · exact h.nm _ h.hz
theorem wf_by (h : Ar ns one other x y z) : WF (byT x y z one other) := by
  refine ⟨h.nm z h.hz, ⟨by show 1 ≤ 2; decide, by show 2 ≤ 6; decide⟩, ?_, ⟨h.nm x h.hx, ⟨by show 2 ≤ 3; decide, by simp [h.yz], fun k hk => ?_⟩, h.w1, h.nm y h.hy, ⟨by show 0 ≤ 3; decide, List.nodup_nil, fun k hk => (List.not_mem_nil hk).elim⟩, h.w2, trivial⟩⟩
  · show [x, y].Nodup
    simp [h.xy]
  · have hk : k = y ∨ k = z := by simpa using hk
    rcases hk with rfl | rfl
    · exact h.nm _ h.hy
    · exact h.nm _ h.hz
theorem free_all {k : Str} : Free k (allT x y z one other) ↔ (((Free k one ∧ k ≠ y) ∨ (k ∈ [x, y, z]) ∨ False) ∨ Free k other) ∧ k ∉ [x, z] := Iff.rfl
theorem free_by {k : Str} : Free k (byT x y z one other) ↔ k = z ∨ (Free k one ∧ k ∉ [y, z]) ∨ (Free k other ∧ k ∉ []) ∨ False := Iff.rfl
theorem in_all (h : Ar ns one other x y z) {k : Str} (hk : Free k (allT x y z one other)) : k ∈ ns := by
  rcases free_all.mp hk with ⟨(hk | hk | hk) | hk, _⟩
  · exact free_in one h.g1 hk.1
  · have hk : k = x ∨ k = y ∨ k = z := by simpa using hk
    rcases hk with rfl | rfl | rfl
    · exact h.hx
    · exact h.hy
    · exact h.hz
  · exact hk.elim
  · exact free_in other h.g2 hk
theorem in_by (h : Ar ns one other x y z) {k : Str} (hk : Free k (byT x y z one other)) : k ∈ ns := by
  rcases free_by.mp hk with rfl | hk | hk | hk
  · exact h.hz
  · exact free_in one h.g1 hk.1
  · exact free_in other h.g2 hk.1
  · exact hk.elim
theorem seq_rf {n : Nat} {l : List W} {S : Store} (h : S[n]? = some (.lst l)) : seqW (.ref n) S = some l := by
  unfold seqW
  dsimp only
  rw [h]
def pairsE : ME := (mTup (mCons (mTup (mCons (mVar 3) (mCons (mTup (mCons (mC (.str "fun")) (mCons (mVar 4) (mCons (mVar 0) mNil)))) mNil))) (mCons (mTup (mCons (mVar 5) (mCons (mTup (mCons (mC (.str "made")) (mCons (mVar 4) (mCons (mTup (mCons (mVar 3) (mCons (mVar 4) (mCons (mVar 5) mNil)))) mNil)))) mNil))) mNil)))
def linesE : ME := (mTup (mCons (mTup (mCons (mVar 3) (mCons (mTup (mCons (mVar 4) (mCons (mVar 5) mNil))) (mCons (mVar 0) mNil)))) (mCons (mTup (mCons (mVar 4) (mCons (mTup mNil) (mCons (mVar 1) mNil)))) mNil)))
def allB : MS := (mDrop (mBM wAppend (mVar 6) (mCons (mTup (mCons (mTup (mCons (mC (.str "letall")) (mCons (mVar 9) (mCons (mVar 1) mNil)))) (mCons (mBin wAdd (mBin wAdd (mCB (conR ButC) (mCons (mVar 0) (mCons (mLst (mCons (mVar 3) (mCons (mVar 4) (mCons (mVar 5) mNil)))) mNil))) (mLst (mCons (mVar 4) mNil))) (mCB (conR ButC) (mCons (mVar 1) (mCons (mLst (mCons (mVar 3) (mCons (mVar 5) mNil))) mNil)))) mNil))) mNil)))
def lineB : MS := (mDrop (mBM wAppend (mVar 6) (mCons (mTup (mCons (mTup (mCons (mC (.str "by")) (mCons (mVar 5) (mCons (mVar 10) mNil)))) (mCons (mBin wAdd (mBin wAdd (mLst (mCons (mVar 5) mNil)) (mCB (conR ButC) (mCons (mVar 0) (mCons (mLst (mCons (mVar 4) (mCons (mVar 5) mNil))) mNil)))) (mCB (conR FreeC) (mCons (mVar 1) mNil))) mNil))) mNil)))
def pairsV (x y z : Str) (one : T) : W := .tup (pW (.cons x (.fn y one) (.cons z (.mk y [x, y, z]) .nil)))
def linesV (x y z : Str) (one other : T) : W := .tup (bW (.cons x [y, z] one (.cons y [] other .nil)))
theorem small16 {a b : List W} (h : a.length + b.length ≤ 40) : a.length + b.length ≤ sizeLine := Nat.le_trans h (by decide)
theorem all_item (h : Ar ns one other x y z) (st : St6 S0 S ns L its) (hl : its.length ≤ 7)
    (k : ∀ S' p, St6 S0 S' ns L (its ++ [p]) → D.nx [some (tW one), some (tW other), e2, some (.str x), some (.str y), some (.str z), some (.ref L), e7, e8, some (pairsV x y z one), e10, e11, e12] S') :
    allB D [some (tW one), some (tW other), e2, some (.str x), some (.str y), some (.str z), some (.ref L), e7, e8, some (pairsV x y z one), e10, e11, e12] S := by
  have n1 := h.n1
  have n2 := h.n2
  unfold allB mBM
  simp only [mDrop, mBin, mLst, mTup, mCB, mCons, mNil, mVar, mC, lk]
  refine ⟨isl_at st.at_, sz3, sz3, ?_⟩
  have x0 : Ex S (S ++ [O.lst ([W.str x, .str y, .str z])]) := Ex.one
  refine but_call (own := [x, y, z]) (new_at S _) h.w1 (by omega) (fun k hk => free_in one h.g1 hk) h.h8 fun n ys S1 x1 l1 at1 h81 mem1 => ⟨sz1, ?_⟩
  have x2 : Ex S1 (S1 ++ [O.lst ([W.str y])]) := Ex.one
  refine add_lst (x2.at at1) (new_at S1 _) (small16 (by rw [List.length_map]; show _ + 1 ≤ 40; omega)) ⟨sz2, ?_⟩
  have x3 : Ex (S1 ++ [O.lst ([W.str y])]) ((S1 ++ [O.lst ([W.str y])]) ++ [O.lst (ys.map W.str ++ [W.str y])]) := Ex.one
  have at3 := new_at (S1 ++ [O.lst ([W.str y])]) (.lst (ys.map W.str ++ [W.str y]))
  have xb := (x1.trans x2).trans x3
  generalize hS3 : (S1 ++ [O.lst ([W.str y])]) ++ [O.lst (ys.map W.str ++ [W.str y])] = S3 at at3 x3 xb ⊢
  have x4 : Ex S3 (S3 ++ [O.lst ([W.str x, .str z])]) := Ex.one
  refine but_call (own := [x, z]) (new_at S3 _) h.w2 (by omega) (fun k hk => free_in other h.g2 hk) h.h8 fun n5 zs S5 x5 l5 at5 h85 mem5 => ?_
  refine add_lst ((x4.trans x5).at at3) at5 (small16 (by rw [List.length_append, List.length_map, List.length_map]; show _ + 1 + _ ≤ 40; omega)) ⟨sz2, ?_⟩
  have x6 : Ex S5 (S5 ++ [O.lst (ys.map W.str ++ [W.str y] ++ zs.map W.str)]) := Ex.one
  have xa := ((x0.trans xb).trans (x4.trans x5)).trans x6
  have st6 := st.grow xa
  have lL := lt_len st.at_
  have hS := ((x0.trans xb).trans (x4.trans x5)).len
  have hi : It (S5 ++ [O.lst (ys.map W.str ++ [W.str y] ++ zs.map W.str)]) ns L (allT x y z one other, S5.length) := by
    refine ⟨wf_all h, by show 1 + ((1 + nodes one) + (1 + 0)) + nodes other ≤ 300; omega, fun k hk => in_all h hk, by show S5.length ≠ L; omega, ys ++ [y] ++ zs, ?_, ?_, fun k => ?_⟩
    · rw [List.map_append, List.map_append]
      exact new_at S5 _
    · rw [List.length_append, List.length_append]
      show _ + 1 + _ ≤ 100
      omega
    · rw [List.mem_append, List.mem_append, mem1, mem5, free_all]
      have e1 : k ∈ [y] ↔ k = y := by simp
      have e2 : k ∉ [x, y, z] ↔ k ≠ x ∧ k ≠ y ∧ k ≠ z := by simp
      have e3 : k ∉ [x, z] ↔ k ≠ x ∧ k ≠ z := by simp
      have e4 : k ∈ [x, y, z] ↔ k = x ∨ k = y ∨ k = z := by simp
      rw [e1, e2, e3, e4]
      constructor
      · rintro ((⟨a, b, c, d⟩ | rfl) | ⟨a, b, c⟩)
        · exact ⟨.inl (.inl ⟨a, c⟩), b, d⟩
        · exact ⟨.inl (.inr (.inl (.inr (.inl rfl)))), fun e => h.xy e.symm, h.yz⟩
        · exact ⟨.inr a, b, c⟩
      · rintro ⟨(⟨a, b⟩ | (rfl | rfl | rfl) | f) | a, c, d⟩
        · exact .inl (.inl ⟨a, c, b, d⟩)
        · exact absurd rfl c
        · exact .inl (.inr rfl)
        · exact absurd rfl d
        · exact f.elim
        · exact .inr ⟨a, c, d⟩
  have ha : (its.map itW).length < sizeLine := by
    rw [List.length_map]
    exact Nat.lt_of_le_of_lt hl (by decide)
  refine apd_at st6.at_ ha ?_
  exact k _ (allT x y z one other, S5.length) (st6.app hi hl)
theorem by_item (h : Ar ns one other x y z) (st : St6 S0 S ns L its) (hl : its.length ≤ 7)
    (k : ∀ S' p, St6 S0 S' ns L (its ++ [p]) → D.nx [some (tW one), some (tW other), e2, some (.str x), some (.str y), some (.str z), some (.ref L), e7, e8, e9, some (linesV x y z one other), e11, e12] S') :
    lineB D [some (tW one), some (tW other), e2, some (.str x), some (.str y), some (.str z), some (.ref L), e7, e8, e9, some (linesV x y z one other), e11, e12] S := by
  have n1 := h.n1
  have n2 := h.n2
  unfold lineB mBM
  simp only [mDrop, mBin, mLst, mTup, mCB, mCons, mNil, mVar, mC, lk]
  refine ⟨isl_at st.at_, sz3, sz1, sz2, ?_⟩
  have x0 : Ex S (S ++ [O.lst ([W.str z])]) := Ex.one
  have at0 := new_at S (.lst ([W.str z]))
  have x1 : Ex (S ++ [O.lst ([W.str z])]) ((S ++ [O.lst ([W.str z])]) ++ [O.lst ([W.str y, .str z])]) := Ex.one
  refine but_call (own := [y, z]) (new_at (S ++ [O.lst ([W.str z])]) _) h.w1 (by omega) (fun k hk => free_in one h.g1 hk) h.h8 fun n ys S2 x2 l2 at2 h82 mem2 => ?_
  refine add_lst ((x1.trans x2).at at0) at2 (small16 (by rw [List.length_map]; show 1 + _ ≤ 40; omega)) ?_
  have x3 : Ex S2 (S2 ++ [O.lst ([W.str z] ++ ys.map W.str)]) := Ex.one
  have at3 := new_at S2 (.lst ([W.str z] ++ ys.map W.str))
  refine fr_call h.w2 (by omega) (fun k hk => free_in other h.g2 hk) h.h8 fun n4 zs S4 x4 l4 at4 h84 _ _ mem4 => ?_
  refine add_lst (x4.at at3) at4 (small16 (by rw [List.length_append, List.length_map, List.length_map]; show 1 + _ + _ ≤ 40; omega)) ⟨sz2, ?_⟩
  have x5 : Ex S4 (S4 ++ [O.lst ([W.str z] ++ ys.map W.str ++ zs.map W.str)]) := Ex.one
  have xc := ((x0.trans (x1.trans x2)).trans x3).trans x4
  have xa := xc.trans x5
  have st6 := st.grow xa
  have lL := lt_len st.at_
  have hS := xc.len
  have hi : It (S4 ++ [O.lst ([W.str z] ++ ys.map W.str ++ zs.map W.str)]) ns L (byT x y z one other, S4.length) := by
    refine ⟨wf_by h, by show 1 + (nodes one + (nodes other + 0)) ≤ 300; omega, fun k hk => in_by h hk, by show S4.length ≠ L; omega, [z] ++ ys ++ zs, ?_, ?_, fun k => ?_⟩
    · rw [List.map_append, List.map_append]
      exact new_at S4 _
    · rw [List.length_append, List.length_append]
      show 1 + _ + _ ≤ 100
      omega
    · rw [List.mem_append, List.mem_append, mem2, mem4, free_by]
      have e1 : k ∈ [z] ↔ k = z := by simp
      rw [e1]
      constructor
      · rintro ((a | a) | a)
        · exact .inl a
        · exact .inr (.inl a)
        · exact .inr (.inr (.inl ⟨a, List.not_mem_nil⟩))
      · rintro (a | a | a | a)
        · exact .inl (.inl a)
        · exact .inl (.inr a)
        · exact .inr a.1
        · exact a.elim
  have ha : (its.map itW).length < sizeLine := by
    rw [List.length_map]
    exact Nat.lt_of_le_of_lt hl (by decide)
  refine apd_at st6.at_ ha ?_
  exact k _ (byT x y z one other, S4.length) (st6.app hi hl)
/-! ### they are looked at -/
def chkB : MS := (mIfS (mAnd (mTru (mCB (conR IsTC) (mCons (mVar 11) mNil))) (mTest (mBin wNe (mCB (conR FreeC) (mCons (mVar 11) mNil)) (mSortSet (mVar 12)))))
  (mRet (mC (.bl false)))
  mNext)
theorem chk_one {p : Item} {e0 e1 e3 e4 e5 e6 : Option W} (h8 : ns.length ≤ 8) (nm : ∀ k ∈ ns, isNm k = true) (hp : It S ns L p) (k : ∀ S', Ex S S' → D.nx [e0, e1, e2, e3, e4, e5, e6, e7, e8, e9, e10, some (tW p.1), some (.ref p.2)] S') :
    chkB D [e0, e1, e2, e3, e4, e5, e6, e7, e8, e9, e10, some (tW p.1), some (.ref p.2)] S := by
  obtain ⟨due, hd, dl, dm⟩ := hp.du
  unfold chkB mIfS
  simp only [mAnd, mTru, mTest, mBin, mCB, mCons, mNil, mVar, mC, lk]
  refine isT_call (dat_tW p.1 hp.wf) fun b S1 _ x1 => ?_
  simp only [tru_bl]
  refine ifB (fun _ => ?_) fun _ => ?_
  · refine fr_call hp.wf hp.nd hp.fr h8 fun n ys S2 x2 l2 at2 _ nd so mem => ?_
    unfold mSortSet
    simp only [mVar, lk]
    refine ⟨due, seq_rf (x2.at (x1.at hd)), by omega, fun zs nd2 so2 mem2 => ?_⟩
    have e : zs = ys := sorted_eq nd2 nd so2 so fun k => by rw [mem2, dm, mem]
    subst e
    have x3 : Ex S2 (S2 ++ [O.lst (zs.map W.str)]) := Ex.one
    refine ne_same (ys := zs) (x3.at at2) (new_at S2 _) (fun y hy => nm y (hp.fr y ((mem y).mp hy))) ?_
    refine ifB (fun e => by cases e) fun _ => ?_
    exact k _ ((x1.trans x2).trans x3)
  · rw [if_neg (by simp)]
    exact k S1 x1
theorem chk_all {e0 e1 e3 e4 e5 e6 : Option W} {all : List Item} (h8 : ns.length ≤ 8) (nm : ∀ k ∈ ns, isNm k = true) (k : ∀ S' e11 e12, Ex S0 S' → D.nx [e0, e1, e2, e3, e4, e5, e6, e7, e8, e9, e10, e11, e12] S') : ∀ (l : List Item) (S : Store) (e11 e12 : Option W), (∀ p ∈ l, It S ns L p) → S[L]? = some (.lst (all.map itW)) → Ex S0 S →
    forL (fun S' => S'[L]? = some (.lst (all.map itW))) (mgTup 2 (mgCons (mgName 11) (mgCons (mgName 12) mgNil))) chkB D (l.map itW) [e0, e1, e2, e3, e4, e5, e6, e7, e8, e9, e10, e11, e12] S
  | [], S, e11, e12, _, at_, x => ⟨at_, k S _ _ x⟩
  | p :: l, S, e11, e12, h, at_, x => by
    refine ⟨at_, rfl, ?_⟩
    simp only [mgCons, mgNil, mgName, List.set]
    refine ⟨trivial, ?_⟩
    refine chk_one h8 nm (h p List.mem_cons_self) fun S1 x1 => ?_
    exact chk_all h8 nm k l S1 _ _ (fun q hq => (h q (List.mem_cons_of_mem _ hq)).grow x1) (x1.at at_) (x.trans x1)
end
end Ev06

set_option Elab.async false
set_option linter.all false
set_option maxRecDepth 100000
set_option maxHeartbeats 1000000
/-! The names, none of which is qzq. -/
namespace Ev06
open PySem PySem.Spec PyProof.Rows L2 Ow Ev OwT EvT Ev05
def Nq (x : Str) : Prop := isNm x = true ∧ x ≠ "qzq"
theorem words_nq : ∀ x ∈ words, Nq x := fun x hx => ⟨words_ok x hx, by
  have h : words.all (fun x => !decide (x = "qzq")) = true := by decide +kernel
  have := List.all_eq_true.mp h x hx
  simpa using this⟩
theorem nameAt_nq {a : Int} {tail : Str} {w : W} {c : Nat} (h7 : tail.length ≤ 7) (hz : ∀ e ∈ tail.cps.toList, 97 ≤ e ∧ e ≤ 122) (hc : ∀ d ∈ tail.cps.toList, d = c) : Nq (Ev05.nameAt a tail w) := by
  refine ⟨nameAt_ok h7 hz, fun e => ?_⟩
  have e2 : (("qzq" : String) : Str).cps.toList = [113, 122, 113] := by decide +kernel
  have e3 : (Ev05.nameAt a tail w).cps.toList = (wAt AZ.cps.toList ((a + 5 * jOf w) % 26)).getD 0 :: tail.cps.toList := by
    unfold Ev05.nameAt
    show ((#[_] : Array Nat) ++ tail.cps).toList = _
    rw [Array.toList_append]
    rfl
  rw [e, e2] at e3
  have e4 := (List.cons.inj e3).2
  have h1 := hc 122 (by rw [← e4]; simp)
  have h2 := hc 113 (by rw [← e4]; simp)
  omega
/-- found[take(feed, 8)] = pick(feed, words), some times -/
theorem names_turns6 {p f w : Nat} {D : MD} {e1 e2 e3 e7 : Option W} (hfp : f ≠ p) (hwp : w ≠ p) (hwf : w ≠ f) : ∀ (ws : List W) (S : Store) (ns : List Str) (e6 : Option W), FdS S p → S[f]? = some (.lst (ns.map W.str)) → ns.length = 8 → (∀ x ∈ ns, Nq x) → S[w]? = some (.lst (words.map W.str)) →
    (∀ (S' : Store) (ns : List Str) (e6 : Option W), Fx [p, f] S S' → FdS S' p → S'[f]? = some (.lst (ns.map W.str)) → ns.length = 8 → (∀ x ∈ ns, Nq x) → D.nx [some (.ref p), e1, e2, e3, some (.ref f), some (.ref w), e6, e7] S') →
    forL (fun _ => True) (mgName 6) (mAsg (mCB (conR PickC) (mCons (mVar 0) (mCons (mVar 5) mNil))) (mgSub (mVar 4) (mCB (conR TakeC) (mCons (mVar 0) (mCons (mC (.int 8)) mNil))))) D ws [some (.ref p), e1, e2, e3, some (.ref f), some (.ref w), e6, e7] S
  | [], S, ns, e6, fd, hf, hl, hn, hw, q => ⟨trivial, q S ns e6 Fx.refl fd hf hl hn⟩
  | y :: ws, S, ns, e6, fd, hf, hl, hn, hw, q => by
    refine ⟨trivial, ?_⟩
    simp only [mgName, List.set, mAsg, mCB, mCons, mNil, mVar, mC, lk, mgSub]
    refine pick_call (l := words.map W.str) fd (fun z => hwp (W.ref.inj z)) (by unfold seqW; dsimp only; rw [hw]) (by decide) (by decide) fun x S1 hx f1 fd1 => ?_
    refine take_call fd1 (by decide) (by decide) fun r S2 r0 r1 f2 fd2 => ?_
    obtain ⟨x, hxw, rfl⟩ := List.mem_map.mp hx
    have hf2 : S2[f]? = some (.lst (ns.map W.str)) := f2.keep _ _ (by simpa using hfp) (f1.keep _ _ (by simpa using hfp) hf)
    have hw2 : S2[w]? = some (.lst (words.map W.str)) := f2.keep _ _ (by simpa using hwp) (f1.keep _ _ (by simpa using hwp) hw)
    have hix : ixN (ns.map W.str).length r = some r.toNat := by
      rw [List.length_map, hl]
      unfold ixN
      rw [if_pos (by omega)]
      first | rfl | (rw [if_pos (by omega)])
    refine set_at hf2 hix ?_
    have e9 : (ns.map W.str).set r.toNat (.str x) = (ns.set r.toNat x).map W.str := by rw [List.map_set]
    rw [e9]
    have fx : Fx [p, f] S (S2.set f (.lst ((ns.set r.toNat x).map W.str))) := ((f1.trans f2).mono fun n hn => List.mem_cons.mpr (.inl (List.mem_singleton.mp hn))).trans (Fx.set (List.mem_cons_of_mem _ List.mem_cons_self))
    refine names_turns6 hfp hwp hwf ws _ (ns.set r.toNat x) _ ?_ (get_set hf2) (by rw [List.length_set]; exact hl) (fun y hy => ?_) ?_ fun S' ns' e6 f' fd' a b c => q S' ns' e6 (fx.trans f') fd' a b c
    · obtain ⟨d, st, a, r⟩ := fd2
      exact ⟨d, st, by rw [List.getElem?_set_ne hfp]; exact a, r⟩
    · rcases List.mem_or_eq_of_mem_set hy with hy | rfl
      · exact hn y hy
      · exact words_nq _ hxw
    · rw [List.getElem?_set_ne (Ne.symm hwf)]
      exact hw2
theorem vc_names6 {p : Nat} {S : Store} {D : MD} (h : FdS S p) (q : ∀ (n : Nat) (ns : List Str) (S' : Store), Fx [p] S S' → FdS S' p → S.length ≤ n → S'[n]? = some (.lst (ns.map W.str)) → ns.length = 8 → (∀ x ∈ ns, Nq x) → D.rt (.ref n) S') : m_x_law_names TakeC PickC D [some (.ref p), none, none, none, none, none, none, none] S := by
  unfold m_x_law_names
  simp only [mSeq, mIfS, mRet, mRetN, mAsg, mDrop, mTest, mBin, mChain, mTru, mAnd, mOr, mNot, mAndV, mOrV, mNotV, mIf, mVar, mC, mCons, mNil, mTup, mLst, mCB, mgName, mNext, mIt, mPar, mAug, lk, wLen_tup, wLe_int, wLt_int, wGt_int, wEq_int, wNe_int, wEq_str, wNe_str, wIx_tup, wAt0, wAt1, wAt2, wAt3, oW_s, tru_bl, List.set]
  refine take_call h (by decide) (by decide) fun a S1 a0 a1 f1 fd1 => ?_
  refine take_call fd1 (by decide) (by decide) fun b S2 b0 b1 f2 fd2 => ?_
  obtain ⟨c, hc, hcz⟩ := az_at b0 b1
  refine str_ix (by show AZ.length ≤ sizeLine; decide) hc ?_
  refine take_call fd2 (by decide) (by decide) fun d S3 d0 d1 f3 fd3 => ?_
  obtain ⟨tl, tz⟩ := rep_sign c d0
  refine ⟨⟨by omega, d0, by show 1 ≤ 1000; decide⟩, by show 2 ≤ sizeLine; decide, ?_⟩
  have f13 := (f1.trans f2).trans f3
  refine ⟨rfl, ⟨rfl, ?_⟩⟩
  generalize strRep ⟨#[c]⟩ d = tail at tl tz ⊢
  have tail7 : tail.length ≤ 7 := by omega
  have tailz : ∀ e ∈ tail.cps.toList, 97 ≤ e ∧ e ≤ 122 := fun e he => by rw [tz e he]; exact az_ok c hcz
  refine names_comp (e0 := some (.ref p)) (e4 := none) (e5 := none) (e6 := none) (a := a) (tail := tail) tail7 fun S4 h4 at4 => ?_
  have nl := len8 (Ev05.nameAt a tail)
  have nv : ∀ x ∈ (rgW 0 8).map (Ev05.nameAt a tail), Nq x := fun x hx => by
    obtain ⟨w, _, rfl⟩ := List.mem_map.mp hx
    exact nameAt_nq tail7 tailz tz
  generalize (rgW 0 8).map (Ev05.nameAt a tail) = ns at at4 nl nv
  have e12 : 12 ≤ sizeLine := by decide
  have e2 : 2 ≤ sizeLine := by decide
  have e14 : 14 ≤ sizeLine := by decide
  refine ⟨e12, ?_⟩
  refine ⟨e2, ?_⟩
  refine add_lst (Ex.one.at (new_at S4 _)) (new_at _ _) e14 ?_
  have at5 := new_at (S4 ++ [O.lst [W.str "num", .str "name", .str "fun", .str "call", .str "let", .str "now", .str "letall", .str "made", .str "by", .str "sum", .str "minus", .str "less"]] ++ [O.lst [W.str "same", .str "yes"]]) (.lst (words.map W.str))
  have ex5 : Ex S4 (S4 ++ [O.lst [W.str "num", .str "name", .str "fun", .str "call", .str "let", .str "now", .str "letall", .str "made", .str "by", .str "sum", .str "minus", .str "less"]] ++ [O.lst [W.str "same", .str "yes"]]) := Ex.one.trans Ex.one
  generalize S4 ++ [O.lst [W.str "num", .str "name", .str "fun", .str "call", .str "let", .str "now", .str "letall", .str "made", .str "by", .str "sum", .str "minus", .str "less"]] ++ [O.lst [W.str "same", .str "yes"]] = S5 at at5 ex5 ⊢
  show mFor _ _ _ _ [some (.ref p), some (.str AZ), some (.int a), some (.str tail), some (.ref S3.length), some (.ref S5.length), none, none] (S5 ++ [.lst (words.map W.str)])
  generalize hS6 : S5 ++ [O.lst (words.map W.str)] = S6 at at5 ⊢
  have e4 : 4 ≤ sizeLine := by decide
  have ex6 : Ex S4 S6 := ex5.trans ⟨_, hS6.symm⟩
  have fd6 : FdS S6 p := (fd3.ex h4).ex ex6
  have at6 : S6[S3.length]? = some (.lst (ns.map W.str)) := ex6.at at4
  have p3 : p < S3.length := fd3.lt
  have p5 : S3.length < S5.length := Nat.lt_of_lt_of_le (lt_len at4) ex5.len
  refine ⟨e4, ?_⟩
  refine pick_call (l := [W.int 0, .int 0, .int 1, .int 4]) (fd6.ex Ex.one) (fun z => ?_) (by unfold seqW; dsimp only; rw [new_at]) (by show 0 < 4; decide) (by show 4 < 1000000; decide) fun x S7 hx f7 fd7 => ?_
  · have := W.ref.inj z
    have l6 := lt_len at5
    omega
  obtain ⟨r, rfl, r0, r1⟩ : ∃ r : Int, x = .int r ∧ 0 ≤ r ∧ r ≤ 4 := by
    simp only [List.mem_cons, List.not_mem_nil, or_false] at hx
    rcases hx with rfl | rfl | rfl | rfl <;> exact ⟨_, rfl, by decide, by decide⟩
  refine ⟨⟨by omega, by omega⟩, ?_⟩
  have a7 : S7[S3.length]? = some (.lst (ns.map W.str)) := f7.keep _ _ (by simp; omega) (Ex.one.at at6)
  have b7 : S7[S5.length]? = some (.lst (words.map W.str)) := f7.keep _ _ (by simp; omega) (Ex.one.at at5)
  refine names_turns6 (f := S3.length) (w := S5.length) (by omega) (by omega) (by omega) _ S7 ns none fd7 a7 nl nv b7 fun S8 ns8 e6 f8 fd8 a8 l8 n8 => ?_
  have f17 : Fx [p] S S7 := ((f13.trans (Fx.ex (h4.trans ex6))).trans (Fx.ex Ex.one)).trans f7
  refine q S3.length ns8 S8 ⟨Nat.le_trans f17.len f8.len, fun n o hn e => f8.keep n o (fun z => ?_) (f17.keep n o hn e)⟩ fd8 f13.len a8 l8 n8
  rcases List.mem_cons.mp z with z | z
  · exact hn (List.mem_singleton.mpr z)
  · have h1 := List.mem_singleton.mp z
    have h2 := lt_len e
    have h3 := f13.len
    omega
abbrev NamesC6 : Con := ⟨Nat, fun p ws S => ws = [.ref p] ∧ FdS S p, fun p S w S' => ∃ (n : Nat) (ns : List Str), w = .ref n ∧ Fx [p] S S' ∧ FdS S' p ∧ S.length ≤ n ∧ S'[n]? = some (.lst (ns.map W.str)) ∧ ns.length = 8 ∧ ∀ x ∈ ns, Nq x⟩
theorem vd_names6 : Vc 8 (m_x_law_names TakeC PickC) NamesC6 := fun p ws S ⟨e, h⟩ => by
  subst e
  exact vc_names6 h fun n ns S' a b c d e f => ⟨n, ns, rfl, a, b, c, d, e, f⟩
end Ev06

set_option Elab.async false
set_option linter.all false
set_option maxRecDepth 100000
set_option maxHeartbeats 1000000
/-! _law_around_right, whole. -/
namespace Ev06
open PySem PySem.Spec PyProof.Rows L2 Ow Ev OwT EvT Ev05
def twoE : ME := (mLst (mCons (mTup (mCons (mC (.str "let")) (mCons (mVar 3) mNil))) (mCons (mTup (mCons (mC (.str "now")) (mCons (mVar 4) mNil))) mNil)))
theorem around_eq : m_x_law_around_right ButC FreeC IsTC = (mSeq (mAsg (mVar 2) (mgUnl 3 (mgCons (mgName 3) (mgCons (mgName 4) (mgCons (mgName 5) mgNil)))))
  (mSeq (mAsg firstE (mgName 6))
  (mSeq (mFor (mIt twoE) (mgTup 2 (mgCons (mgName 7) (mgCons (mgName 8) mgNil))) letB)
  (mSeq (mAsg pairsE (mgName 9))
  (mSeq allB
  (mSeq (mAsg linesE (mgName 10))
  (mSeq lineB
  (mSeq (mFor (mIt (mVar 6)) (mgTup 2 (mgCons (mgName 11) (mgCons (mgName 12) mgNil))) chkB)
  (mRet (mC (.bl true))))))))))) := rfl
section
variable {S : Store} {D : MD} {ns : List Str} {one other : T} {x y z : Str} {m : Nat}
theorem two_loop {S0 : Store} {L n : Nat} {its : List Item} {e2 e7 e8 e9 e10 e11 e12 : Option W} (h : Ar ns one other x y z) (st : St6 S0 S ns L its) (hl : its.length ≤ 1) (hn : n ≠ L) (hS : S[n]? = some (.lst [.tup [.str "let", .str x], .tup [.str "now", .str y]]))
    (k : ∀ S' its' e7 e8, St6 S0 S' ns L its' → its'.length ≤ 3 → D.nx [some (tW one), some (tW other), e2, some (.str x), some (.str y), some (.str z), some (.ref L), e7, e8, e9, e10, e11, e12] S') :
    forL (fun S' => S'[n]? = some (.lst [.tup [.str "let", .str x], .tup [.str "now", .str y]])) (mgTup 2 (mgCons (mgName 7) (mgCons (mgName 8) mgNil))) letB D [.tup [.str "let", .str x], .tup [.str "now", .str y]] [some (tW one), some (tW other), e2, some (.str x), some (.str y), some (.str z), some (.ref L), e7, e8, e9, e10, e11, e12] S := by
  refine ⟨hS, rfl, ?_⟩
  simp only [mgCons, mgNil, mgName, List.set]
  refine ⟨trivial, ?_⟩
  refine let_item (.inl rfl) h.hx h st (by omega) fun S1 p1 st1 kp1 => ?_
  refine ⟨kp1 n _ hn hS, rfl, ?_⟩
  simp only [mgCons, mgNil, mgName, List.set]
  refine ⟨trivial, ?_⟩
  refine let_item (.inr rfl) h.hy h st1 (by rw [List.length_append, List.length_singleton]; omega) fun S2 p2 st2 kp2 => ?_
  refine ⟨kp2 n _ hn (kp1 n _ hn hS), ?_⟩
  exact k S2 _ _ _ st2 (by rw [List.length_append, List.length_append, List.length_singleton, List.length_singleton]; omega)
theorem vc_around6 (h : Ar ns one other x y z) (hm : S[m]? = some (.lst [.str x, .str y, .str z])) (k : ∀ S', Ex S S' → D.rt (.bl true) S') :
    m_x_law_around_right ButC FreeC IsTC D [some (tW one), some (tW other), some (.ref m), none, none, none, none, none, none, none, none, none, none] S := by
  rw [around_eq]
  refine seq_ok ?_
  simp only [mAsg, mVar, lk]
  show oL S[m]? _
  rw [hm]
  refine ⟨rfl, ?_⟩
  simp only [mgCons, mgNil, mgName, List.set]
  refine ⟨trivial, ?_⟩
  refine sa (i := 6) ?_
  refine first_ok h fun L S1 its st hl => ?_
  simp only [List.set]
  refine seq_ok ?_
  unfold mFor mIt twoE
  simp only [mLst, mTup, mCons, mNil, mVar, mC, lk]
  refine ⟨sz2, sz2, sz2, ?_⟩
  have x2 : Ex S1 (S1 ++ [O.lst [.tup [.str "let", .str x], .tup [.str "now", .str y]]]) := Ex.one
  have lL := lt_len st.at_
  have at2 : (S1 ++ [O.lst [W.tup [.str "let", .str x], .tup [.str "now", .str y]]])[S1.length]? = some (.lst [.tup [.str "let", .str x], .tup [.str "now", .str y]]) := new_at S1 _
  rw [walk_lst at2]
  refine two_loop h (st.grow x2) hl (by omega) at2 fun S3 its3 e7 e8 st3 hl3 => ?_
  dsimp only
  refine sa (i := 9) ?_
  unfold pairsE
  simp only [mTup, mCons, mNil, mVar, mC, lk]
  refine ⟨sz3, sz2, sz3, sz3, sz2, sz2, ?_⟩
  simp only [List.set]
  refine seq_ok ?_
  refine all_item h st3 (by omega) fun S4 p4 st4 => ?_
  dsimp only
  refine sa (i := 10) ?_
  unfold linesE
  simp only [mTup, mCons, mNil, mVar, mC, lk]
  refine ⟨sz2, sz3, sz0, sz3, sz2, ?_⟩
  simp only [List.set]
  refine seq_ok ?_
  refine by_item h st4 (by rw [List.length_append, List.length_singleton]; omega) fun S5 p5 st5 => ?_
  dsimp only
  refine seq_ok ?_
  show wIt (.ref L) S5 _
  rw [walk_lst st5.at_]
  refine chk_all (S0 := S) h.h8 h.nm (fun S' e11 e12 x' => ?_) _ S5 none none st5.ok st5.at_ st5.ex
  exact k S' x'
end
abbrev AroundC6 : Con := ⟨T × T × Nat × Str × Str × Str × List Str, fun (one, other, m, x, y, z, ns) ws S => ws = [tW one, tW other, .ref m] ∧ S[m]? = some (.lst [.str x, .str y, .str z]) ∧ Ar ns one other x y z, fun _ S w S' => w = .bl true ∧ Ex S S'⟩
theorem vd_around6 : Vc 13 (m_x_law_around_right ButC FreeC IsTC) AroundC6 := fun (one, other, m, x, y, z, ns) ws S ⟨e, hm, h⟩ => by
  subst e
  exact vc_around6 h hm fun S' x => ⟨rfl, x⟩
end Ev06

set_option Elab.async false
set_option linter.all false
set_option maxRecDepth 100000
set_option maxHeartbeats 1000000
/-! is_program; tables; fresh names. -/
namespace Ev06
open PySem PySem.Spec PyProof.Rows L2 Ow Ev OwT EvT Ev05
def Fr (x : W) : Prop := ∀ t, x = tW t → WF t → nodes t ≤ 300 → deep t ≤ 60 → ∃ fs : List Str, fs.length < 64 ∧ ∀ k, Free k t → k ∈ fs
def IsP6C : Con := ⟨W, fun x ws S => ws = [x] ∧ dat S x ∧ Fr x, fun x S w S' => ∃ b, w = .bl b ∧ (b = true ↔ isP x) ∧ Ex S S'⟩
theorem isP6_call {x : W} {S : Store} {Q : WK} (h : dat S x) (z : Fr x) (q : ∀ b S', (b = true ↔ isP x) → Ex S S' → Q (.bl b) S') : conR IsP6C [x] S Q :=
  ⟨x, ⟨rfl, h, z⟩, fun w S' ⟨b, e, a, c⟩ => by rw [e]; exact q b S' a c⟩
theorem vd_is_program6 : Vc 1 (m_is_program IsTC FreeC) IsP6C := fun x ws S ⟨e, h, z⟩ => by
  subst e
  show m_is_program IsTC FreeC _ [some x] S
  unfold m_is_program
  simp only [mSeq, mIfS, mRet, mRetN, mAsg, mDrop, mTest, mBin, mChain, mTru, mAnd, mOr, mNot, mAndV, mOrV, mNotV, mIf, mVar, mC, mCons, mNil, mTup, mLst, mCB, mgName, mNext, mIt, mPar, mAug, lk, wLen_tup, wLe_int, wLt_int, wGt_int, wEq_int, wNe_int, wEq_str, wNe_str, wIx_tup, wAt0, wAt1, wAt2, wAt3, oW_s, tru_bl, List.set]
  refine isT_call h fun b S1 hb h1 => ?_
  refine ifB (fun e => ?_) fun e => ?_
  · subst e
    obtain ⟨t, rfl, w, hn, hd⟩ := hb.mp rfl
    obtain ⟨fs, l, f⟩ := z t rfl w hn hd
    refine free_call w hn l f fun n ys S2 h2 l2 a2 m2 => ?_
    refine len_seq (l := ys.map W.str) (by unfold seqW; dsimp only; rw [a2]) ?_
    rw [wEq_int, List.length_map]
    refine ⟨_, rfl, ?_, h1.trans h2⟩
    rw [decide_eq_true_iff]
    constructor
    · intro e
      have e0 : ys = [] := List.eq_nil_of_length_eq_zero (by omega)
      subst e0
      exact ⟨t, rfl, w, hn, hd, fun k hk => by cases (m2 k).mpr hk⟩
    · rintro ⟨u, eu, wu, _, _, fu⟩
      obtain rfl := tW_inj t u w wu eu
      cases ys with
      | nil => rfl
      | cons y ys => exact absurd ((m2 y).mp List.mem_cons_self) (fu y)
  · subst e
    exact ⟨false, rfl, ⟨(fun z => by cases z), fun z => absurd (hb.mpr (isP_of z)) (by decide)⟩, h1⟩
theorem isP_iff {t : T} (w : WF t) (hn : nodes t ≤ 300) (hd : deep t ≤ 60) : isP (tW t) ↔ ∀ k, ¬ Free k t := by
  constructor
  · rintro ⟨u, eu, wu, _, _, fu⟩
    obtain rfl := tW_inj t u w wu eu
    exact fu
  · exact fun h => ⟨t, rfl, w, hn, hd, h⟩
theorem fr_of {t : T} {ns : List Str} (w : WF t) (h8 : ns.length < 64) (hf : ∀ k, Free k t → k ∈ ns) : Fr (tW t) := fun u e wu _ _ => by
  obtain rfl := tW_inj t u w wu e
  exact ⟨ns, h8, hf⟩
/-! ### tables -/
theorem val_put (l : List (Key × W)) (k c : Key) (w : W) : valW (putW l k w) c = if k = c then some w else valW l c := by
  unfold putW
  by_cases h : (l.any fun kv => decide (kv.1 = k)) = true
  · rw [if_pos h]
    induction l with
    | nil => cases h
    | cons p l ih =>
      unfold valW at ih ⊢
      rw [List.map_cons, List.find?_cons, List.find?_cons]
      by_cases e : p.1 = k
      · rw [if_pos e]
        by_cases e2 : p.1 = c
        · rw [decide_eq_true e2, if_pos (e.symm.trans e2)]
          rfl
        · have e3 : ¬ k = c := fun z => e2 (e.trans z)
          rw [decide_eq_false e2, if_neg e3]
          by_cases h2 : (l.any fun kv => decide (kv.1 = k)) = true
          · have := ih h2
            rw [if_neg e3] at this
            exact this
          · have e5 : (l.map fun kv => if kv.1 = k then (kv.1, w) else kv) = l := by
              refine (List.map_congr_left fun q hq => ?_).trans (List.map_id l)
              refine if_neg fun z => h2 ?_
              exact List.any_eq_true.mpr ⟨q, hq, decide_eq_true z⟩
            rw [e5]
      · rw [if_neg e]
        by_cases e2 : p.1 = c
        · have e3 : ¬ k = c := fun z => e (e2.trans z.symm)
          rw [decide_eq_true e2, if_neg e3]
        · rw [decide_eq_false e2]
          rw [List.any_cons, decide_eq_false e, Bool.false_or] at h
          exact ih h
  · rw [if_neg h]
    have hn : ∀ p ∈ l, ¬ p.1 = k := fun p hp z => h (List.any_eq_true.mpr ⟨p, hp, decide_eq_true z⟩)
    clear h
    induction l with
    | nil =>
      show ([(k, w)].find? fun kv => decide (kv.1 = c)).map (·.2) = _
      rw [List.find?_cons]
      by_cases e : k = c
      · rw [decide_eq_true e, if_pos e]
        rfl
      · rw [decide_eq_false e, if_neg e]
        rfl
    | cons p l ih =>
      have ih := ih fun q hq => hn q (List.mem_cons_of_mem _ hq)
      unfold valW at ih ⊢
      rw [List.cons_append, List.find?_cons, List.find?_cons]
      by_cases e2 : p.1 = c
      · have e3 : ¬ k = c := fun z => hn p List.mem_cons_self (e2.trans z.symm)
        rw [decide_eq_true e2, if_neg e3]
      · rw [decide_eq_false e2]
        exact ih
theorem zip_out {x : Str} : ∀ (ks : List Str) (ws : List W) (l : List (Key × W)), x ∉ ks → valW (mergeW l (zipW ks ws)) (.inr x : Key) = valW l (.inr x : Key)
  | [], ws, l, _ => rfl
  | k :: ks, [], l, _ => rfl
  | k :: ks, w :: ws, l, h => by
    show valW (mergeW (putW l (.inr k : Key) w) (zipW ks ws)) _ = _
    rw [zip_out ks ws _ fun z => h (List.mem_cons_of_mem _ z), val_put, if_neg]
    intro z
    exact h (by rw [Sum.inr.inj z]; exact List.mem_cons_self)
theorem zip_in : ∀ (ks : List Str) (ws : List W) (l : List (Key × W)) (i : Nat) (x : Str) (w : W), ks.Nodup → ks[i]? = some x → ws[i]? = some w → valW (mergeW l (zipW ks ws)) (.inr x : Key) = some w
  | [], _, _, i, _, _, _, h, _ => by simp at h
  | k :: ks, [], _, i, _, _, _, _, h => by simp at h
  | k :: ks, v :: ws, l, i, x, w, nd, h1, h2 => by
    obtain ⟨n1, n2⟩ := List.nodup_cons.mp nd
    show valW (mergeW (putW l (.inr k : Key) v) (zipW ks ws)) _ = _
    cases i with
    | zero =>
      cases h1
      cases h2
      rw [zip_out ks ws _ n1, val_put, if_pos rfl]
    | succ i => exact zip_in ks ws _ i x w n2 h1 h2
theorem idx_at {x : Str} : ∀ (l : List Str), x ∈ l → l[l.idxOf x]? = some x
  | [], h => (List.not_mem_nil h).elim
  | a :: l, h => by
    rw [List.idxOf_cons]
    by_cases e : a = x
    · subst e
      simp
    · have hb : (a == x) = false := beq_eq_false_iff_ne.mpr e
      rw [hb]
      rcases List.mem_cons.mp h with h | h
      · exact absurd h.symm e
      · exact idx_at l h
/-- the table of names and of as many others -/
def toF (few rot : List Str) (x : Str) : Str := (rot[few.idxOf x]?).getD "a"
theorem toF_at {few rot : List Str} {x : Str} (h : x ∈ few) (hl : few.length ≤ rot.length) : rot[few.idxOf x]? = some (toF few rot x) := by
  have h1 : few.idxOf x < few.length := List.idxOf_lt_length_of_mem h
  unfold toF
  rw [List.getElem?_eq_getElem (by omega)]
  rfl
theorem toF_tab {few rot : List Str} (nd : few.Nodup) (hl : few.length ≤ rot.length) : Tab (mergeW [] (zipW few (rot.map W.str))) few (toF few rot) := fun x hx => by
  refine zip_in few _ [] (few.idxOf x) x _ nd (idx_at few hx) ?_
  rw [List.getElem?_map, toF_at hx hl]
  rfl
theorem toF_inj {few rot : List Str} (nr : rot.Nodup) (hl : few.length ≤ rot.length) : Inj (toF few rot) few := fun x hx y hy e => by
  have h1 := toF_at hx hl
  have h2 := toF_at hy hl
  rw [e, ← h2] at h1
  have hx1 : few.idxOf x < few.length := List.idxOf_lt_length_of_mem hx
  have hy1 : few.idxOf y < few.length := List.idxOf_lt_length_of_mem hy
  have e2 : few.idxOf x = few.idxOf y := (List.getElem?_inj (i := few.idxOf x) (by omega) nr).mp h1
  have a := idx_at few hx
  have b := idx_at few hy
  rw [e2, b] at a
  exact (Option.some.inj a).symm
theorem toF_mem {few rot : List Str} {x : Str} (h : x ∈ few) (hl : few.length ≤ rot.length) : toF few rot x ∈ rot := List.mem_of_getElem? (toF_at h hl)
/-- one name otherwise -/
def qF (name x : Str) : Str := if x = name then "qzq" else x
theorem key_out {x : Str} : ∀ (l : List Str) (acc : List (Key × W)), valW (mergeW acc (keyed (l.map fun y => (y, W.str y)))) (.inr x : Key) = if x ∈ l then some (.str x) else valW acc (.inr x : Key)
  | [], acc => by simp [keyed, mergeW]
  | k :: l, acc => by
    show valW (mergeW (putW acc (.inr k : Key) (.str k)) (keyed (l.map fun y => (y, W.str y)))) _ = _
    rw [key_out l, val_put]
    by_cases h : x ∈ l
    · rw [if_pos h, if_pos (List.mem_cons_of_mem _ h)]
    · rw [if_neg h]
      by_cases e : x = k
      · subst e
        rw [if_pos rfl, if_pos List.mem_cons_self]
      · rw [if_neg fun z => e (Sum.inr.inj z).symm, if_neg fun z => by
          rcases List.mem_cons.mp z with z | z
          · exact e z
          · exact h z]
theorem qF_tab {few : List Str} (name : Str) : Tab (mergeW [] (keyed ((few.map fun y => (y, W.str y)) ++ [(name, .str "qzq")]))) few (qF name) := fun x hx => by
  have e : mergeW [] (keyed ((few.map fun y => (y, W.str y)) ++ [(name, .str "qzq")])) = putW (mergeW [] (keyed (few.map fun y => (y, W.str y)))) (.inr name : Key) (.str "qzq") := by
    unfold keyed mergeW
    rw [List.map_append, List.foldl_append]
    rfl
  rw [e, val_put, key_out, if_pos hx]
  unfold qF
  by_cases h : x = name
  · subst h
    rw [if_pos rfl, if_pos rfl]
  · rw [if_neg fun z => h (Sum.inr.inj z).symm, if_neg h]
theorem qF_inj {few : List Str} {name : Str} (hq : ("qzq" : Str) ∉ few) : Inj (qF name) few := fun x hx y hy e => by
  unfold qF at e
  by_cases h1 : x = name
  · by_cases h2 : y = name
    · rw [h1, h2]
    · rw [if_pos h1, if_neg h2] at e
      exact absurd (by rw [e]; exact hy) hq
  · by_cases h2 : y = name
    · rw [if_neg h1, if_pos h2] at e
      exact absurd (by rw [← e]; exact hx) hq
    · rw [if_neg h1, if_neg h2] at e
      exact e
/-! ### fresh names -/
def frA (j : Nat) (r : Int) : Str := (("q" : Str) ++ (⟨#[97 + j]⟩ : Str)) ++ strRep (⟨#[119]⟩ : Str) r
theorem frA_ok {j : Nat} {r : Int} (hj : j < 8) (h0 : 0 ≤ r) (h1 : r < 7) : isNm (frA j r) = true ∧ (frA j r).cps.toList[1]? = some (97 + j) ∧ (frA j r).length ≤ 8 := by
  obtain ⟨a, b⟩ := rep_sign 119 h0
  have e : (frA j r).cps.toList = 113 :: (97 + j) :: (strRep (⟨#[119]⟩ : Str) r).cps.toList := by
    unfold frA
    show (((("q" : String) : Str).cps ++ (#[97 + j] : Array Nat)) ++ (strRep (⟨#[119]⟩ : Str) r).cps).toList = _
    rw [Array.toList_append, Array.toList_append]
    have : (("q" : String) : Str).cps.toList = [113] := by decide +kernel
    rw [this]
    rfl
  have l : (frA j r).length = 2 + (strRep (⟨#[119]⟩ : Str) r).length := by
    have h3 : (frA j r).cps.toList.length = (frA j r).length := Array.length_toList
    have h4 : (strRep (⟨#[119]⟩ : Str) r).cps.toList.length = (strRep (⟨#[119]⟩ : Str) r).length := Array.length_toList
    rw [← h3, e, List.length_cons, List.length_cons, h4]
    omega
  refine ⟨?_, ?_, by omega⟩
  · unfold isNm
    rw [e, l, decide_eq_true (by omega), Bool.true_and, List.all_cons, List.all_cons, Bool.and_eq_true, Bool.and_eq_true, List.all_eq_true]
    exact ⟨by decide, decide_eq_true (by omega), fun d hd => decide_eq_true (by rw [b d hd]; omega)⟩
  · rw [e]
    rfl
/-- a list of fresh names -/
def FreshL (l : List Str) : Prop := ∀ i x, l[i]? = some x → isNm x = true ∧ x.cps.toList[1]? = some (97 + i)
theorem FreshL.nodup {l : List Str} (h : FreshL l) : l.Nodup := by
  refine List.pairwise_iff_getElem.mpr fun i j hi hj hij e => ?_
  have h1 := (h i _ (List.getElem?_eq_getElem hi)).2
  have h2 := (h j _ (List.getElem?_eq_getElem hj)).2
  rw [e, h2] at h1
  have := Option.some.inj h1
  omega
theorem FreshL.nm {l : List Str} (h : FreshL l) : ∀ x ∈ l, isNm x = true := fun x hx => by
  obtain ⟨i, hi⟩ := List.getElem?_of_mem hx
  exact (h i x hi).1
end Ev06

set_option Elab.async false
set_option linter.all false
set_option maxRecDepth 100000
set_option maxHeartbeats 1000000
/-! The law's expressions. -/
namespace Ev06
open PySem PySem.Spec PyProof.Rows L2 Ow Ev OwT EvT Ev05
theorem cut_mfrom (ys : List Str) (k : Nat) : cutG (ys.map W.str) (some (k : Int)) none = (ys.drop (min k ys.length)).map W.str := by
  rw [cut_from, List.length_map, List.map_drop]
theorem cut_mto (ys : List Str) (k : Nat) : cutG (ys.map W.str) none (some (k : Int)) = (ys.take (min k ys.length)).map W.str := by
  rw [cut_to, List.length_map, List.map_take]
theorem sl_at {n : Nat} {l : List W} {lo hi : Option Int} {S : Store} {Q : WK} (h : S[n]? = some (.lst l)) (q : Q (.ref S.length) (S ++ [.lst (cutG l lo hi)])) : wSl (.ref n) lo hi S Q := by
  show oL S[n]? _
  rw [h]
  exact q
theorem fresh {p n : Nat} {A S' : Store} (h : Fx [p, n] A S') (hn : A.length ≤ n) : Fx [p] A S' := ⟨h.len, fun m u hm e => h.keep m u (fun z => by
  rcases List.mem_cons.mp z with z | z
  · exact hm (List.mem_singleton.mpr z)
  · have := List.mem_singleton.mp z
    have := lt_len e
    omega) e⟩
def termE : ME := (mCB (conR (TermC 6)) (mCons (mVar 2) (mCons (mVar 4) (mCons (mLst (mCons (mCB (conR PickC) (mCons (mVar 2) (mCons (mLst (mCons (mC (.int 3)) (mCons (mC (.int 10)) (mCons (mC (.int 40)) mNil)))) mNil))) mNil)) (mCons (mBin wAdd (mC (.int 1)) (mCB (conR TakeC) (mCons (mVar 2) (mCons (mC (.int 6)) mNil)))) mNil)))))
def arE : MT := (mAnd (mTest (mBin wGt (mCB wLen (mCons (mVar 4) mNil)) (mC (.int 2)))) (mNot (mTru (mCB (conR AroundC6) (mCons (mVar 5) (mCons (mVar 6) (mCons (mSl (mVar 4) mNoP (mP (mC (.int 3)))) mNil)))))))
section
variable {S : Store} {env : EvS} {Q : WK} {p F : Nat} {few : List Str} {one other : T}
theorem term_ok (h2 : lk env 2 = some (.ref p)) (h4 : lk env 4 = some (.ref F)) (s : Src S p F few) (k : ∀ t S', Good few t → WF t → nodes t ≤ 136 → deep t ≤ 13 → Fx [p] S S' → Src S' p F few → Q (tW t) S') : termE env S Q := by
  have pl := s.fd.lt
  have fl := lt_len s.at_
  unfold termE
  simp only [mCB, mLst, mBin, mCons, mNil, mVar, mC]
  rw [h2, h4]
  dsimp only
  refine ⟨sz3, ?_⟩
  have x1 : Ex S (S ++ [O.lst [.int 3, .int 10, .int 40]]) := Ex.one
  have s1 := s.ex x1
  refine pick_call (l := [.int 3, .int 10, .int 40]) s1.fd (by intro e; have := W.ref.inj e; omega) (seq_rf (new_at S _)) (by decide) (by decide) fun w S2 hw f2 fd2 => ?_
  have s2 := s1.one f2 fd2
  obtain ⟨b, rfl, hb⟩ : ∃ b : Int, w = .int b ∧ 0 ≤ b ∧ b ≤ 40 := by
    simp only [List.mem_cons, List.not_mem_nil, or_false] at hw
    rcases hw with rfl | rfl | rfl <;> exact ⟨_, rfl, by decide, by decide⟩
  refine ⟨sz1, ?_⟩
  have x3 : Ex S2 (S2 ++ [O.lst [.int b]]) := Ex.one
  have s3 := s2.ex x3
  have l12 := f2.len
  have l01 := x1.len
  refine take_call s3.fd (by decide) (by decide) fun d S4 d0 d1 f4 fd4 => ?_
  have s4 := s3.one f4 fd4
  have b4 : S4[S2.length]? = some (.lst [.int b]) := f4.keep _ _ (by simp; omega) (new_at S2 _)
  have x8 : Bx S4 p F S2.length few b := ⟨s4, b4, by omega, by omega⟩
  show conR (TermC 6) [.ref p, .ref F, .ref S2.length, .int (1 + d)] S4 _
  refine term_call (n := 6) x8 (by omega) fun t b' S5 g w hn hlo hd f5 x5 => ?_
  have f03 : Fx [p] S (S2 ++ [O.lst [.int b]]) := ((Fx.ex x1).trans f2).trans (Fx.ex x3)
  have f05 : Fx [p, S2.length] S S5 := (fx1 (f03.trans f4)).trans f5
  refine k t S5 g w (by omega) (by omega) (fresh f05 (by omega)) x5.src
theorem ar_ok {R : Bool → Store → Prop} (h4 : lk env 4 = some (.ref F)) (h5 : lk env 5 = some (tW one)) (h6 : lk env 6 = some (tW other)) (hF : S[F]? = some (.lst (few.map W.str))) (nd : few.Nodup) (hl : few.length ≤ 8) (nm : ∀ x ∈ few, isNm x = true)
    (g1 : Good few one) (w1 : WF one) (n1 : nodes one ≤ 136) (g2 : Good few other) (w2 : WF other) (n2 : nodes other ≤ 136) (k : ∀ S', Ex S S' → R false S') : arE env S R := by
  unfold arE
  simp only [mAnd, mNot, mTru, mTest, mBin, mCB, mSl, mNoP, mP, mCons, mNil, mVar, mC]
  rw [h4, h5, h6]
  dsimp only
  refine len_seq (l := few.map W.str) (seq_rf hF) ?_
  rw [List.length_map]
  show if decide ((2 : Int) < few.length) = true then _ else _
  refine ifB (fun c => ?_) fun _ => k S Ex.refl
  have c := of_decide_eq_true c
  refine sl_at hF ?_
  rw [show (3 : Int) = ((3 : Nat) : Int) from rfl, cut_mto]
  have e3 : min 3 few.length = 3 := by omega
  rw [e3]
  match few, c, nd, g1, g2, nm, hl with
  | [], c, _, _, _, _, _ => exact absurd c (by decide)
  | [_], c, _, _, _, _, _ => exact absurd c (by show ¬ (2 : Int) < 1; decide)
  | [_, _], c, _, _, _, _, _ => exact absurd c (by show ¬ (2 : Int) < 2; decide)
  | x :: y :: z :: r, c, nd, g1, g2, nm, hl =>
    have x1 : Ex S (S ++ [O.lst [W.str x, .str y, .str z]]) := Ex.one
    obtain ⟨a1, a2⟩ := List.nodup_cons.mp nd
    obtain ⟨b1, b2⟩ := List.nodup_cons.mp a2
    have ha : Ar (x :: y :: z :: r) one other x y z := ⟨g1, w1, by omega, g2, w2, by omega, hl, nm, by simp, by simp, by simp, fun e => a1 (by rw [e]; simp), fun e => a1 (by rw [e]; simp), fun e => b1 (by rw [e]; simp)⟩
    refine ⟨(one, other, S.length, x, y, z, x :: y :: z :: r), ⟨rfl, new_at S _, ha⟩, fun w S' ⟨e, x2⟩ => ?_⟩
    subst e
    exact k S' (x1.trans x2)
/-! ### fresh -/
def freshT : ME := (mBin wAdd (mBin wAdd (mC (.str "q")) (mBin wIx (mC (.str "abcdefgh")) (mVar 15))) (mBin wMul (mC (.str "w")) (mCB (conR TakeC) (mCons (mVar 2) (mCons (mC (.int 7)) mNil)))))
def freshE : ME := (mLc (mRg1 (mCons (mC (.int 8)) mNil)) (mgName 15) mYes freshT [15])
theorem ah_at {j : Nat} (h : j < 8) : wAt (("abcdefgh" : String) : Str).cps.toList (j : Int) = some (97 + j) := by
  have e : (("abcdefgh" : String) : Str).cps.toList = List.range' 97 8 := by decide +kernel
  rw [e, wAt_nat (by omega), List.getElem?_range' (by omega)]
  congr 1
  omega
theorem fresh_loop {n : Nat} (chk : Store → Prop) (hc : ∀ S, chk S) (h2 : ∀ w, lk (env.set 15 (some w)) 2 = some (.ref p)) (h15 : ∀ w, lk (env.set 15 (some w)) 15 = some w) (hnp : n ≠ p)
    (k : ∀ l S', FreshL l → l.length = 8 → Fx [p, n] S S' → FdS S' p → S'[n]? = some (.lst (l.map W.str)) → Q (.ref n) S') :
    ∀ (m j : Nat) (l : List Str) (S1 : Store), j + m = 8 → l.length = j → FreshL l → Fx [p, n] S S1 → FdS S1 p → S1[n]? = some (.lst (l.map W.str)) → lcL chk (mgName 15) mYes freshT n env Q ((List.range' j m).map fun (i : Nat) => W.int i) S1
  | 0, j, l, S1, hj, hl, fr, f, fd, at1 => ⟨hc S1, k l S1 fr (by omega) f fd at1⟩
  | m + 1, j, l, S1, hj, hl, fr, f, fd, at1 => by
    rw [List.range'_succ, List.map_cons]
    refine ⟨hc S1, ?_⟩
    show mYes (env.set 15 (some (.int (j : Int)))) S1 fun b S2 => if b = true then freshT (env.set 15 (some (.int (j : Int)))) S2 fun x S3 => ∃ acc, S3[n]? = some (.lst acc) ∧ acc.length < sizeLine ∧ lcL chk (mgName 15) mYes freshT n env Q ((List.range' (j + 1) m).map fun (i : Nat) => W.int i) (S3.set n (.lst (acc ++ [x]))) else lcL chk (mgName 15) mYes freshT n env Q ((List.range' (j + 1) m).map fun (i : Nat) => W.int i) S2
    generalize hNX : lcL chk (mgName 15) mYes freshT n env Q ((List.range' (j + 1) m).map fun (i : Nat) => W.int i) = NX
    show (if true = true then freshT (env.set 15 (some (.int (j : Int)))) S1 (fun x S3 => ∃ acc, S3[n]? = some (.lst acc) ∧ acc.length < sizeLine ∧ NX (S3.set n (.lst (acc ++ [x])))) else NX S1)
    rw [if_pos rfl]
    unfold freshT
    simp only [mBin, mCB, mCons, mNil, mVar, mC]
    rw [h2, h15]
    dsimp only
    refine str_ix (by decide +kernel) (ah_at (show j < 8 by omega)) ?_
    refine ⟨by show ("q" : Str).length + 1 ≤ sizeLine; decide, ?_⟩
    refine take_call fd (by decide) (by decide) fun r S2 r0 r1 f2 fd2 => ?_
    refine ⟨⟨by omega, r0, by decide +kernel⟩, ?_⟩
    obtain ⟨a1, a2, a3⟩ := frA_ok (show j < 8 by omega) r0 (show r < 7 by omega)
    have at2 := f2.keep n _ (fun z => hnp (List.mem_singleton.mp z)) at1
    have ew : (("w" : String) : Str) = ⟨#[119]⟩ := by decide +kernel
    rw [ew]
    have hlen : ((("q" : String) : Str) ++ (⟨#[97 + j]⟩ : Str)).length + (strRep (⟨#[119]⟩ : Str) r).length ≤ sizeLine := by
      have h3 : (frA j r).length = ((("q" : String) : Str) ++ (⟨#[97 + j]⟩ : Str)).length + (strRep (⟨#[119]⟩ : Str) r).length := Str.length_append ..
      rw [← h3]
      exact Nat.le_trans a3 (by decide)
    refine ⟨hlen, _, at2, ?_, ?_⟩
    · rw [List.length_map, hl]
      exact Nat.lt_trans (show j < 8 by omega) (by decide)
    · have e : l.map W.str ++ [W.str (frA j r)] = (l ++ [frA j r]).map W.str := by
        rw [List.map_append]
        rfl
      show NX (S2.set n (.lst (l.map W.str ++ [W.str (frA j r)])))
      rw [e, ← hNX]
      refine fresh_loop chk hc h2 h15 hnp k m (j + 1) (l ++ [frA j r]) _ (by omega) (by rw [List.length_append, List.length_singleton]; omega) (fun i x hx => ?_) ((f.trans (fx1 f2)).trans (Fx.set (by simp))) ?_ (get_set at2)
      · by_cases hi : i < l.length
        · rw [List.getElem?_append_left hi] at hx
          exact fr i x hx
        · rw [List.getElem?_append_right (by omega)] at hx
          have hi2 : i - l.length = 0 := by
            rcases Nat.eq_zero_or_pos (i - l.length) with z | z
            · exact z
            · have : [frA j r][i - l.length]? = none := List.getElem?_eq_none (by rw [List.length_singleton]; omega)
              rw [this] at hx
              cases hx
          rw [hi2] at hx
          cases hx
          have : i = j := by omega
          rw [this]
          exact ⟨a1, a2⟩
      · obtain ⟨d, st, a, r⟩ := fd2
        exact ⟨d, st, set_other a (fun z => hnp z.symm), r⟩
theorem fresh_ok (h2 : ∀ w, lk ((wpE env [15]).set 15 (some w)) 2 = some (.ref p)) (h15 : ∀ w, lk ((wpE env [15]).set 15 (some w)) 15 = some w) (fd : FdS S p) (k : ∀ n l S', FreshL l → l.length = 8 → Fx [p] S S' → FdS S' p → S.length ≤ n → S'[n]? = some (.lst (l.map W.str)) → Q (.ref n) S') : freshE env S Q := by
  have pl := fd.lt
  unfold freshE mLc mRg1
  simp only [mCons, mNil, mC]
  refine ⟨by decide, ?_⟩
  have e8 : rgW 0 (8 : Int).toNat = (List.range' 0 8).map fun (i : Nat) => W.int i := by
    unfold rgW
    rw [List.range_eq_range']
    refine List.map_congr_left fun j _ => ?_
    show W.int _ = W.int _
    congr 1
    omega
  rw [e8]
  have x1 : Ex S (S ++ [O.lst []]) := Ex.one
  refine fresh_loop (S := S ++ [O.lst []]) (p := p) (n := S.length) (fun _ => True) (fun _ => trivial) h2 h15 (by omega) (fun l S' fr l8 f fd' at' => ?_) 8 0 [] _ rfl rfl (fun i x hx => by simp at hx) Fx.refl (fd.ex x1) (new_at S _)
  exact k S.length l S' fr l8 (fresh ((Fx.ex x1).trans f) (Nat.le_refl _)) fd' (Nat.le_refl _) at'
/-! ### the table -/
def tabE : ME := (mDictZip (mVar 4) (mBin wAdd (mSl (mVar 7) (mP (mVar 8)) mNoP) (mSl (mVar 7) mNoP (mP (mVar 8)))))
theorem tab_ok {n : Nat} {r : Int} {l : List Str} (h4 : lk env 4 = some (.ref F)) (h7 : lk env 7 = some (.ref n)) (h8 : lk env 8 = some (.int r)) (hF : S[F]? = some (.lst (few.map W.str))) (nd : few.Nodup) (hl : few.length ≤ 8) (hn : S[n]? = some (.lst (l.map W.str))) (fr : FreshL l) (l8 : l.length = 8) (r0 : 0 ≤ r) (r1 : r < 8)
    (k : ∀ m kv f S', Ex S S' → S'[m]? = some (.dK kv) → Tab kv few f → Inj f few → (∀ x ∈ few, isNm (f x) = true) → Q (.ref m) S') : tabE env S Q := by
  obtain ⟨j, rfl⟩ : ∃ j : Nat, r = j := ⟨r.toNat, by omega⟩
  unfold tabE mDictZip
  simp only [mBin, mSl, mP, mNoP, mVar]
  rw [h4, h7, h8]
  dsimp only
  refine sl_at hn ?_
  rw [cut_mfrom]
  refine sl_at (Ex.one.at hn) ?_
  rw [cut_mto]
  have x1 : Ex S (S ++ [O.lst ((l.drop (min j l.length)).map W.str)]) := Ex.one
  have x2 : Ex (S ++ [O.lst ((l.drop (min j l.length)).map W.str)]) ((S ++ [O.lst ((l.drop (min j l.length)).map W.str)]) ++ [O.lst ((l.take (min j l.length)).map W.str)]) := Ex.one
  refine add_lst (x2.at (new_at S _)) (new_at _ _) (Nat.le_trans (show _ ≤ 16 by rw [List.length_map, List.length_map, List.length_drop, List.length_take]; omega) (by decide)) ?_
  rw [← List.map_append]
  generalize hr : l.drop (min j l.length) ++ l.take (min j l.length) = rot
  have x3 : Ex ((S ++ [O.lst ((l.drop (min j l.length)).map W.str)]) ++ [O.lst ((l.take (min j l.length)).map W.str)]) (((S ++ [O.lst ((l.drop (min j l.length)).map W.str)]) ++ [O.lst ((l.take (min j l.length)).map W.str)]) ++ [O.lst (rot.map W.str)]) := Ex.one
  have at3 := new_at ((S ++ [O.lst ((l.drop (min j l.length)).map W.str)]) ++ [O.lst ((l.take (min j l.length)).map W.str)]) (.lst (rot.map W.str))
  have xa := (x1.trans x2).trans x3
  generalize ((S ++ [O.lst ((l.drop (min j l.length)).map W.str)]) ++ [O.lst ((l.take (min j l.length)).map W.str)]) = S2 at at3 xa ⊢
  have perm : rot.Perm l := by
    rw [← hr]
    exact List.perm_append_comm.trans (List.Perm.of_eq (List.take_append_drop _ l))
  have nr : rot.Nodup := perm.nodup_iff.mpr fr.nodup
  have rl : few.length ≤ rot.length := by rw [perm.length_eq]; omega
  have nmr : ∀ x ∈ rot, isNm x = true := fun x hx => fr.nm x (perm.mem_iff.mp hx)
  show oL (S2 ++ [O.lst (rot.map W.str)])[F]? _
  rw [xa.at hF]
  show oL (S2 ++ [O.lst (rot.map W.str)])[S2.length]? _
  rw [at3]
  refine ⟨few, rfl, ?_⟩
  have x4 : Ex (S2 ++ [O.lst (rot.map W.str)]) ((S2 ++ [O.lst (rot.map W.str)]) ++ [O.dK (mergeW [] (zipW few (rot.map W.str)))]) := Ex.one
  exact k _ _ (toF few rot) _ (xa.trans x4) (new_at _ _) (toF_tab nd rl) (toF_inj nr rl) fun x hx => nmr _ (toF_mem hx rl)
end
end Ev06

set_option Elab.async false
set_option linter.all false
set_option maxRecDepth 100000
set_option maxHeartbeats 1000000
/-! The law's tests. -/
namespace Ev06
open PySem PySem.Spec PyProof.Rows L2 Ow Ev OwT EvT Ev05
def c1 : MT := (mOr (mTest (mBin wNe (mCB (conR FreeC) (mCons (mVar 10) mNil)) (mCB wSortL (mCons (mLc (mIt (mCB (conR FreeC) (mCons (mVar 5) mNil))) (mgName 11) mYes (mBin wIx (mVar 9) (mVar 11)) [11]) mNil)))) (mNot (mTru (mCB (conR IsTC) (mCons (mVar 10) mNil)))))
def c2 : MT := (mTest (mBin wNe (mCB (conR IsP6C) (mCons (mVar 10) mNil)) (mCB (conR IsP6C) (mCons (mVar 5) mNil))))
def againE : ME := (mCB (conR (CalledC 13)) (mCons (mVar 5) (mCons (mCB wDictP (mCons (mBin wAdd (mLc (mIt (mVar 4)) (mgName 16) mYes (mTup (mCons (mVar 16) (mCons (mVar 16) mNil))) [16]) (mLst (mCons (mTup (mCons (mVar 11) (mCons (mC (.str "qzq")) mNil))) mNil))) mNil)) mNil)))
def c3 : MT := (mTest (mBin wNe (mCB (conR FreeC) (mCons (mTup (mCons (mC (.str "let")) (mCons (mVar 11) (mCons (mVar 6) (mCons (mVar 5) mNil))))) mNil)) (mCB (conR FreeC) (mCons (mTup (mCons (mC (.str "let")) (mCons (mC (.str "qzq")) (mCons (mVar 6) (mCons (mVar 12) mNil))))) mNil))))
def dblF : W → W
  | w => .tup [w, w]
theorem qzq_nm : isNm "qzq" = true := by decide +kernel
section
variable {S : Store} {env : EvS} {R : Bool → Store → Prop} {Q : WK} {m F : Nat} {few : List Str} {one other : T} {f : Str → Str} {kv : List (Key × W)} {name : Str}
theorem c1_ok (h10 : lk env 10 = some (tW (ren f one))) (h5 : lk env 5 = some (tW one)) (h9 : ∀ w, lk ((wpE env [11]).set 11 (some w)) 9 = some (.ref m)) (h11 : ∀ w, lk ((wpE env [11]).set 11 (some w)) 11 = some w)
    (g : Good few one) (w : WF one) (hn : nodes one ≤ 136) (hd : deep one ≤ 13) (h8 : few.length ≤ 8) (nm : ∀ x ∈ few, isNm (f x) = true) (hf : Inj f few) (hm : S[m]? = some (.dK kv)) (hT : Tab kv few f) (k : ∀ S', Ex S S' → R false S') : c1 env S R := by
  have wr : WF (ren f one) := wf_ren hf nm one g w
  have nr : nodes (ren f one) ≤ 300 := by rw [nodes_ren]; omega
  have dr : deep (ren f one) ≤ 60 := by rw [deep_ren]; omega
  have fin : ∀ k, Free k (ren f one) → k ∈ few.map f := fun k hk => free_in _ (good_ren one g) hk
  unfold c1
  simp only [mOr, mNot, mTru, mTest, mBin, mCB, mCons, mNil, mVar]
  rw [h10]
  dsimp only
  refine fr_call wr nr fin (by rw [List.length_map]; exact h8) fun n ys S1 x1 l1 at1 _ nd so mem => ?_
  have inner : ∀ Q1 : WK, (∀ (n : Nat) (zs : List Str) (S' : Store), Ex S1 S' → S'[n]? = some (.lst ((zs.map f).map W.str)) → zs.Nodup → zs.length ≤ 8 → (∀ k, k ∈ zs ↔ Free k one) → Q1 (.ref n) S') → mLc (mIt (mCB (conR FreeC) (mCons (mVar 5) mNil))) (mgName 11) mYes (mBin wIx (mVar 9) (mVar 11)) [11] env S1 Q1 := fun Q1 kk => by
    unfold mLc mIt mCB mCons mNil
    simp only [mVar]
    rw [h5]
    dsimp only
    refine fr_call w (by omega) (fun k hk => free_in one g hk) h8 fun n2 zs S2 x2 l2 at2 z8 nd2 _ mem2 => ?_
    have key := comp_lst (i := n2) (l := zs.map W.str) (t := fun _ => true) (f := strF f) (E := fun w' => (wpE env [11]).set 11 (some w')) (m := fun e S R => R (.ref n2) S) (te := mBin wIx (mVar 9) (mVar 11)) (tt := mYes) (mg := mgName 11) (vs := [11]) (env := env) (S := S2) (S0 := S2)
      (Q := Q1) (fun R q => q) at2 (by rw [List.length_map]; omega) (fun w' hw S3 R r => r) (fun w' hw S3 k x q => q S3 Ex.refl) (fun w' hw _ S3 k x q => ?_) fun n3 S3 x3 l3 at3 => ?_
    · exact key
    · obtain ⟨z, hz, rfl⟩ := List.mem_map.mp hw
      simp only [mBin, mVar]
      rw [h9, h11]
      exact tb_at ((((x1.trans x2).trans x).at hm)) (hT z (free_in one g ((mem2 z).mp hz))) (q S3 Ex.refl)
    · rw [filter_true, strF_map] at at3
      exact kk n3 zs S3 (x2.trans x3) at3 nd2 z8 mem2
  refine inner _ fun n3 zs S3 x3 at3 nd2 z8 mem2 => ?_
  show oL S3[n3]? _
  rw [at3]
  refine ⟨zs.map f, rfl, by rw [List.length_map]; omega, fun us pm so2 => ?_⟩
  have ndf : (zs.map f).Nodup := nodup_ren hf (fun x hx => free_in one g ((mem2 x).mp hx)) nd2
  have e : us = ys := sorted_eq (pm.nodup_iff.mpr ndf) nd so2 so fun k => by
    rw [pm.mem_iff, mem, free_called hf g, List.mem_map]
    exact ⟨fun ⟨j, a, b⟩ => ⟨j, (mem2 j).mp a, b⟩, fun ⟨j, a, b⟩ => ⟨j, (mem2 j).mpr a, b⟩⟩
  subst e
  have x4 : Ex S3 (S3 ++ [O.lst (us.map W.str)]) := Ex.one
  refine ne_same (ys := us) (x4.at (x3.at at1)) (new_at S3 _) (fun y hy => ?_) ?_
  · obtain ⟨z, hz, rfl⟩ := List.mem_map.mp (fin y ((mem y).mp hy))
    exact nm z hz
  refine ifB (fun e => by cases e) fun _ => ?_
  refine isT_call (dat_tW _ wr) fun b S5 hb x5 => ?_
  have hb2 : b = true := hb.mpr ⟨_, rfl, wr, nr, dr⟩
  subst hb2
  exact k S5 (((x1.trans x3).trans x4).trans x5)
theorem c2_ok (h10 : lk env 10 = some (tW (ren f one))) (h5 : lk env 5 = some (tW one))
    (g : Good few one) (w : WF one) (hn : nodes one ≤ 136) (hd : deep one ≤ 13) (h8 : few.length ≤ 8) (nm : ∀ x ∈ few, isNm (f x) = true) (hf : Inj f few) (k : ∀ S', Ex S S' → R false S') : c2 env S R := by
  have wr : WF (ren f one) := wf_ren hf nm one g w
  have nr : nodes (ren f one) ≤ 300 := by rw [nodes_ren]; omega
  have dr : deep (ren f one) ≤ 60 := by rw [deep_ren]; omega
  have fin : ∀ k, Free k (ren f one) → k ∈ few.map f := fun k hk => free_in _ (good_ren one g) hk
  unfold c2
  simp only [mTest, mBin, mCB, mCons, mNil, mVar]
  rw [h10, h5]
  dsimp only
  refine isP6_call (dat_tW _ wr) (fr_of wr (by rw [List.length_map]; omega) fin) fun a S1 ha x1 => ?_
  refine isP6_call (dat_tW _ w) (fr_of w (by omega) (fun k hk => free_in one g hk)) fun b S2 hb x2 => ?_
  have e : a = b := by
    have h1 : a = true ↔ b = true := by
      rw [ha, hb, isP_iff wr nr dr, isP_iff w (by omega) (by omega)]
      constructor
      · exact fun h j hj => h (f j) ((free_called hf g _).mpr ⟨j, hj, rfl⟩)
      · intro h k hk
        obtain ⟨j, hj, _⟩ := (free_called hf g k).mp hk
        exact h j hj
    cases a <;> cases b <;> simp_all
  subst e
  show R (true ^^ decide (a = a)) S2
  rw [decide_eq_true rfl]
  exact k S2 (x1.trans x2)
theorem again_ok (h5 : lk env 5 = some (tW one)) (h4 : lk env 4 = some (.ref F)) (h11 : lk env 11 = some (.str name)) (h16 : ∀ w, lk ((wpE env [16]).set 16 (some w)) 16 = some w)
    (g : Good few one) (w : WF one) (hd : deep one ≤ 13) (h8 : few.length ≤ 8) (hF : S[F]? = some (.lst (few.map W.str))) (k : ∀ S', Ex S S' → Q (tW (ren (qF name) one)) S') : againE env S Q := by
  unfold againE
  simp only [mCB, mCons, mNil, mBin, mLst, mTup, mVar, mC]
  rw [h5, h11]
  dsimp only
  have inner : ∀ Q1 : WK, (∀ (n : Nat) (S' : Store), Ex S S' → S'[n]? = some (.lst (few.map fun z => .tup [.str z, .str z])) → Q1 (.ref n) S') → mLc (mIt (mVar 4)) (mgName 16) mYes (mTup (mCons (mVar 16) (mCons (mVar 16) mNil))) [16] env S Q1 := fun Q1 kk => by
    unfold mLc mIt mVar
    dsimp only
    rw [h4]
    have key := comp_lst (i := F) (l := few.map W.str) (t := fun _ => true) (f := dblF) (E := fun w' => (wpE env [16]).set 16 (some w')) (m := fun e S R => R (.ref F) S) (te := (mTup (mCons (mVar 16) (mCons (mVar 16) mNil)))) (tt := mYes) (mg := mgName 16) (vs := [16]) (env := env) (S := S) (S0 := S)
      (Q := Q1) (fun R q => q) hF (by rw [List.length_map]; omega) (fun w' hw S3 R r => r) (fun w' hw S3 k x q => q S3 Ex.refl) (fun w' hw _ S3 k x q => ?_) fun n3 S3 x3 l3 at3 => ?_
    · exact key
    · simp only [mTup, mCons, mNil, mVar]
      rw [h16]
      exact ⟨sz2, q S3 Ex.refl⟩
    · rw [filter_true, List.map_map] at at3
      exact kk n3 S3 x3 at3
  refine inner _ fun n S1 x1 at1 => ⟨sz2, sz1, ?_⟩
  have x2 : Ex S1 (S1 ++ [O.lst [.tup [.str name, .str "qzq"]]]) := Ex.one
  refine add_lst (x2.at at1) (new_at S1 _) (Nat.le_trans (show _ ≤ 9 by rw [List.length_map]; show _ + 1 ≤ 9; omega) (by decide)) ?_
  have x3 : Ex (S1 ++ [O.lst [W.tup [.str name, .str "qzq"]]]) ((S1 ++ [O.lst [W.tup [.str name, .str "qzq"]]]) ++ [O.lst ((few.map fun z => W.tup [.str z, .str z]) ++ [.tup [.str name, .str "qzq"]])]) := Ex.one
  have at3 := new_at (S1 ++ [O.lst [W.tup [.str name, .str "qzq"]]]) (.lst ((few.map fun z => W.tup [.str z, .str z]) ++ [.tup [.str name, .str "qzq"]]))
  have xa := (x1.trans x2).trans x3
  generalize (S1 ++ [O.lst [W.tup [.str name, .str "qzq"]]]) = S2 at at3 xa ⊢
  generalize hS3 : S2 ++ [O.lst ((few.map fun z => W.tup [.str z, .str z]) ++ [.tup [.str name, .str "qzq"]])] = S3 at at3 xa ⊢
  show oL S3[S2.length]? _
  rw [at3]
  refine ⟨(few.map fun y => (y, W.str y)) ++ [(name, .str "qzq")], ?_, ?_⟩
  · unfold pairsW
    rw [List.map_append, List.map_map]
    rfl
  · have x4 : Ex S3 (S3 ++ [O.dK (mergeW [] (keyed ((few.map fun y => (y, W.str y)) ++ [(name, .str "qzq")])))]) := Ex.one
    exact cd_call (f := qF name) (new_at S3 _) g w (by omega) (qF_tab name) fun S4 x5 => k S4 ((xa.trans x4).trans x5)
theorem c3_ok (h5 : lk env 5 = some (tW one)) (h6 : lk env 6 = some (tW other)) (h11 : lk env 11 = some (.str name)) (h12 : lk env 12 = some (tW (ren (qF name) one)))
    (g1 : Good few one) (w1 : WF one) (n1 : nodes one ≤ 136) (g2 : Good few other) (w2 : WF other) (n2 : nodes other ≤ 136) (h8 : few.length ≤ 8) (nm : ∀ x ∈ few, isNm x = true) (hq : ("qzq" : Str) ∉ few) (hname : name ∈ few) (k : ∀ S', Ex S S' → R false S') : c3 env S R := by
  have hf := qF_inj (name := name) hq
  have nmq : ∀ x ∈ few, isNm (qF name x) = true := fun x hx => by
    unfold qF
    by_cases e : x = name
    · rw [if_pos e]
      exact qzq_nm
    · rw [if_neg e]
      exact nm x hx
  have wr : WF (ren (qF name) one) := wf_ren hf nmq one g1 w1
  have nr : nodes (ren (qF name) one) ≤ 136 := by rw [nodes_ren]; exact n1
  have eqv : ∀ k, Free k (.lt "let" "qzq" other (ren (qF name) one)) ↔ Free k (.lt "let" name other one) := fun k => by
    show (Free k other ∨ (Free k (ren (qF name) one) ∧ k ≠ "qzq")) ↔ (Free k other ∨ (Free k one ∧ k ≠ name))
    refine or_congr Iff.rfl ?_
    rw [free_called hf g1]
    constructor
    · rintro ⟨⟨j, hj, e⟩, hk⟩
      unfold qF at e
      by_cases h : j = name
      · rw [if_pos h] at e
        exact absurd e.symm hk
      · rw [if_neg h] at e
        subst e
        exact ⟨hj, h⟩
    · rintro ⟨hj, h⟩
      refine ⟨⟨k, hj, ?_⟩, fun e => hq (by rw [← e]; exact free_in one g1 hj)⟩
      unfold qF
      rw [if_neg h]
  have fin : ∀ k, Free k (.lt "let" name other one) → k ∈ few := fun k hk => by
    rcases hk with hk | hk
    · exact free_in other g2 hk
    · exact free_in one g1 hk.1
  unfold c3
  simp only [mTest, mBin, mCB, mTup, mCons, mNil, mVar, mC]
  rw [h5, h6, h11, h12]
  dsimp only
  refine ⟨sz4, ?_⟩
  refine fr_call (t := .lt "let" name other one) ⟨.inl rfl, nm name hname, w2, w1⟩ (by show 1 + nodes other + nodes one ≤ 300; omega) fin h8 fun n ys S1 x1 l1 at1 _ nd so mem => ?_
  refine ⟨sz4, ?_⟩
  refine fr_call (t := .lt "let" "qzq" other (ren (qF name) one)) ⟨.inl rfl, qzq_nm, w2, wr⟩ (by show 1 + nodes other + nodes (ren (qF name) one) ≤ 300; omega) (fun k hk => fin k ((eqv k).mp hk)) h8 fun n2 zs S2 x2 l2 at2 _ nd2 so2 mem2 => ?_
  have e : zs = ys := sorted_eq nd2 nd so2 so fun k => by rw [mem2, mem, eqv]
  subst e
  refine ne_same (ys := zs) (x2.at at1) at2 (fun y hy => nm y (fin y ((mem y).mp hy))) ?_
  exact k S2 (x1.trans x2)
end
end Ev06

set_option Elab.async false
set_option linter.all false
set_option maxRecDepth 100000
set_option maxHeartbeats 1000000
/-! The law. -/
namespace Ev06
open PySem PySem.Spec PyProof.Rows L2 Ow Ev OwT EvT Ev05
theorem wIsN_bl6 {neg a b : Bool} {S : Store} {Q : WK} : wIsN neg (.bl a) (.bl b) S Q = Q (.bl (neg ^^ decide (a = b))) S := rfl
def wrapB : MS := (mAsg (mCB (conR PickC) (mCons (mVar 2) (mCons (mLst (mCons (mTup (mCons (mC (.str "let")) (mCons (mVar 14) (mCons (mTup (mCons (mC (.str "num")) (mCons (mC (.int 0)) mNil))) (mCons (mVar 13) mNil))))) (mCons (mTup (mCons (mC (.str "fun")) (mCons (mVar 14) (mCons (mVar 13) mNil)))) mNil))) mNil))) (mgName 13))
def lastI : MS := (mIfS (mTest (mBin (wIsN true) (mCB (conR IsP6C) (mCons (mVar 13) mNil)) (mC (.bl true))))
  (mRet (mC (.bl false)))
  mNext)
section
variable {S : Store} {D : MD} {p n : Nat} {e0 e1 e3 e4 e5 e6 e7 e8 e9 e10 e11 e12 e14 e15 e16 : Option W}
theorem wrap_loop {all : List Str} (hnp : n ≠ p) (k : ∀ t S' e14, WF t → nodes t ≤ 300 → deep t ≤ 60 → (∀ k, ¬ Free k t) → Fx [p] S S' → D.nx [e0, e1, some (.ref p), e3, e4, e5, e6, e7, e8, e9, e10, e11, e12, some (tW t), e14, e15, e16] S') :
    ∀ (ys : List Str) (i : Nat) (t : T) (S1 : Store) (e14 : Option W), (∀ y ∈ ys, isNm y = true) → WF t → nodes t ≤ 140 + 2 * i → deep t ≤ 13 + i → i + ys.length ≤ 8 → (∀ k, Free k t → k ∈ ys) → FdS S1 p → S1[n]? = some (.lst (all.map W.str)) → Fx [p] S S1 →
      forL (fun S' => S'[n]? = some (.lst (all.map W.str))) (mgName 14) wrapB D (ys.map W.str) [e0, e1, some (.ref p), e3, e4, e5, e6, e7, e8, e9, e10, e11, e12, some (tW t), e14, e15, e16] S1
  | [], i, t, S1, e14, _, w, hn, hd, hi, hf, fd, at1, f => by
    have hi : i + 0 ≤ 8 := hi
    exact ⟨at1, k t S1 e14 w (by omega) (by omega) (fun k hk => List.not_mem_nil (hf k hk)) f⟩
  | y :: ys, i, t, S1, e14, nm, w, hn, hd, hi, hf, fd, at1, f => by
    rw [List.length_cons] at hi
    refine ⟨at1, ?_⟩
    simp only [mgName, List.set]
    unfold wrapB
    simp only [mAsg, mCB, mLst, mTup, mCons, mNil, mVar, mC, lk]
    refine ⟨sz2, sz4, sz3, sz2, ?_⟩
    have x2 : Ex S1 (S1 ++ [O.lst [tW (.lt "let" y (.num 0) t), tW (.fn y t)]]) := Ex.one
    have pl := fd.lt
    show conR PickC [.ref p, .ref S1.length] (S1 ++ [O.lst [tW (.lt "let" y (.num 0) t), tW (.fn y t)]]) _
    refine pick_call (l := [tW (.lt "let" y (.num 0) t), tW (.fn y t)]) (fd.ex x2) (by intro e; have := W.ref.inj e; omega) (seq_rf (new_at S1 _)) (by show 0 < 2; decide) (by show 2 < 1000000; decide) fun w' S3 hw f3 fd3 => ?_
    have at3 := f3.keep n _ (fun z => hnp (List.mem_singleton.mp z)) (x2.at at1)
    have f03 := (f.trans (Fx.ex x2)).trans f3
    have ny := nm y List.mem_cons_self
    have nm' : ∀ z ∈ ys, isNm z = true := fun z hz => nm z (List.mem_cons_of_mem _ hz)
    have hw : w' = tW (.lt "let" y (.num 0) t) ∨ w' = tW (.fn y t) := by simpa using hw
    have fr : ∀ k, Free k t → k ≠ y → k ∈ ys := fun k hk h => by
      rcases List.mem_cons.mp (hf k hk) with e | e
      · exact absurd e h
      · exact e
    rcases hw with rfl | rfl
    · refine wrap_loop hnp k ys (i + 1) (.lt "let" y (.num 0) t) S3 _ nm' ⟨.inl rfl, ny, ⟨by decide, by decide⟩, w⟩ (by show 1 + 1 + nodes t ≤ _; omega) (by show 1 + max 1 (deep t) ≤ _; omega) (by omega) (fun k hk => ?_) fd3 at3 f03
      rcases hk with hk | hk
      · exact hk.elim
      · exact fr k hk.1 hk.2
    · exact wrap_loop hnp k ys (i + 1) (.fn y t) S3 _ nm' ⟨ny, w⟩ (by show 1 + nodes t ≤ _; omega) (by show 1 + deep t ≤ _; omega) (by omega) (fun k hk => fr k hk.1 hk.2) fd3 at3 f03
end
def retF : MS := mRet (mC (.bl false))
def turnE : MS := (mSeq (mAsg (mCB (conR FeedC) (mCons (mVar 0) (mCons (mVar 1) mNil))) (mgName 2))
  (mSeq (mAsg (mCB (conR NamesC6) (mCons (mVar 2) mNil)) (mgName 3))
  (mSeq (mAsg (mSortSet (mVar 3)) (mgName 4))
  (mSeq (mAsg termE (mgName 5))
  (mSeq (mAsg termE (mgName 6))
  (mSeq (mIfS arE retF mNext)
  (mSeq (mAsg freshE (mgName 7))
  (mSeq (mAsg (mCB (conR TakeC) (mCons (mVar 2) (mCons (mC (.int 8)) mNil))) (mgName 8))
  (mSeq (mAsg tabE (mgName 9))
  (mSeq (mAsg (mCB (conR (CalledC 13)) (mCons (mVar 5) (mCons (mVar 9) mNil))) (mgName 10))
  (mSeq (mIfS c1 retF mNext)
  (mSeq (mIfS c2 retF mNext)
  (mSeq (mAsg (mCB (conR PickC) (mCons (mVar 2) (mCons (mVar 4) mNil))) (mgName 11))
  (mSeq (mAsg againE (mgName 12))
  (mSeq (mIfS c3 retF mNext)
  (mSeq (mAsg (mVar 5) (mgName 13))
  (mSeq (mFor (mIt (mCB (conR FreeC) (mCons (mVar 5) mNil))) (mgName 14) wrapB) lastI)))))))))))))))))
theorem law_eq : m_law FeedC NamesC6 (TermC 6) TakeC PickC AroundC6 (CalledC 13) FreeC IsTC IsP6C = (mSeq (mFor (mRg1 (mCons (mCB wMax (mCons (mC (.int 2)) (mCons (mCB wMin (mCons (mC (.int 5)) (mCons (mCB wLen (mCons (mVar 0) mNil)) mNil))) mNil))) mNil)) (mgName 1) turnE) (mRet (mC (.bl true)))) := rfl
section
variable {S : Store} {D : MD}
theorem turn_ok {x0 : W} {k : Nat} {l : List Int} (h : seqW x0 S = some (l.map W.int)) {e2 e3 e4 e5 e6 e7 e8 e9 e10 e11 e12 e13 e14 e15 e16 : Option W}
    (q : ∀ S' e2 e3 e4 e5 e6 e7 e8 e9 e10 e11 e12 e13 e14, Fx [] S S' → D.nx [some x0, some (.int k), e2, e3, e4, e5, e6, e7, e8, e9, e10, e11, e12, e13, e14, e15, e16] S') :
    turnE D [some x0, some (.int k), e2, e3, e4, e5, e6, e7, e8, e9, e10, e11, e12, e13, e14, e15, e16] S := by
  unfold turnE
  refine sa (i := 2) ?_
  simp only [mCB, mCons, mNil, mVar, lk]
  refine ⟨(l, x0, k), ⟨rfl, h⟩, fun w S1 ⟨p, e, x1, l1, fd1⟩ => ?_⟩
  subst e
  simp only [List.set]
  refine sa (i := 3) ?_
  simp only [mCB, mCons, mNil, mVar, lk]
  refine ⟨p, ⟨rfl, fd1⟩, fun w S2 ⟨n, names, e, f2, fd2, l2, at2, len2, nq⟩ => ?_⟩
  subst e
  simp only [List.set]
  refine sa (i := 4) ?_
  unfold mSortSet
  simp only [mVar, lk]
  refine ⟨names, seq_rf at2, by omega, fun few nd so mem => ?_⟩
  have pl1 := fd1.lt
  have pl2 := fd2.lt
  have fewl : few.length ≤ 8 := by
    have := nodup_sub few names nd fun x hx => (mem x).mp hx
    omega
  have fewp : 0 < few.length := by
    cases names with
    | nil => cases len2
    | cons a r =>
      have := (mem a).mpr List.mem_cons_self
      exact List.length_pos_of_mem this
  have fnq : ∀ x ∈ few, Nq x := fun x hx => nq x ((mem x).mp hx)
  have nm : ∀ x ∈ few, isNm x = true := fun x hx => (fnq x hx).1
  have hq : ("qzq" : Str) ∉ few := fun z => (fnq _ z).2 rfl
  have x3 : Ex S2 (S2 ++ [O.lst (few.map W.str)]) := Ex.one
  have s3 : Src (S2 ++ [O.lst (few.map W.str)]) p S2.length few := ⟨fd2.ex x3, new_at S2 _, by omega, fewp, fewl, nm⟩
  have f13 : Fx [p] S1 (S2 ++ [O.lst (few.map W.str)]) := f2.trans (Fx.ex x3)
  generalize hF : S2.length = F at s3
  generalize S2 ++ [O.lst (few.map W.str)] = S3 at s3 f13 x3 ⊢
  simp only [List.set]
  refine sa (i := 5) (term_ok rfl rfl s3 fun one S4 g1 w1 n1 d1 f4 s4 => ?_)
  simp only [List.set]
  refine sa (i := 6) (term_ok rfl rfl s4 fun other S5 g2 w2 n2 d2 f5 s5 => ?_)
  simp only [List.set]
  refine si0 (ar_ok rfl rfl rfl s5.at_ nd fewl nm g1 w1 n1 g2 w2 n2 fun S6 x6 => ?_)
  refine ifB (fun e => by cases e) fun _ => ?_
  have s6 := s5.ex x6
  refine sa (i := 7) (fresh_ok (p := p) (fun w => rfl) (fun w => rfl) s6.fd fun nf fl S7 fr7 l87 f7 fd7 g7 at7 => ?_)
  have s7 := s6.one f7 fd7
  simp only [List.set]
  refine sa (i := 8) ?_
  simp only [mCB, mCons, mNil, mVar, mC, lk]
  refine take_call fd7 (by decide) (by decide) fun r S8 r0 r1 f8 fd8 => ?_
  have s8 := s7.one f8 fd8
  have hnf : nf ≠ p := by
    have := s6.fd.lt
    omega
  have at8 := f8.keep nf _ (fun z => hnf (List.mem_singleton.mp z)) at7
  simp only [List.set]
  refine sa (i := 9) (tab_ok (F := F) (few := few) (n := nf) (r := r) (l := fl) rfl rfl rfl s8.at_ nd fewl at8 fr7 l87 r0 r1 fun m kv f S9 x9 atm hT hf nmf => ?_)
  have s9 := s8.ex x9
  simp only [List.set]
  refine sa (i := 10) ?_
  simp only [mCB, mCons, mNil, mVar, lk]
  refine cd_call atm g1 w1 d1 hT fun S10 x10 => ?_
  have s10 := s9.ex x10
  simp only [List.set]
  refine si0 (c1_ok (one := one) (f := f) (kv := kv) (m := m) rfl rfl (fun w => rfl) (fun w => rfl) g1 w1 n1 d1 fewl nmf hf (x10.at atm) hT fun S11 x11 => ?_)
  refine ifB (fun e => by cases e) fun _ => ?_
  refine si0 (c2_ok (one := one) (f := f) rfl rfl g1 w1 n1 d1 fewl nmf hf fun S12 x12 => ?_)
  refine ifB (fun e => by cases e) fun _ => ?_
  have s12 := s10.ex (x11.trans x12)
  refine sa (i := 11) ?_
  simp only [mCB, mCons, mNil, mVar, lk]
  refine pick_call (l := few.map W.str) s12.fd (by intro e; exact s12.ne (W.ref.inj e)) (seq_rf s12.at_) (by rw [List.length_map]; exact fewp) (by rw [List.length_map]; omega) fun w S13 hw f13b fd13 => ?_
  have s13 := s12.one f13b fd13
  obtain ⟨name, hname, rfl⟩ := List.mem_map.mp hw
  simp only [List.set]
  refine sa (i := 12) (again_ok (one := one) (name := name) (F := F) (few := few) rfl rfl rfl (fun w => rfl) g1 w1 d1 fewl s13.at_ fun S14 x14 => ?_)
  have s14 := s13.ex x14
  simp only [List.set]
  refine si0 (c3_ok (one := one) (other := other) (name := name) (few := few) rfl rfl rfl rfl g1 w1 n1 g2 w2 n2 fewl nm hq hname fun S15 x15 => ?_)
  refine ifB (fun e => by cases e) fun _ => ?_
  have s15 := s14.ex x15
  refine sa (i := 13) ?_
  simp only [mVar, lk, List.set]
  refine seq_ok ?_
  unfold mFor mIt
  simp only [mCB, mCons, mNil, mVar, lk]
  refine fr_call w1 (by omega) (fun k hk => free_in one g1 hk) fewl fun n16 ys S16 x16 l16 at16 y8 nd16 _ mem16 => ?_
  rw [walk_lst at16]
  have s16 := s15.ex x16
  have hn16 : n16 ≠ p := by
    have := s15.fd.lt
    omega
  refine wrap_loop (S := S16) hn16 (fun t S17 e14 wt nt dt ft f17 => ?_) ys 0 one S16 _ (fun y hy => nm y (free_in one g1 ((mem16 y).mp hy))) w1 (by omega) (by omega) (by omega) (fun k hk => (mem16 k).mpr hk) s16.fd at16 Fx.refl
  dsimp only
  unfold lastI mIfS
  simp only [mTest, mBin, mCB, mCons, mNil, mVar, mC, lk]
  refine isP6_call (dat_tW t wt) (fr_of (ns := []) wt (by decide) fun k hk => absurd hk (ft k)) fun b S18 hb x18 => ?_
  have hb2 : b = true := hb.mpr ((isP_iff wt nt dt).mpr ft)
  subst hb2
  rw [wIsN_bl6]
  dsimp only
  rw [if_neg (by decide)]
  have fa : Fx [p] S1 S18 := ((((((((((((((f13.trans f4).trans f5).trans (Fx.ex x6)).trans f7).trans f8).trans (Fx.ex x9)).trans (Fx.ex x10)).trans (Fx.ex (x11.trans x12))).trans f13b).trans (Fx.ex x14)).trans (Fx.ex x15)).trans (Fx.ex x16)).trans f17).trans (Fx.ex x18))
  refine q S18 _ _ _ _ _ _ _ _ _ _ _ _ _ ⟨Nat.le_trans x1.len fa.len, fun n o _ hn => ?_⟩
  have nl := lt_len hn
  exact fa.keep n _ (by simp; omega) (x1.at hn)
theorem turns_ok {x0 : W} {l : List Int} {e15 e16 : Option W} (k : ∀ S' e1 e2 e3 e4 e5 e6 e7 e8 e9 e10 e11 e12 e13 e14, D.nx [some x0, e1, e2, e3, e4, e5, e6, e7, e8, e9, e10, e11, e12, e13, e14, e15, e16] S') : ∀ (ks : List Nat) (S : Store) (e1 e2 e3 e4 e5 e6 e7 e8 e9 e10 e11 e12 e13 e14 : Option W), seqW x0 S = some (l.map W.int) →
    forL (fun _ => True) (mgName 1) turnE D (ks.map fun (j : Nat) => W.int (0 + j)) [some x0, e1, e2, e3, e4, e5, e6, e7, e8, e9, e10, e11, e12, e13, e14, e15, e16] S
  | [], S, _, _, _, _, _, _, _, _, _, _, _, _, _, _, h => ⟨trivial, k S _ _ _ _ _ _ _ _ _ _ _ _ _ _⟩
  | i :: ks, S, _, _, _, _, _, _, _, _, _, _, _, _, _, _, h => by
    refine ⟨trivial, ?_⟩
    simp only [mgName, List.set]
    rw [show (0 : Int) + (i : Nat) = ((i : Nat) : Int) by omega]
    refine turn_ok (D := { nx := forL (fun _ => True) (mgName 1) turnE D (ks.map fun (j : Nat) => W.int (0 + j)), rt := D.rt, bk := D.nx, ct := forL (fun _ => True) (mgName 1) turnE D (ks.map fun (j : Nat) => W.int (0 + j)) }) h fun S' _ _ _ _ _ _ _ _ _ _ _ _ _ f => ?_
    exact turns_ok k ks S' _ _ _ _ _ _ _ _ _ _ _ _ _ _ (seq_keep h f fun n hn => by cases hn)
theorem vc_law6 {x0 : W} {l : List Int} (h : seqW x0 S = some (l.map W.int)) (hl : l.length ≤ 63) (k : ∀ S', D.rt (.bl true) S') : m_law FeedC NamesC6 (TermC 6) TakeC PickC AroundC6 (CalledC 13) FreeC IsTC IsP6C D [some x0, none, none, none, none, none, none, none, none, none, none, none, none, none, none, none, none] S := by
  rw [law_eq]
  refine seq_ok ?_
  unfold mFor mRg1
  simp only [mCB, mCons, mNil, mVar, mC, lk]
  refine len_seq h ?_
  rw [List.length_map]
  have hb : ∃ j : Nat, (if (if (l.length : Int) < 5 then (l.length : Int) else 5) > 2 then (if (l.length : Int) < 5 then (l.length : Int) else 5) else 2) = (j : Int) ∧ j ≤ 100 := by
    by_cases h1 : (l.length : Int) < 5
    · rw [if_pos h1]
      by_cases h2 : (l.length : Int) > 2
      · rw [if_pos h2]
        exact ⟨l.length, rfl, by omega⟩
      · rw [if_neg h2]
        exact ⟨2, rfl, by decide⟩
    · rw [if_neg h1]
      exact ⟨5, rfl, by decide⟩
  obtain ⟨j, e, hj⟩ := hb
  show (-(2 ^ 62) ≤ (if (if (l.length : Int) < 5 then (l.length : Int) else 5) > 2 then (if (l.length : Int) < 5 then (l.length : Int) else 5) else 2) ∧ (if (if (l.length : Int) < 5 then (l.length : Int) else 5) > 2 then (if (l.length : Int) < 5 then (l.length : Int) else 5) else 2) < 2 ^ 62) ∧ forL (fun _ => True) (mgName 1) turnE _ (rgW 0 (if (if (l.length : Int) < 5 then (l.length : Int) else 5) > 2 then (if (l.length : Int) < 5 then (l.length : Int) else 5) else 2).toNat) _ S
  rw [e]
  refine ⟨⟨by omega, by omega⟩, ?_⟩
  exact turns_ok (fun S' _ _ _ _ _ _ _ _ _ _ _ _ _ _ => k S') (List.range (j : Int).toNat) S _ _ _ _ _ _ _ _ _ _ _ _ _ _ h
theorem vd_law6 : Vc 17 (m_law FeedC NamesC6 (TermC 6) TakeC PickC AroundC6 (CalledC 13) FreeC IsTC IsP6C) LawC := fun (x, l) ws S ⟨e, h, hl, _⟩ => by
  subst e
  exact vc_law6 h hl fun S' => rfl
theorem vd_feed6 : Vc 5 m_x_law_feed FeedC := fun (l, x, k) ws S ⟨e, h⟩ => by
  subst e
  exact vc_feed h fun p S' a b c => ⟨p, rfl, a, b, c⟩
theorem vd_take6 : Vc 3 m_x_law_take TakeC := fun (p, m) ws S ⟨e, h, h0, h1⟩ => by
  subst e
  exact vc_take h h0 h1 fun r S' a b c d => ⟨r, rfl, a, b, c, d⟩
theorem vd_pick6 : Vc 2 (m_x_law_pick TakeC) PickC := fun (p, s, l) ws S ⟨e, h, hs, hl, h0, h1⟩ => by
  subst e
  exact vc_pick h hs hl h0 h1 fun w S' a b c => ⟨a, b, c⟩
theorem vd_few6 : Vc 6 (m_x_law_few TakeC PickC) FewC := fun (p, nl, ns, m) ws S ⟨e, s, h0, h6⟩ => by
  subst e
  exact vc_few s h0 h6 fun ys S' a b c d e => ⟨ys, rfl, a, b, c, d, e⟩
theorem vd_made6 : Vc 4 (m_x_law_made TakeC PickC) (OneC isMk) := fun (p, nl, ns) ws S ⟨e, s⟩ => by
  subst e
  exact vc_made s fun t S' a b c => ⟨t, rfl, a, b, c⟩
theorem vd_leaf6 : Vc 4 (m_x_law_leaf TakeC PickC (OneC isMk)) (OneC isLeaf) := fun (p, nl, ns) ws S ⟨e, s⟩ => by
  subst e
  exact vc_leaf s fun t S' a b c => ⟨t, rfl, a, b, c⟩
theorem vd_worth6 {n m : Nat} (hm : m = n - 1) : Vc 4 (m_x_law_worth TakeC (OneC isMk) (TermC m) PickC) (WorthC n) := fun (p, nl, bx, ns, b, d) ws S ⟨e, x, hd⟩ => by
  subst e
  exact vc_worth hm x hd fun t b' S' a1 a2 a3 a4 a5 a6 a7 a8 => ⟨t, b', rfl, a1, a2, a3, a4, a5, a6, a7, a8⟩
theorem vd_term6 {n m : Nat} {CT CW : Con} (hm : m = n - 1) (hT : 1 ≤ n → CT = TermC m) (hW : 1 ≤ n → CW = WorthC m) : Vc 12 (m_x_law_term TakeC (OneC isLeaf) CT PickC FewC CW) (TermC n) := fun (p, nl, bx, ns, b, d) ws S ⟨e, x, hd⟩ => by
  subst e
  exact vc_term hm hT hW x hd fun t b' S' a1 a2 a3 a4 a5 a6 a7 => ⟨t, b', rfl, a1, a2, a3, a4, a5, a6, a7⟩
end
end Ev06

set_option Elab.async false
set_option linter.all false
set_option maxRecDepth 100000
set_option maxHeartbeats 1000000
/-! The defs of terms.py under their contracts. -/
namespace EvT
open PySem PySem.Spec PyProof.Rows L2 Ow Ev OwT
abbrev Vc (N : Nat) (m : MS) (C : Con) : Prop := ∀ a ws S, C.pre a ws S → m { nx := fun _ S' => C.post a S .non S', rt := fun w S' => C.post a S w S' } (stE N ws) S
theorem vd_is_name : Vc 2 m_is_name NameC := fun a ws S ⟨e, hl, _, hd⟩ => by
  subst e
  obtain ⟨x, rfl⟩ := of_len1 hl
  exact vc_is_name hd.1 fun S' h => ⟨rfl, h⟩
theorem vd_x_is_tuple : Vc 3 m_x_is_tuple TupC := fun a ws S ⟨e, hl, ⟨x, lo, hi, e2⟩, hd⟩ => by
  subst e
  subst e2
  exact vc_is_tuple hd.1 fun S' h => ⟨rfl, h⟩
theorem vd_x_are_names : Vc 2 (m_x_are_names TupC NameC) NamesC := fun a ws S ⟨e, hl, _, hd⟩ => by
  subst e
  obtain ⟨x, rfl⟩ := of_len1 hl
  exact vc_are_names hd.1 fun S' h => ⟨rfl, h⟩
theorem vd_x_are_unlike : Vc 1 m_x_are_unlike UnlikeC := fun xs ws S ⟨w, e, h, few⟩ => by
  subst e
  exact vc_are_unlike h few fun S' h => ⟨rfl, h⟩
theorem vd_x_is_num : Vc 1 m_x_is_num (TC numB) := fun a ws S ⟨e, hl, ⟨l, e2⟩, hd⟩ => by
  subst e
  subst e2
  exact vc_is_num hd.1 fun S' h => ⟨rfl, h⟩
theorem vd_x_is_asking : Vc 1 (m_x_is_asking NameC) (TC askB) := fun a ws S ⟨e, hl, ⟨l, e2⟩, hd⟩ => by
  subst e
  subst e2
  exact vc_is_asking hd.1 fun S' h => ⟨rfl, h⟩
theorem vd_x_is_fun : Vc 1 (m_x_is_fun NameC) (TC funB) := fun a ws S ⟨e, hl, ⟨l, e2⟩, hd⟩ => by
  subst e
  subst e2
  exact vc_is_fun hd.1 fun S' h => ⟨rfl, h⟩
theorem vd_x_is_of_two_names : Vc 1 (m_x_is_of_two_names NameC) (TC twoB) := fun a ws S ⟨e, hl, ⟨l, e2⟩, hd⟩ => by
  subst e
  subst e2
  exact vc_is_two hd.1 fun S' h => ⟨rfl, h⟩
theorem vd_x_is_put_by : Vc 1 (m_x_is_put_by NameC) (TC putB) := fun a ws S ⟨e, hl, ⟨l, e2⟩, hd⟩ => by
  subst e
  subst e2
  exact vc_is_put hd.1 fun S' h => ⟨rfl, h⟩
theorem vd_x_is_pair : Vc 2 (m_x_is_pair TupC NameC) PairC := fun a ws S ⟨e, hl, _, hd⟩ => by
  subst e
  obtain ⟨x, rfl⟩ := of_len1 hl
  exact vc_is_pair hd.1 fun S' h => ⟨rfl, h⟩
theorem vd_x_is_letall : Vc 2 (m_x_is_letall TupC PairC UnlikeC) (TC letallB) := fun a ws S ⟨e, hl, ⟨l, e2⟩, hd⟩ => by
  subst e
  subst e2
  exact vc_is_letall hd.1 fun S' h => ⟨rfl, h⟩
theorem vd_x_is_made : Vc 1 (m_x_is_made NameC NamesC) (TC madeB) := fun a ws S ⟨e, hl, ⟨l, e2⟩, hd⟩ => by
  subst e
  subst e2
  exact vc_is_made hd.1 fun S' h => ⟨rfl, h⟩
theorem vd_x_is_branch : Vc 1 (m_x_is_branch TupC NameC NamesC UnlikeC) BranchC := fun a ws S ⟨e, hl, _, hd⟩ => by
  subst e
  obtain ⟨x, rfl⟩ := of_len1 hl
  exact vc_is_branch hd.1 fun S' h => ⟨rfl, h⟩
theorem vd_x_is_by : Vc 2 (m_x_is_by NameC TupC BranchC UnlikeC) (TC byB) := fun a ws S ⟨e, hl, ⟨l, e2⟩, hd⟩ => by
  subst e
  subst e2
  exact vc_is_by hd.1 fun S' h => ⟨rfl, h⟩
theorem vd_x_is_shaped {T : Str → Option Addr} {CA : Addr → Option Con} (hT : ∀ z, (T z).isSome = (kindOf z).isSome) (hC : ∀ z a g, T z = some a → kindOf z = some g → CA a = some (TC g)) : Vc 2 (m_x_is_shaped T CA) ShapedC := fun a ws S ⟨e, hl, _, hd⟩ => by
  subst e
  obtain ⟨x, rfl⟩ := of_len1 hl
  exact vc_is_shaped hT hC hd.1 fun S' h => ⟨rfl, h⟩
theorem vd_named : Vc 2 m_named NamedC := fun t ws S ⟨e, w⟩ => by
  subst e
  obtain ⟨l, el, h⟩ := vc_named (S := S) (D := { nx := fun _ S' => NamedC.post t S .non S', rt := fun w S' => NamedC.post t S w S' }) t w fun S' h => ⟨rfl, h⟩
  rw [el]
  exact h
theorem vd_within : Vc 5 m_within WithinC := fun l ws S ⟨e, h, hd⟩ => by
  subst e
  exact vc_within h hd fun n S' a b c => ⟨n, rfl, a, b, c⟩
theorem vd_is_term : Vc 7 (m_is_term ShapedC WithinC) IsTC := fun x ws S ⟨e, h⟩ => by
  subst e
  exact vc_is_term h fun b S' a c => ⟨b, rfl, a, c⟩
theorem vd_free_names : Vc 8 (m_free_names NamedC WithinC) FreeC := fun t ws S ⟨e, w, sz, fs, h1, h2⟩ => by
  subst e
  exact vc_free w sz h1 h2 fun n ys S' a b c d e f => ⟨n, ys, rfl, a, b, c, d, e, f⟩
/-- what the table of sorts tells, by the addresses -/
structure Sorts where
  num : Addr
  ask : Addr
  fn : Addr
  two : Addr
  put : Addr
  all : Addr
  md : Addr
  by_ : Addr
def Sorts.at (s : Sorts) (z : Str) : Option Addr :=
  if z = "num" then some s.num else if z = "name" then some s.ask else if z = "fun" then some s.fn else if z = "call" then some s.two else if z = "let" then some s.put else if z = "now" then some s.put
  else if z = "letall" then some s.all else if z = "made" then some s.md else if z = "by" then some s.by_ else if z = "sum" then some s.two else if z = "minus" then some s.two else if z = "less" then some s.two else if z = "same" then some s.two else none
/-- unlike addresses -/
def Sorts.ok (s : Sorts) : Bool := decide ([s.num, s.ask, s.fn, s.two, s.put, s.all, s.md, s.by_].Nodup)
def Sorts.con (s : Sorts) (a : Addr) : Option Con :=
  if a = s.num then some (TC numB) else if a = s.ask then some (TC askB) else if a = s.fn then some (TC funB) else if a = s.two then some (TC twoB) else if a = s.put then some (TC putB) else if a = s.all then some (TC letallB) else if a = s.md then some (TC madeB) else if a = s.by_ then some (TC byB) else none
theorem ite_is {α β : Type} {c : Prop} [Decidable c] {a : α} {b : β} {x : Option α} {y : Option β} (h : x.isSome = y.isSome) : (if c then some a else x).isSome = (if c then some b else y).isSome := by
  by_cases hc : c
  · rw [if_pos hc, if_pos hc]; rfl
  · rw [if_neg hc, if_neg hc]; exact h
theorem Sorts.hT (s : Sorts) (z : Str) : (s.at z).isSome = (kindOf z).isSome := by
  unfold Sorts.at kindOf
  exact ite_is (ite_is (ite_is (ite_is (ite_is (ite_is (ite_is (ite_is (ite_is (ite_is (ite_is (ite_is (ite_is rfl))))))))))))
theorem Sorts.hC {s : Sorts} (h : s.ok = true) (z : Str) (a : Addr) (g : List W → Bool) (h1 : s.at z = some a) (h2 : kindOf z = some g) : s.con a = some (TC g) := by
  have nd : [s.num, s.ask, s.fn, s.two, s.put, s.all, s.md, s.by_].Nodup := of_decide_eq_true h
  simp only [List.nodup_cons, List.mem_cons, List.not_mem_nil, or_false, not_or] at nd
  obtain ⟨⟨a1, a2, a3, a4, a5, a6, a7⟩, ⟨b2, b3, b4, b5, b6, b7⟩, ⟨c3, c4, c5, c6, c7⟩, ⟨d4, d5, d6, d7⟩, ⟨e5, e6, e7⟩, ⟨f6, f7⟩, g7, _⟩ := nd
  have k1 : s.con s.num = some (TC numB) := by unfold Sorts.con; rw [if_pos rfl]
  have k2 : s.con s.ask = some (TC askB) := by unfold Sorts.con; rw [if_neg (Ne.symm a1), if_pos rfl]
  have k3 : s.con s.fn = some (TC funB) := by unfold Sorts.con; rw [if_neg (Ne.symm a2), if_neg (Ne.symm b2), if_pos rfl]
  have k4 : s.con s.two = some (TC twoB) := by unfold Sorts.con; rw [if_neg (Ne.symm a3), if_neg (Ne.symm b3), if_neg (Ne.symm c3), if_pos rfl]
  have k5 : s.con s.put = some (TC putB) := by unfold Sorts.con; rw [if_neg (Ne.symm a4), if_neg (Ne.symm b4), if_neg (Ne.symm c4), if_neg (Ne.symm d4), if_pos rfl]
  have k6 : s.con s.all = some (TC letallB) := by unfold Sorts.con; rw [if_neg (Ne.symm a5), if_neg (Ne.symm b5), if_neg (Ne.symm c5), if_neg (Ne.symm d5), if_neg (Ne.symm e5), if_pos rfl]
  have k7 : s.con s.md = some (TC madeB) := by unfold Sorts.con; rw [if_neg (Ne.symm a6), if_neg (Ne.symm b6), if_neg (Ne.symm c6), if_neg (Ne.symm d6), if_neg (Ne.symm e6), if_neg (Ne.symm f6), if_pos rfl]
  have k8 : s.con s.by_ = some (TC byB) := by unfold Sorts.con; rw [if_neg (Ne.symm a7), if_neg (Ne.symm b7), if_neg (Ne.symm c7), if_neg (Ne.symm d7), if_neg (Ne.symm e7), if_neg (Ne.symm f7), if_neg (Ne.symm g7), if_pos rfl]
  unfold Sorts.at at h1
  unfold kindOf at h2
  by_cases h : z = "num"
  · rw [if_pos h] at h1 h2; cases h1; cases h2; exact k1
  rw [if_neg h] at h1 h2; clear h
  by_cases h : z = "name"
  · rw [if_pos h] at h1 h2; cases h1; cases h2; exact k2
  rw [if_neg h] at h1 h2; clear h
  by_cases h : z = "fun"
  · rw [if_pos h] at h1 h2; cases h1; cases h2; exact k3
  rw [if_neg h] at h1 h2; clear h
  by_cases h : z = "call"
  · rw [if_pos h] at h1 h2; cases h1; cases h2; exact k4
  rw [if_neg h] at h1 h2; clear h
  by_cases h : z = "let"
  · rw [if_pos h] at h1 h2; cases h1; cases h2; exact k5
  rw [if_neg h] at h1 h2; clear h
  by_cases h : z = "now"
  · rw [if_pos h] at h1 h2; cases h1; cases h2; exact k5
  rw [if_neg h] at h1 h2; clear h
  by_cases h : z = "letall"
  · rw [if_pos h] at h1 h2; cases h1; cases h2; exact k6
  rw [if_neg h] at h1 h2; clear h
  by_cases h : z = "made"
  · rw [if_pos h] at h1 h2; cases h1; cases h2; exact k7
  rw [if_neg h] at h1 h2; clear h
  by_cases h : z = "by"
  · rw [if_pos h] at h1 h2; cases h1; cases h2; exact k8
  rw [if_neg h] at h1 h2; clear h
  by_cases h : z = "sum"
  · rw [if_pos h] at h1 h2; cases h1; cases h2; exact k4
  rw [if_neg h] at h1 h2; clear h
  by_cases h : z = "minus"
  · rw [if_pos h] at h1 h2; cases h1; cases h2; exact k4
  rw [if_neg h] at h1 h2; clear h
  by_cases h : z = "less"
  · rw [if_pos h] at h1 h2; cases h1; cases h2; exact k4
  rw [if_neg h] at h1 h2; clear h
  by_cases h : z = "same"
  · rw [if_pos h] at h1 h2; cases h1; cases h2; exact k4
  rw [if_neg h] at h1
  cases h1
end EvT

set_option Elab.async false
set_option linter.all false
set_option maxRecDepth 100000
set_option maxHeartbeats 1000000
namespace D06
open PySem PySem.Spec PyProof.Rows L2 Ow Ev EvT Ev06
def topS (i : Nat) : Stmt := PySem.Challenge.pw_owedonce_k06_whole_free_names.main.body.getD i (.Pass ⟨0, 0, 0, 0⟩)
abbrev s_is_name : Stmt := topS 8
abbrev N_is_name : List Str := ["thing", "letter"]
theorem sc_is_name : FnScope N_is_name ["thing"] (defScope s_is_name) := ⟨rfl, rfl, rfl, by decide +kernel, rfl, by decide +kernel, by decide +kernel⟩
abbrev s_x_is_tuple : Stmt := topS 9
abbrev N_x_is_tuple : List Str := ["thing", "least", "most"]
theorem sc_x_is_tuple : FnScope N_x_is_tuple ["thing", "least", "most"] (defScope s_x_is_tuple) := ⟨rfl, rfl, rfl, by decide +kernel, rfl, by decide +kernel, by decide +kernel⟩
abbrev s_x_are_names : Stmt := topS 10
abbrev N_x_are_names : List Str := ["thing", "name"]
theorem sc_x_are_names : FnScope N_x_are_names ["thing"] (defScope s_x_are_names) := ⟨rfl, rfl, rfl, by decide +kernel, rfl, by decide +kernel, by decide +kernel⟩
abbrev s_x_are_unlike : Stmt := topS 11
abbrev N_x_are_unlike : List Str := ["names"]
theorem sc_x_are_unlike : FnScope N_x_are_unlike ["names"] (defScope s_x_are_unlike) := ⟨rfl, rfl, rfl, by decide +kernel, rfl, by decide +kernel, by decide +kernel⟩
abbrev s_x_is_num : Stmt := topS 12
abbrev N_x_is_num : List Str := ["term"]
theorem sc_x_is_num : FnScope N_x_is_num ["term"] (defScope s_x_is_num) := ⟨rfl, rfl, rfl, by decide +kernel, rfl, by decide +kernel, by decide +kernel⟩
abbrev s_x_is_asking : Stmt := topS 13
abbrev N_x_is_asking : List Str := ["term"]
theorem sc_x_is_asking : FnScope N_x_is_asking ["term"] (defScope s_x_is_asking) := ⟨rfl, rfl, rfl, by decide +kernel, rfl, by decide +kernel, by decide +kernel⟩
abbrev s_x_is_fun : Stmt := topS 14
abbrev N_x_is_fun : List Str := ["term"]
theorem sc_x_is_fun : FnScope N_x_is_fun ["term"] (defScope s_x_is_fun) := ⟨rfl, rfl, rfl, by decide +kernel, rfl, by decide +kernel, by decide +kernel⟩
abbrev s_x_is_of_two_names : Stmt := topS 15
abbrev N_x_is_of_two_names : List Str := ["term"]
theorem sc_x_is_of_two_names : FnScope N_x_is_of_two_names ["term"] (defScope s_x_is_of_two_names) := ⟨rfl, rfl, rfl, by decide +kernel, rfl, by decide +kernel, by decide +kernel⟩
abbrev s_x_is_put_by : Stmt := topS 16
abbrev N_x_is_put_by : List Str := ["term"]
theorem sc_x_is_put_by : FnScope N_x_is_put_by ["term"] (defScope s_x_is_put_by) := ⟨rfl, rfl, rfl, by decide +kernel, rfl, by decide +kernel, by decide +kernel⟩
abbrev s_x_is_pair : Stmt := topS 17
abbrev N_x_is_pair : List Str := ["thing", "worth"]
theorem sc_x_is_pair : FnScope N_x_is_pair ["thing"] (defScope s_x_is_pair) := ⟨rfl, rfl, rfl, by decide +kernel, rfl, by decide +kernel, by decide +kernel⟩
abbrev s_x_is_letall : Stmt := topS 18
abbrev N_x_is_letall : List Str := ["term", "pair"]
theorem sc_x_is_letall : FnScope N_x_is_letall ["term"] (defScope s_x_is_letall) := ⟨rfl, rfl, rfl, by decide +kernel, rfl, by decide +kernel, by decide +kernel⟩
abbrev s_x_is_made : Stmt := topS 19
abbrev N_x_is_made : List Str := ["term"]
theorem sc_x_is_made : FnScope N_x_is_made ["term"] (defScope s_x_is_made) := ⟨rfl, rfl, rfl, by decide +kernel, rfl, by decide +kernel, by decide +kernel⟩
abbrev s_x_is_branch : Stmt := topS 20
abbrev N_x_is_branch : List Str := ["thing"]
theorem sc_x_is_branch : FnScope N_x_is_branch ["thing"] (defScope s_x_is_branch) := ⟨rfl, rfl, rfl, by decide +kernel, rfl, by decide +kernel, by decide +kernel⟩
abbrev s_x_is_by : Stmt := topS 21
abbrev N_x_is_by : List Str := ["term", "branch"]
theorem sc_x_is_by : FnScope N_x_is_by ["term"] (defScope s_x_is_by) := ⟨rfl, rfl, rfl, by decide +kernel, rfl, by decide +kernel, by decide +kernel⟩
abbrev s_x_is_shaped : Stmt := topS 23
abbrev N_x_is_shaped : List Str := ["thing", "fits"]
theorem sc_x_is_shaped : FnScope N_x_is_shaped ["thing"] (defScope s_x_is_shaped) := ⟨rfl, rfl, rfl, by decide +kernel, rfl, by decide +kernel, by decide +kernel⟩
abbrev s_named : Stmt := topS 24
abbrev N_named : List Str := ["term", "sort"]
theorem sc_named : FnScope N_named ["term"] (defScope s_named) := ⟨rfl, rfl, rfl, by decide +kernel, rfl, by decide +kernel, by decide +kernel⟩
abbrev s_within : Stmt := topS 25
abbrev N_within : List Str := ["term", "sort", "names", "pair", "branch"]
theorem sc_within : FnScope N_within ["term"] (defScope s_within) := ⟨rfl, rfl, rfl, by decide +kernel, rfl, by decide +kernel, by decide +kernel⟩
abbrev s_is_term : Stmt := topS 26
abbrev N_is_term : List Str := ["thing", "todo", "pieces", "part", "depth", "inner", "_"]
theorem sc_is_term : FnScope N_is_term ["thing"] (defScope s_is_term) := ⟨rfl, rfl, rfl, by decide +kernel, rfl, by decide +kernel, by decide +kernel⟩
abbrev s_free_names : Stmt := topS 27
abbrev N_free_names : List Str := ["term", "found", "todo", "part", "bound", "name", "inner", "names"]
theorem sc_free_names : FnScope N_free_names ["term"] (defScope s_free_names) := ⟨rfl, rfl, rfl, by decide +kernel, rfl, by decide +kernel, by decide +kernel⟩
abbrev s_is_program : Stmt := topS 28
abbrev N_is_program : List Str := ["thing"]
theorem sc_is_program : FnScope N_is_program ["thing"] (defScope s_is_program) := ⟨rfl, rfl, rfl, by decide +kernel, rfl, by decide +kernel, by decide +kernel⟩
section
variable {P : Program} {w : World} {K : PySem.W.Frag} {mg : Str → Option Value} {base : Heap} {Tb : List Addr}
theorem es_is_name {k : Nat} {f : Addr}  (Z : NoG mg) (G_MOST_LETTERS : ∃ t, mg "MOST_LETTERS" = some (.int (8) t)) {c T : Addr} (TB : GxR.TabB base mg c T) (hT : T ∈ Tb) (A : Around) (outer : List Env) (s : Shared) (H : Hp) (E : XK) (hr : Room (k + 1) (A.deeper (envOfC "is_name" (defScope s_is_name) s.heap.objs.size f (.ref c)))) :
    ESs (cxOf CX0 P w K mg base N_is_name "is_name" (defScope s_is_name) f (.ref c) A outer s H E).nox Tb (defBody s_is_name) (m_is_name ) := by
  have hN := sc_is_name.nd
  have hr1 := hr
  have hr : Room k _ := hr1.mono (Nat.le_succ k)
  exact (ss_cons (s_if (w_t (w_or (t_not (t_truth (e_isi (by rfl) (Z _ (by decide)) (a_cons (e_var (i := 0)) (a_cons (e_ty (by rfl) (Z _ (by decide))) a_nil))))) (w_or1 (t_not (t_chain op_leW op_leW rl_cmpI rl_cmpI mo_cmpI mo_cmpI e_int (e_len (by rfl) (Z _ (by decide)) (a_cons (e_var (i := 0)) a_nil)) (e_gint (by rfl) G_MOST_LETTERS)))))) (ss_one (s_ret e_bl)) ss_nil)
      (ss_one (s_ret (e_all (c := c) (own := [("letter", 1)]) hr1 (by rfl) (Z _ (by decide)) TB hT rfl hN ⟨(blkOk_by (N := N_is_name) (sc := defScope s_is_name) (by decide +kernel)), (by decide +kernel), rfl, rfl⟩ (i_seq (e_var (i := 0))) (gg_name (i := 1) hN) (fun _ _ _ _ _ _ _ hr => (e_chain op_leW op_leW rl_cmpI rl_cmpI mo_cmpI mo_cmpI e_str (e_var (i := 1)) e_str))))))
theorem es_x_is_tuple {k : Nat} {f : Addr}  (Z : NoG mg) (cdv : Value) (A : Around) (outer : List Env) (s : Shared) (H : Hp) (E : XK) (hr : Room k (A.deeper (envOfC "_is_tuple" (defScope s_x_is_tuple) s.heap.objs.size f cdv))) :
    ESs (cxOf CX0 P w K mg base N_x_is_tuple "_is_tuple" (defScope s_x_is_tuple) f cdv A outer s H E).nox Tb (defBody s_x_is_tuple) (m_x_is_tuple ) := by
  have hN := sc_x_is_tuple.nd
  exact (ss_one (s_ret (e_and (e_isi (by rfl) (Z _ (by decide)) (a_cons (e_var (i := 0)) (a_cons (e_ty (by rfl) (Z _ (by decide))) a_nil))) (e_one (e_chain op_leW op_leW rl_cmpI rl_cmpI mo_cmpI mo_cmpI (e_var (i := 1)) (e_len (by rfl) (Z _ (by decide)) (a_cons (e_var (i := 0)) a_nil)) (e_var (i := 2)))))))
theorem es_x_are_names {k : Nat} {f : Addr} {C_x_is_tuple : Con} {C_is_name : Con} (Z : NoG mg) (D_x_is_tuple : Dn P w K mg base Tb "_is_tuple" ["thing", "least", "most"] k C_x_is_tuple) (D_is_name : Dn P w K mg base Tb "is_name" ["thing"] k C_is_name) (G_MOST_PARTS : ∃ t, mg "MOST_PARTS" = some (.int (3) t)) {c T : Addr} (TB : GxR.TabB base mg c T) (hT : T ∈ Tb) (A : Around) (outer : List Env) (s : Shared) (H : Hp) (E : XK) (hr : Room (k + 1) (A.deeper (envOfC "_are_names" (defScope s_x_are_names) s.heap.objs.size f (.ref c)))) :
    ESs (cxOf CX0 P w K mg base N_x_are_names "_are_names" (defScope s_x_are_names) f (.ref c) A outer s H E).nox Tb (defBody s_x_are_names) (m_x_are_names C_x_is_tuple C_is_name) := by
  have hN := sc_x_are_names.nd
  have hr1 := hr
  have hr : Room k _ := hr1.mono (Nat.le_succ k)
  exact (ss_one (s_ret (e_and (e_call D_x_is_tuple hr (by rfl) (a_cons (e_var (i := 0)) (a_cons e_int (a_cons (e_gint (by rfl) G_MOST_PARTS) a_nil)))) (e_one (e_all (c := c) (own := [("name", 1)]) hr1 (by rfl) (Z _ (by decide)) TB hT rfl hN ⟨(blkOk_by (N := N_x_are_names) (sc := defScope s_x_are_names) (by decide +kernel)), (by decide +kernel), rfl, rfl⟩ (i_seq (e_var (i := 0))) (gg_name (i := 1) hN) (fun _ _ _ _ _ _ _ hr => (e_call D_is_name hr (by rfl) (a_cons (e_var (i := 1)) a_nil))))))))
theorem es_x_are_unlike {k : Nat} {f : Addr}  (Z : NoG mg) (cdv : Value) (A : Around) (outer : List Env) (s : Shared) (H : Hp) (E : XK) (hr : Room k (A.deeper (envOfC "_are_unlike" (defScope s_x_are_unlike) s.heap.objs.size f cdv))) :
    ESs (cxOf CX0 P w K mg base N_x_are_unlike "_are_unlike" (defScope s_x_are_unlike) f cdv A outer s H E).nox Tb (defBody s_x_are_unlike) (m_x_are_unlike ) := by
  have hN := sc_x_are_unlike.nd
  exact (ss_one (s_ret (e_eq hr.units (e_lenSet (by rfl) (Z _ (by decide)) (by rfl) (Z _ (by decide)) (e_var (i := 0))) (e_len (by rfl) (Z _ (by decide)) (a_cons (e_var (i := 0)) a_nil)))))
theorem es_x_is_num {k : Nat} {f : Addr}  (Z : NoG mg) (G_LEAST_NUMBER : ∃ t, mg "LEAST_NUMBER" = some (.int (-1000000000000000000) t)) (G_MOST_NUMBER : ∃ t, mg "MOST_NUMBER" = some (.int (1000000000000000000) t)) (cdv : Value) (A : Around) (outer : List Env) (s : Shared) (H : Hp) (E : XK) (hr : Room k (A.deeper (envOfC "_is_num" (defScope s_x_is_num) s.heap.objs.size f cdv))) :
    ESs (cxOf CX0 P w K mg base N_x_is_num "_is_num" (defScope s_x_is_num) f cdv A outer s H E).nox Tb (defBody s_x_is_num) (m_x_is_num ) := by
  have hN := sc_x_is_num.nd
  exact (ss_cons (s_if (w_t (w_or (t_ne hr.units (e_len (by rfl) (Z _ (by decide)) (a_cons (e_var (i := 0)) a_nil)) e_int) (w_or (t_truth (e_isi (by rfl) (Z _ (by decide)) (a_cons (e_ix (hu_of hr) (e_var (i := 0)) e_int) (a_cons (e_ty (by rfl) (Z _ (by decide))) a_nil)))) (w_or1 (t_not (t_truth (e_isi (by rfl) (Z _ (by decide)) (a_cons (e_ix (hu_of hr) (e_var (i := 0)) e_int) (a_cons (e_ty (by rfl) (Z _ (by decide))) a_nil))))))))) (ss_one (s_ret e_bl)) ss_nil)
      (ss_one (s_ret (e_chain op_leW op_leW rl_cmpI rl_cmpI mo_cmpI mo_cmpI (e_gint (by rfl) G_LEAST_NUMBER) (e_ix (hu_of hr) (e_var (i := 0)) e_int) (e_gint (by rfl) G_MOST_NUMBER)))))
theorem es_x_is_asking {k : Nat} {f : Addr} {C_is_name : Con} (Z : NoG mg) (D_is_name : Dn P w K mg base Tb "is_name" ["thing"] k C_is_name) (cdv : Value) (A : Around) (outer : List Env) (s : Shared) (H : Hp) (E : XK) (hr : Room k (A.deeper (envOfC "_is_asking" (defScope s_x_is_asking) s.heap.objs.size f cdv))) :
    ESs (cxOf CX0 P w K mg base N_x_is_asking "_is_asking" (defScope s_x_is_asking) f cdv A outer s H E).nox Tb (defBody s_x_is_asking) (m_x_is_asking C_is_name) := by
  have hN := sc_x_is_asking.nd
  exact (ss_one (s_ret (e_and (e_eq hr.units (e_len (by rfl) (Z _ (by decide)) (a_cons (e_var (i := 0)) a_nil)) e_int) (e_one (e_call D_is_name hr (by rfl) (a_cons (e_ix (hu_of hr) (e_var (i := 0)) e_int) a_nil))))))
theorem es_x_is_fun {k : Nat} {f : Addr} {C_is_name : Con} (Z : NoG mg) (D_is_name : Dn P w K mg base Tb "is_name" ["thing"] k C_is_name) (cdv : Value) (A : Around) (outer : List Env) (s : Shared) (H : Hp) (E : XK) (hr : Room k (A.deeper (envOfC "_is_fun" (defScope s_x_is_fun) s.heap.objs.size f cdv))) :
    ESs (cxOf CX0 P w K mg base N_x_is_fun "_is_fun" (defScope s_x_is_fun) f cdv A outer s H E).nox Tb (defBody s_x_is_fun) (m_x_is_fun C_is_name) := by
  have hN := sc_x_is_fun.nd
  exact (ss_one (s_ret (e_and (e_eq hr.units (e_len (by rfl) (Z _ (by decide)) (a_cons (e_var (i := 0)) a_nil)) e_int) (e_one (e_call D_is_name hr (by rfl) (a_cons (e_ix (hu_of hr) (e_var (i := 0)) e_int) a_nil))))))
theorem es_x_is_of_two_names {k : Nat} {f : Addr} {C_is_name : Con} (Z : NoG mg) (D_is_name : Dn P w K mg base Tb "is_name" ["thing"] k C_is_name) (cdv : Value) (A : Around) (outer : List Env) (s : Shared) (H : Hp) (E : XK) (hr : Room k (A.deeper (envOfC "_is_of_two_names" (defScope s_x_is_of_two_names) s.heap.objs.size f cdv))) :
    ESs (cxOf CX0 P w K mg base N_x_is_of_two_names "_is_of_two_names" (defScope s_x_is_of_two_names) f cdv A outer s H E).nox Tb (defBody s_x_is_of_two_names) (m_x_is_of_two_names C_is_name) := by
  have hN := sc_x_is_of_two_names.nd
  exact (ss_one (s_ret (e_and (e_eq hr.units (e_len (by rfl) (Z _ (by decide)) (a_cons (e_var (i := 0)) a_nil)) e_int) (e_and (e_call D_is_name hr (by rfl) (a_cons (e_ix (hu_of hr) (e_var (i := 0)) e_int) a_nil)) (e_one (e_call D_is_name hr (by rfl) (a_cons (e_ix (hu_of hr) (e_var (i := 0)) e_int) a_nil)))))))
theorem es_x_is_put_by {k : Nat} {f : Addr} {C_is_name : Con} (Z : NoG mg) (D_is_name : Dn P w K mg base Tb "is_name" ["thing"] k C_is_name) (cdv : Value) (A : Around) (outer : List Env) (s : Shared) (H : Hp) (E : XK) (hr : Room k (A.deeper (envOfC "_is_put_by" (defScope s_x_is_put_by) s.heap.objs.size f cdv))) :
    ESs (cxOf CX0 P w K mg base N_x_is_put_by "_is_put_by" (defScope s_x_is_put_by) f cdv A outer s H E).nox Tb (defBody s_x_is_put_by) (m_x_is_put_by C_is_name) := by
  have hN := sc_x_is_put_by.nd
  exact (ss_one (s_ret (e_and (e_eq hr.units (e_len (by rfl) (Z _ (by decide)) (a_cons (e_var (i := 0)) a_nil)) e_int) (e_one (e_call D_is_name hr (by rfl) (a_cons (e_ix (hu_of hr) (e_var (i := 0)) e_int) a_nil))))))
theorem es_x_is_pair {k : Nat} {f : Addr} {C_x_is_tuple : Con} {C_is_name : Con} (Z : NoG mg) (D_x_is_tuple : Dn P w K mg base Tb "_is_tuple" ["thing", "least", "most"] k C_x_is_tuple) (D_is_name : Dn P w K mg base Tb "is_name" ["thing"] k C_is_name) (cdv : Value) (A : Around) (outer : List Env) (s : Shared) (H : Hp) (E : XK) (hr : Room k (A.deeper (envOfC "_is_pair" (defScope s_x_is_pair) s.heap.objs.size f cdv))) :
    ESs (cxOf CX0 P w K mg base N_x_is_pair "_is_pair" (defScope s_x_is_pair) f cdv A outer s H E).nox Tb (defBody s_x_is_pair) (m_x_is_pair C_x_is_tuple C_is_name) := by
  have hN := sc_x_is_pair.nd
  exact (ss_cons (s_if (w_t (w_or (t_not (t_truth (e_call D_x_is_tuple hr (by rfl) (a_cons (e_var (i := 0)) (a_cons e_int (a_cons e_int a_nil)))))) (w_or1 (t_not (t_truth (e_call D_is_name hr (by rfl) (a_cons (e_ix (hu_of hr) (e_var (i := 0)) e_int) a_nil))))))) (ss_one (s_ret e_bl)) ss_nil)
      (ss_cons (s_set (i := 1) hN (e_ix (hu_of hr) (e_var (i := 0)) e_int))
      (ss_cons (s_if (w_t (w_or (t_not (t_truth (e_isi (by rfl) (Z _ (by decide)) (a_cons (e_var (i := 1)) (a_cons (e_ty (by rfl) (Z _ (by decide))) a_nil))))) (w_or (t_eq hr.units (e_len (by rfl) (Z _ (by decide)) (a_cons (e_var (i := 1)) a_nil)) e_int) (w_or1 (t_not (t_truth (e_isi (by rfl) (Z _ (by decide)) (a_cons (e_ix (hu_of hr) (e_var (i := 1)) e_int) (a_cons (e_ty (by rfl) (Z _ (by decide))) a_nil))))))))) (ss_one (s_ret e_bl)) ss_nil)
      (ss_one (s_ret (e_in (hu_of hr) (e_ix (hu_of hr) (e_var (i := 1)) e_int) (e_tup (a_cons e_str (a_cons e_str a_nil)))))))))
theorem es_x_is_letall {k : Nat} {f : Addr} {C_x_is_tuple : Con} {C_x_is_pair : Con} {C_x_are_unlike : Con} (Z : NoG mg) (D_x_is_tuple : Dn P w K mg base Tb "_is_tuple" ["thing", "least", "most"] k C_x_is_tuple) (D_x_is_pair : Dn P w K mg base Tb "_is_pair" ["thing"] k C_x_is_pair) (D_x_are_unlike : Dn P w K mg base Tb "_are_unlike" ["names"] k C_x_are_unlike) (G_MOST_BESIDE : ∃ t, mg "MOST_BESIDE" = some (.int (6) t)) {c T : Addr} (TB : GxR.TabB base mg c T) (hT : T ∈ Tb) (A : Around) (outer : List Env) (s : Shared) (H : Hp) (E : XK) (hr : Room (k + 1) (A.deeper (envOfC "_is_letall" (defScope s_x_is_letall) s.heap.objs.size f (.ref c)))) :
    ESs (cxOf CX0 P w K mg base N_x_is_letall "_is_letall" (defScope s_x_is_letall) f (.ref c) A outer s H E).nox Tb (defBody s_x_is_letall) (m_x_is_letall C_x_is_tuple C_x_is_pair C_x_are_unlike) := by
  have hN := sc_x_is_letall.nd
  have hr1 := hr
  have hr : Room k _ := hr1.mono (Nat.le_succ k)
  exact (ss_cons (s_if (w_t (w_or (t_ne hr.units (e_len (by rfl) (Z _ (by decide)) (a_cons (e_var (i := 0)) a_nil)) e_int) (w_or1 (t_not (t_truth (e_call D_x_is_tuple hr (by rfl) (a_cons (e_ix (hu_of hr) (e_var (i := 0)) e_int) (a_cons e_int (a_cons (e_gint (by rfl) G_MOST_BESIDE) a_nil))))))))) (ss_one (s_ret e_bl)) ss_nil)
      (ss_one (s_ret (e_and (e_all (c := c) (own := [("pair", 1)]) hr1 (by rfl) (Z _ (by decide)) TB hT rfl hN ⟨(blkOk_by (N := N_x_is_letall) (sc := defScope s_x_is_letall) (by decide +kernel)), (by decide +kernel), rfl, rfl⟩ (i_seq (e_ix (hu_of hr) (e_var (i := 0)) e_int)) (gg_name (i := 1) hN) (fun _ _ _ _ _ _ _ hr => (e_call D_x_is_pair hr (by rfl) (a_cons (e_var (i := 1)) a_nil)))) (e_one (e_call D_x_are_unlike hr (by rfl) (a_cons (e_lc (own := [("pair", 1)]) hN (i_seq (e_ix (hu_of hr) (e_var (i := 0)) e_int)) (blkOk_by (N := N_x_is_letall) (sc := defScope s_x_is_letall) (by decide +kernel)) (gw_name (i := 1) hN) f_nil (fun _ _ _ _ _ => (e_ix (hu_of hr) (e_var (i := 1)) e_int))) a_nil)))))))
theorem es_x_is_made {k : Nat} {f : Addr} {C_is_name : Con} {C_x_are_names : Con} (Z : NoG mg) (D_is_name : Dn P w K mg base Tb "is_name" ["thing"] k C_is_name) (D_x_are_names : Dn P w K mg base Tb "_are_names" ["thing"] k C_x_are_names) (cdv : Value) (A : Around) (outer : List Env) (s : Shared) (H : Hp) (E : XK) (hr : Room k (A.deeper (envOfC "_is_made" (defScope s_x_is_made) s.heap.objs.size f cdv))) :
    ESs (cxOf CX0 P w K mg base N_x_is_made "_is_made" (defScope s_x_is_made) f cdv A outer s H E).nox Tb (defBody s_x_is_made) (m_x_is_made C_is_name C_x_are_names) := by
  have hN := sc_x_is_made.nd
  exact (ss_one (s_ret (e_and (e_eq hr.units (e_len (by rfl) (Z _ (by decide)) (a_cons (e_var (i := 0)) a_nil)) e_int) (e_and (e_call D_is_name hr (by rfl) (a_cons (e_ix (hu_of hr) (e_var (i := 0)) e_int) a_nil)) (e_one (e_call D_x_are_names hr (by rfl) (a_cons (e_ix (hu_of hr) (e_var (i := 0)) e_int) a_nil)))))))
theorem es_x_is_branch {k : Nat} {f : Addr} {C_x_is_tuple : Con} {C_is_name : Con} {C_x_are_names : Con} {C_x_are_unlike : Con} (Z : NoG mg) (D_x_is_tuple : Dn P w K mg base Tb "_is_tuple" ["thing", "least", "most"] k C_x_is_tuple) (D_is_name : Dn P w K mg base Tb "is_name" ["thing"] k C_is_name) (D_x_are_names : Dn P w K mg base Tb "_are_names" ["thing"] k C_x_are_names) (D_x_are_unlike : Dn P w K mg base Tb "_are_unlike" ["names"] k C_x_are_unlike) (cdv : Value) (A : Around) (outer : List Env) (s : Shared) (H : Hp) (E : XK) (hr : Room k (A.deeper (envOfC "_is_branch" (defScope s_x_is_branch) s.heap.objs.size f cdv))) :
    ESs (cxOf CX0 P w K mg base N_x_is_branch "_is_branch" (defScope s_x_is_branch) f cdv A outer s H E).nox Tb (defBody s_x_is_branch) (m_x_is_branch C_x_is_tuple C_is_name C_x_are_names C_x_are_unlike) := by
  have hN := sc_x_is_branch.nd
  exact (ss_cons (s_if (w_t (w_or (t_not (t_truth (e_call D_x_is_tuple hr (by rfl) (a_cons (e_var (i := 0)) (a_cons e_int (a_cons e_int a_nil)))))) (w_or1 (t_not (t_truth (e_call D_is_name hr (by rfl) (a_cons (e_ix (hu_of hr) (e_var (i := 0)) e_int) a_nil))))))) (ss_one (s_ret e_bl)) ss_nil)
      (ss_one (s_ret (e_and (e_call D_x_are_names hr (by rfl) (a_cons (e_ix (hu_of hr) (e_var (i := 0)) e_int) a_nil)) (e_one (e_call D_x_are_unlike hr (by rfl) (a_cons (e_ix (hu_of hr) (e_var (i := 0)) e_int) a_nil)))))))
theorem es_x_is_by {k : Nat} {f : Addr} {C_is_name : Con} {C_x_is_tuple : Con} {C_x_is_branch : Con} {C_x_are_unlike : Con} (Z : NoG mg) (D_is_name : Dn P w K mg base Tb "is_name" ["thing"] k C_is_name) (D_x_is_tuple : Dn P w K mg base Tb "_is_tuple" ["thing", "least", "most"] k C_x_is_tuple) (D_x_is_branch : Dn P w K mg base Tb "_is_branch" ["thing"] k C_x_is_branch) (D_x_are_unlike : Dn P w K mg base Tb "_are_unlike" ["names"] k C_x_are_unlike) (G_MOST_BESIDE : ∃ t, mg "MOST_BESIDE" = some (.int (6) t)) {c T : Addr} (TB : GxR.TabB base mg c T) (hT : T ∈ Tb) (A : Around) (outer : List Env) (s : Shared) (H : Hp) (E : XK) (hr : Room (k + 1) (A.deeper (envOfC "_is_by" (defScope s_x_is_by) s.heap.objs.size f (.ref c)))) :
    ESs (cxOf CX0 P w K mg base N_x_is_by "_is_by" (defScope s_x_is_by) f (.ref c) A outer s H E).nox Tb (defBody s_x_is_by) (m_x_is_by C_is_name C_x_is_tuple C_x_is_branch C_x_are_unlike) := by
  have hN := sc_x_is_by.nd
  have hr1 := hr
  have hr : Room k _ := hr1.mono (Nat.le_succ k)
  exact (ss_cons (s_if (w_t (w_or (t_ne hr.units (e_len (by rfl) (Z _ (by decide)) (a_cons (e_var (i := 0)) a_nil)) e_int) (w_or (t_not (t_truth (e_call D_is_name hr (by rfl) (a_cons (e_ix (hu_of hr) (e_var (i := 0)) e_int) a_nil)))) (w_or1 (t_not (t_truth (e_call D_x_is_tuple hr (by rfl) (a_cons (e_ix (hu_of hr) (e_var (i := 0)) e_int) (a_cons e_int (a_cons (e_gint (by rfl) G_MOST_BESIDE) a_nil)))))))))) (ss_one (s_ret e_bl)) ss_nil)
      (ss_one (s_ret (e_and (e_all (c := c) (own := [("branch", 1)]) hr1 (by rfl) (Z _ (by decide)) TB hT rfl hN ⟨(blkOk_by (N := N_x_is_by) (sc := defScope s_x_is_by) (by decide +kernel)), (by decide +kernel), rfl, rfl⟩ (i_seq (e_ix (hu_of hr) (e_var (i := 0)) e_int)) (gg_name (i := 1) hN) (fun _ _ _ _ _ _ _ hr => (e_call D_x_is_branch hr (by rfl) (a_cons (e_var (i := 1)) a_nil)))) (e_one (e_call D_x_are_unlike hr (by rfl) (a_cons (e_lc (own := [("branch", 1)]) hN (i_seq (e_ix (hu_of hr) (e_var (i := 0)) e_int)) (blkOk_by (N := N_x_is_by) (sc := defScope s_x_is_by) (by decide +kernel)) (gw_name (i := 1) hN) f_nil (fun _ _ _ _ _ => (e_ix (hu_of hr) (e_var (i := 1)) e_int))) a_nil)))))))
theorem es_x_is_shaped {k : Nat} {f : Addr}  {T_SORTS : Str → Option Addr} {CA : Addr → Option Con} (Z : NoG mg) (K_SORTS : KD K w mg "SORTS" T_SORTS) (HC : ∀ f C, CA f = some C → Held P w K mg base k f (spOf K Tb C)) (cdv : Value) (A : Around) (outer : List Env) (s : Shared) (H : Hp) (E : XK) (hr : Room k (A.deeper (envOfC "_is_shaped" (defScope s_x_is_shaped) s.heap.objs.size f cdv))) :
    ESs (cxOf CX0 P w K mg base N_x_is_shaped "_is_shaped" (defScope s_x_is_shaped) f cdv A outer s H E).nox Tb (defBody s_x_is_shaped) (m_x_is_shaped T_SORTS CA) := by
  have hN := sc_x_is_shaped.nd
  exact (ss_cons (s_if (w_t (w_or (t_not (t_truth (e_isi (by rfl) (Z _ (by decide)) (a_cons (e_var (i := 0)) (a_cons (e_ty (by rfl) (Z _ (by decide))) a_nil))))) (w_or (t_eq hr.units (e_len (by rfl) (Z _ (by decide)) (a_cons (e_var (i := 0)) a_nil)) e_int) (w_or1 (t_not (t_truth (e_isi (by rfl) (Z _ (by decide)) (a_cons (e_ix (hu_of hr) (e_var (i := 0)) e_int) (a_cons (e_ty (by rfl) (Z _ (by decide))) a_nil))))))))) (ss_one (s_ret e_bl)) ss_nil)
      (ss_cons (s_if (t_notinKD K_SORTS (by rfl) (e_ix (hu_of hr) (e_var (i := 0)) e_int)) (ss_one (s_ret e_bl)) ss_nil)
      (ss_cons (s_set (i := 1) hN (e_ixKD K_SORTS (by rfl) (e_ix (hu_of hr) (e_var (i := 0)) e_int)))
      (ss_one (s_ret (e_callL (i := 1) HC hr (a_cons (e_var (i := 0)) a_nil)))))))
theorem es_named {k : Nat} {f : Addr}  (Z : NoG mg) (cdv : Value) (A : Around) (outer : List Env) (s : Shared) (H : Hp) (E : XK) (hr : Room k (A.deeper (envOfC "named" (defScope s_named) s.heap.objs.size f cdv))) :
    ESs (cxOf CX0 P w K mg base N_named "named" (defScope s_named) f cdv A outer s H E).nox Tb (defBody s_named) (m_named ) := by
  have hN := sc_named.nd
  exact (ss_cons (s_set (i := 1) hN (e_ix (hu_of hr) (e_var (i := 0)) e_int))
      (ss_cons (s_if (t_eq hr.units (e_var (i := 1)) e_str) (ss_one (s_ret (e_ix (hu_of hr) (e_var (i := 0)) e_int))) ss_nil)
      (ss_cons (s_if (t_in (hu_of hr) (e_var (i := 1)) (e_tup (a_cons e_str (a_cons e_str a_nil)))) (ss_one (s_ret (e_slice (e_var (i := 0)) (o_some e_int) (o_some e_int)))) ss_nil)
      (ss_cons (s_if (t_in (hu_of hr) (e_var (i := 1)) (e_tup (a_cons e_str (a_cons e_str (a_cons e_str (a_cons e_str (a_cons e_str a_nil))))))) (ss_one (s_ret (e_slice (e_var (i := 0)) (o_some e_int) (o_some e_int)))) ss_nil)
      (ss_one (s_ret (e_tup a_nil)))))))
theorem es_within {k : Nat} {f : Addr}  (Z : NoG mg) (cdv : Value) (A : Around) (outer : List Env) (s : Shared) (H : Hp) (E : XK) (hr : Room k (A.deeper (envOfC "within" (defScope s_within) s.heap.objs.size f cdv))) :
    ESs (cxOf CX0 P w K mg base N_within "within" (defScope s_within) f cdv A outer s H E).nox Tb (defBody s_within) (m_within ) := by
  have hN := sc_within.nd
  exact (ss_cons (s_set (i := 1) hN (e_ix (hu_of hr) (e_var (i := 0)) e_int))
      (ss_cons (s_if (t_eq hr.units (e_var (i := 1)) e_str) (ss_one (s_ret (e_lst (a_cons (e_tup (a_cons (e_ix (hu_of hr) (e_var (i := 0)) e_int) (a_cons (e_tup (a_cons (e_ix (hu_of hr) (e_var (i := 0)) e_int) a_nil)) a_nil))) a_nil)))) ss_nil)
      (ss_cons (s_if (t_in (hu_of hr) (e_var (i := 1)) (e_tup (a_cons e_str (a_cons e_str a_nil)))) (ss_one (s_ret (e_lst (a_cons (e_tup (a_cons (e_ix (hu_of hr) (e_var (i := 0)) e_int) (a_cons (e_tup a_nil) a_nil))) (a_cons (e_tup (a_cons (e_ix (hu_of hr) (e_var (i := 0)) e_int) (a_cons (e_tup (a_cons (e_ix (hu_of hr) (e_var (i := 0)) e_int) a_nil)) a_nil))) a_nil))))) ss_nil)
      (ss_cons (s_if (t_eq hr.units (e_var (i := 1)) e_str) (ss_cons (s_set (i := 2) hN (e_tuple (by rfl) (Z _ (by decide)) (a_cons (e_lc (own := [("pair", 3)]) hN (i_seq (e_ix (hu_of hr) (e_var (i := 0)) e_int)) (blkOk_by (N := N_within) (sc := defScope s_within) (by decide +kernel)) (gw_name (i := 3) hN) f_nil (fun _ _ _ _ _ => (e_ix (hu_of hr) (e_var (i := 3)) e_int))) a_nil)))
      (ss_one (s_ret (e_add (e_lc (own := [("pair", 3)]) hN (i_seq (e_ix (hu_of hr) (e_var (i := 0)) e_int)) (blkOk_by (N := N_within) (sc := defScope s_within) (by decide +kernel)) (gw_name (i := 3) hN) f_nil (fun _ _ _ _ _ => (e_tup (a_cons (e_ix (hu_of hr) (e_var (i := 3)) e_int) (a_cons (e_var (i := 2)) a_nil))))) (e_lst (a_cons (e_tup (a_cons (e_ix (hu_of hr) (e_var (i := 0)) e_int) (a_cons (e_var (i := 2)) a_nil))) a_nil)))))) ss_nil)
      (ss_cons (s_if (t_eq hr.units (e_var (i := 1)) e_str) (ss_one (s_ret (e_lc (own := [("branch", 4)]) hN (i_seq (e_ix (hu_of hr) (e_var (i := 0)) e_int)) (blkOk_by (N := N_within) (sc := defScope s_within) (by decide +kernel)) (gw_name (i := 4) hN) f_nil (fun _ _ _ _ _ => (e_tup (a_cons (e_ix (hu_of hr) (e_var (i := 4)) e_int) (a_cons (e_ix (hu_of hr) (e_var (i := 4)) e_int) a_nil))))))) ss_nil)
      (ss_one (s_ret (e_lst a_nil))))))))
theorem es_is_term {k : Nat} {f : Addr} {C_x_is_shaped : Con} {C_within : Con} (Z : NoG mg) (D_x_is_shaped : Dn P w K mg base Tb "_is_shaped" ["thing"] k C_x_is_shaped) (D_within : Dn P w K mg base Tb "within" ["term"] k C_within) (G_MOST_PIECES : ∃ t, mg "MOST_PIECES" = some (.int (300) t)) (G_MOST_WITHIN : ∃ t, mg "MOST_WITHIN" = some (.int (60) t)) (cdv : Value) (A : Around) (outer : List Env) (s : Shared) (H : Hp) (E : XK) (hr : Room k (A.deeper (envOfC "is_term" (defScope s_is_term) s.heap.objs.size f cdv))) :
    ESs (cxOf CX0 P w K mg base N_is_term "is_term" (defScope s_is_term) f cdv A outer s H E).nox Tb (defBody s_is_term) (m_is_term C_x_is_shaped C_within) := by
  have hN := sc_is_term.nd
  exact (ss_cons (s_set (i := 1) hN (e_lst (a_cons (e_tup (a_cons (e_var (i := 0)) (a_cons e_int a_nil))) a_nil)))
      (ss_cons (s_set (i := 2) hN e_int)
      (ss_cons (s_while (t_truth (e_var (i := 1))) (ss_cons (s_asg (e_pop (e_var (i := 1))) (g_tup rfl (gs_cons (g_name (i := 3) hN) (gs_cons (g_name (i := 4) hN) gs_nil))))
      (ss_cons (s_addI (i := 2) hN e_int)
      (ss_cons (s_if (w_t (w_or (t_gt (e_var (i := 2)) (e_gint (by rfl) G_MOST_PIECES)) (w_or (t_gt (e_var (i := 4)) (e_gint (by rfl) G_MOST_WITHIN)) (w_or1 (t_not (t_truth (e_call D_x_is_shaped hr (by rfl) (a_cons (e_var (i := 3)) a_nil)))))))) (ss_one (s_ret e_bl)) ss_nil)
      (ss_one (s_for (i_seq (e_call D_within hr (by rfl) (a_cons (e_var (i := 3)) a_nil))) (g_tup rfl (gs_cons (g_name (i := 5) hN) (gs_cons (g_name (i := 6) hN) gs_nil))) (ss_one (s_expr (e_append (e_var (i := 1)) (a_cons (e_tup (a_cons (e_var (i := 5)) (a_cons (e_add (e_var (i := 4)) e_int) a_nil))) a_nil))))))))))
      (ss_one (s_ret e_bl)))))
theorem es_free_names {k : Nat} {f : Addr} {C_named : Con} {C_within : Con} (Z : NoG mg) (D_named : Dn P w K mg base Tb "named" ["term"] k C_named) (D_within : Dn P w K mg base Tb "within" ["term"] k C_within) (cdv : Value) (A : Around) (outer : List Env) (s : Shared) (H : Hp) (E : XK) (hr : Room k (A.deeper (envOfC "free_names" (defScope s_free_names) s.heap.objs.size f cdv))) :
    ESs (cxOf CX0 P w K mg base N_free_names "free_names" (defScope s_free_names) f cdv A outer s H E).nox Tb (defBody s_free_names) (m_free_names C_named C_within) := by
  have hN := sc_free_names.nd
  exact (ss_cons (s_set (i := 1) hN e_dnew)
      (ss_cons (s_set (i := 2) hN (e_lst (a_cons (e_tup (a_cons (e_var (i := 0)) (a_cons (e_tup a_nil) a_nil))) a_nil)))
      (ss_cons (s_while (t_truth (e_var (i := 2))) (ss_cons (s_asg (e_pop (e_var (i := 2))) (g_tup rfl (gs_cons (g_name (i := 3) hN) (gs_cons (g_name (i := 4) hN) gs_nil))))
      (ss_cons (s_for (i_seq (e_call D_named hr (by rfl) (a_cons (e_var (i := 3)) a_nil))) (g_name (i := 5) hN) (ss_one (s_if (t_notin (hu_of hr) (e_var (i := 5)) (e_var (i := 4))) (ss_one (s_asg e_bl (g_sub (hu_of hr) (e_var (i := 1)) (e_var (i := 5))))) ss_nil)))
      (ss_one (s_for (i_seq (e_call D_within hr (by rfl) (a_cons (e_var (i := 3)) a_nil))) (g_tup rfl (gs_cons (g_name (i := 6) hN) (gs_cons (g_name (i := 7) hN) gs_nil))) (ss_one (s_expr (e_append (e_var (i := 2)) (a_cons (e_tup (a_cons (e_var (i := 6)) (a_cons (e_add (e_var (i := 4)) (e_var (i := 7))) a_nil))) a_nil)))))))))
      (ss_one (s_ret (e_sortD (by rfl) (Z _ (by decide)) (a_cons (e_var (i := 1)) a_nil)))))))
theorem es_is_program {k : Nat} {f : Addr} {C_is_term : Con} {C_free_names : Con} (Z : NoG mg) (D_is_term : Dn P w K mg base Tb "is_term" ["thing"] k C_is_term) (D_free_names : Dn P w K mg base Tb "free_names" ["term"] k C_free_names) (cdv : Value) (A : Around) (outer : List Env) (s : Shared) (H : Hp) (E : XK) (hr : Room k (A.deeper (envOfC "is_program" (defScope s_is_program) s.heap.objs.size f cdv))) :
    ESs (cxOf CX0 P w K mg base N_is_program "is_program" (defScope s_is_program) f cdv A outer s H E).nox Tb (defBody s_is_program) (m_is_program C_is_term C_free_names) := by
  have hN := sc_is_program.nd
  exact (ss_one (s_ret (e_and (e_call D_is_term hr (by rfl) (a_cons (e_var (i := 0)) a_nil)) (e_one (e_eq hr.units (e_len (by rfl) (Z _ (by decide)) (a_cons (e_call D_free_names hr (by rfl) (a_cons (e_var (i := 0)) a_nil)) a_nil)) e_int)))))
end
end D06

set_option Elab.async false
set_option linter.all false
set_option maxRecDepth 100000
set_option maxHeartbeats 1000000
namespace D06
open PySem PySem.Spec PyProof.Rows L2 Ow Ev EvT Ev06
abbrev s_x_law_feed : Stmt := topS 30
abbrev N_x_law_feed : List Str := ["script", "k", "cell", "digits", "state"]
theorem sc_x_law_feed : FnScope N_x_law_feed ["script", "k"] (defScope s_x_law_feed) := ⟨rfl, rfl, rfl, by decide +kernel, rfl, by decide +kernel, by decide +kernel⟩
abbrev s_x_law_take : Stmt := topS 31
abbrev N_x_law_take : List Str := ["feed", "many", "found"]
theorem sc_x_law_take : FnScope N_x_law_take ["feed", "many"] (defScope s_x_law_take) := ⟨rfl, rfl, rfl, by decide +kernel, rfl, by decide +kernel, by decide +kernel⟩
abbrev s_x_law_pick : Stmt := topS 32
abbrev N_x_law_pick : List Str := ["feed", "some"]
theorem sc_x_law_pick : FnScope N_x_law_pick ["feed", "some"] (defScope s_x_law_pick) := ⟨rfl, rfl, rfl, by decide +kernel, rfl, by decide +kernel, by decide +kernel⟩
abbrev s_x_law_names : Stmt := topS 33
abbrev N_x_law_names : List Str := ["feed", "letters", "first", "tail", "found", "words", "turn", "k"]
theorem sc_x_law_names : FnScope N_x_law_names ["feed"] (defScope s_x_law_names) := ⟨rfl, rfl, rfl, by decide +kernel, rfl, by decide +kernel, by decide +kernel⟩
abbrev s_x_law_few : Stmt := topS 34
abbrev N_x_law_few : List Str := ["feed", "names", "most", "found", "turn", "name"]
theorem sc_x_law_few : FnScope N_x_law_few ["feed", "names", "most"] (defScope s_x_law_few) := ⟨rfl, rfl, rfl, by decide +kernel, rfl, by decide +kernel, by decide +kernel⟩
abbrev s_x_law_made : Stmt := topS 35
abbrev N_x_law_made : List Str := ["feed", "names", "parts", "turn"]
theorem sc_x_law_made : FnScope N_x_law_made ["feed", "names"] (defScope s_x_law_made) := ⟨rfl, rfl, rfl, by decide +kernel, rfl, by decide +kernel, by decide +kernel⟩
abbrev s_x_law_leaf : Stmt := topS 36
abbrev N_x_law_leaf : List Str := ["feed", "names", "way", "word"]
theorem sc_x_law_leaf : FnScope N_x_law_leaf ["feed", "names"] (defScope s_x_law_leaf) := ⟨rfl, rfl, rfl, by decide +kernel, rfl, by decide +kernel, by decide +kernel⟩
abbrev s_x_law_worth : Stmt := topS 37
abbrev N_x_law_worth : List Str := ["feed", "names", "box", "deep"]
theorem sc_x_law_worth : FnScope N_x_law_worth ["feed", "names", "box", "deep"] (defScope s_x_law_worth) := ⟨rfl, rfl, rfl, by decide +kernel, rfl, by decide +kernel, by decide +kernel⟩
abbrev s_x_law_term : Stmt := topS 38
abbrev N_x_law_term : List Str := ["feed", "names", "box", "deep", "way", "some", "pairs", "lines", "word", "own", "first", "name"]
theorem sc_x_law_term : FnScope N_x_law_term ["feed", "names", "box", "deep"] (defScope s_x_law_term) := ⟨rfl, rfl, rfl, by decide +kernel, rfl, by decide +kernel, by decide +kernel⟩
abbrev s_x_law_called : Stmt := topS 39
abbrev N_x_law_called : List Str := ["term", "table", "word", "pairs", "lines", "one", "names", "inner", "name", "worth"]
theorem sc_x_law_called : FnScope N_x_law_called ["term", "table"] (defScope s_x_law_called) := ⟨rfl, rfl, rfl, by decide +kernel, rfl, by decide +kernel, by decide +kernel⟩
abbrev s_x_law_but : Stmt := topS 40
abbrev N_x_law_but : List Str := ["term", "names", "name"]
theorem sc_x_law_but : FnScope N_x_law_but ["term", "names"] (defScope s_x_law_but) := ⟨rfl, rfl, rfl, by decide +kernel, rfl, by decide +kernel, by decide +kernel⟩
abbrev s_x_law_around_right : Stmt := topS 41
abbrev N_x_law_around_right : List Str := ["one", "other", "names", "x", "y", "z", "some", "word", "name", "pairs", "lines", "term", "due"]
theorem sc_x_law_around_right : FnScope N_x_law_around_right ["one", "other", "names"] (defScope s_x_law_around_right) := ⟨rfl, rfl, rfl, by decide +kernel, rfl, by decide +kernel, by decide +kernel⟩
abbrev s_law : Stmt := topS 42
abbrev N_law : List Str := ["script", "k", "feed", "names", "few", "one", "other", "fresh", "turned", "table", "called", "name", "again", "term", "free", "j", "word"]
theorem sc_law : FnScope N_law ["script"] (defScope s_law) := ⟨rfl, rfl, rfl, by decide +kernel, rfl, by decide +kernel, by decide +kernel⟩
section
variable {P : Program} {w : World} {K : PySem.W.Frag} {mg : Str → Option Value} {base : Heap} {Tb : List Addr}
theorem es_x_law_feed {k : Nat} {f : Addr}  (Z : NoG mg) (cdv : Value) (A : Around) (outer : List Env) (s : Shared) (H : Hp) (E : XK) (hr : Room k (A.deeper (envOfC "_law_feed" (defScope s_x_law_feed) s.heap.objs.size f cdv))) :
    ESs (cxOf CX0 P w K mg base N_x_law_feed "_law_feed" (defScope s_x_law_feed) f cdv A outer s H E).nox Tb (defBody s_x_law_feed) (m_x_law_feed ) := by
  have hN := sc_x_law_feed.nd
  exact (ss_cons (s_set (i := 2) hN (e_if (t_lt (e_var (i := 1)) (e_len (by rfl) (Z _ (by decide)) (a_cons (e_var (i := 0)) a_nil))) (e_ix (hu_of hr) (e_var (i := 0)) (e_var (i := 1))) (e_add (e_mul e_int (e_var (i := 1))) e_int)))
      (ss_cons (s_set (i := 3) hN (e_max (by rfl) (Z _ (by decide)) (a_cons e_int (a_cons (e_sub (e_abs (by rfl) (Z _ (by decide)) (a_cons (e_var (i := 2)) a_nil)) (e_pow e_int e_int)) a_nil))))
      (ss_cons (s_set (i := 4) hN (e_mod (e_add (e_add (e_mul (e_var (i := 2)) e_int) (e_mul e_int (e_var (i := 1)))) e_int) e_int))
      (ss_one (s_ret (e_lst (a_cons (e_var (i := 3)) (a_cons (e_var (i := 4)) a_nil))))))))
theorem es_x_law_take {k : Nat} {f : Addr}  (Z : NoG mg) (cdv : Value) (A : Around) (outer : List Env) (s : Shared) (H : Hp) (E : XK) (hr : Room k (A.deeper (envOfC "_law_take" (defScope s_x_law_take) s.heap.objs.size f cdv))) :
    ESs (cxOf CX0 P w K mg base N_x_law_take "_law_take" (defScope s_x_law_take) f cdv A outer s H E).nox Tb (defBody s_x_law_take) (m_x_law_take ) := by
  have hN := sc_x_law_take.nd
  exact (ss_cons (s_if (t_gt (e_ix (hu_of hr) (e_var (i := 0)) e_int) e_int) (ss_cons (s_set (i := 2) hN (e_mod (e_ix (hu_of hr) (e_var (i := 0)) e_int) (e_var (i := 1))))
      (ss_cons (s_asg (e_fdiv (e_ix (hu_of hr) (e_var (i := 0)) e_int) (e_var (i := 1))) (g_sub (hu_of hr) (e_var (i := 0)) e_int))
      (ss_one (s_ret (e_var (i := 2)))))) ss_nil)
      (ss_cons (s_asg (e_mod (e_add (e_mul (e_ix (hu_of hr) (e_var (i := 0)) e_int) e_int) e_int) e_int) (g_sub (hu_of hr) (e_var (i := 0)) e_int))
      (ss_one (s_ret (e_mod (e_fdiv (e_ix (hu_of hr) (e_var (i := 0)) e_int) e_int) (e_var (i := 1)))))))
theorem es_x_law_pick {k : Nat} {f : Addr} {C_x_law_take : Con} (Z : NoG mg) (D_x_law_take : Dn P w K mg base Tb "_law_take" ["feed", "many"] k C_x_law_take) (cdv : Value) (A : Around) (outer : List Env) (s : Shared) (H : Hp) (E : XK) (hr : Room k (A.deeper (envOfC "_law_pick" (defScope s_x_law_pick) s.heap.objs.size f cdv))) :
    ESs (cxOf CX0 P w K mg base N_x_law_pick "_law_pick" (defScope s_x_law_pick) f cdv A outer s H E).nox Tb (defBody s_x_law_pick) (m_x_law_pick C_x_law_take) := by
  have hN := sc_x_law_pick.nd
  exact (ss_one (s_ret (e_ix (hu_of hr) (e_var (i := 1)) (e_call D_x_law_take hr (by rfl) (a_cons (e_var (i := 0)) (a_cons (e_len (by rfl) (Z _ (by decide)) (a_cons (e_var (i := 1)) a_nil)) a_nil))))))
theorem es_x_law_names {k : Nat} {f : Addr} {C_x_law_take : Con} {C_x_law_pick : Con} (Z : NoG mg) (D_x_law_take : Dn P w K mg base Tb "_law_take" ["feed", "many"] k C_x_law_take) (D_x_law_pick : Dn P w K mg base Tb "_law_pick" ["feed", "some"] k C_x_law_pick) (cdv : Value) (A : Around) (outer : List Env) (s : Shared) (H : Hp) (E : XK) (hr : Room k (A.deeper (envOfC "_law_names" (defScope s_x_law_names) s.heap.objs.size f cdv))) :
    ESs (cxOf CX0 P w K mg base N_x_law_names "_law_names" (defScope s_x_law_names) f cdv A outer s H E).nox Tb (defBody s_x_law_names) (m_x_law_names C_x_law_take C_x_law_pick) := by
  have hN := sc_x_law_names.nd
  exact (ss_cons (s_set (i := 1) hN e_str)
      (ss_cons (s_asg (e_tup (a_cons (e_call D_x_law_take hr (by rfl) (a_cons (e_var (i := 0)) (a_cons e_int a_nil))) (a_cons (e_mul (e_ix (hu_of hr) (e_var (i := 1)) (e_call D_x_law_take hr (by rfl) (a_cons (e_var (i := 0)) (a_cons e_int a_nil)))) (e_call D_x_law_take hr (by rfl) (a_cons (e_var (i := 0)) (a_cons e_int a_nil)))) a_nil))) (g_tup rfl (gs_cons (g_name (i := 2) hN) (gs_cons (g_name (i := 3) hN) gs_nil))))
      (ss_cons (s_setLc (i := 4) (own := [("k", 7)]) hN (i_range1 (by rfl) (Z _ (by decide)) (a_cons e_int a_nil)) (blkOk_by (N := N_x_law_names) (sc := defScope s_x_law_names) (by decide +kernel)) (gw_name (i := 7) hN) f_nil (fun _ _ _ _ _ => (e_add (e_ix (hu_of hr) (e_var (i := 1)) (e_mod (e_add (e_var (i := 2)) (e_mul e_int (e_var (i := 7)))) e_int)) (e_var (i := 3)))) (sw_true rfl rfl rfl (by decide +kernel)))
      (ss_cons (s_set (i := 5) hN (e_lst (a_cons e_str (a_cons e_str (a_cons e_str (a_cons e_str (a_cons e_str (a_cons e_str (a_cons e_str (a_cons e_str (a_cons e_str (a_cons e_str (a_cons e_str (a_cons e_str a_nil))))))))))))))
      (ss_cons (s_set (i := 5) hN (e_add (e_var (i := 5)) (e_lst (a_cons e_str (a_cons e_str a_nil)))))
      (ss_cons (s_for (i_range1 (by rfl) (Z _ (by decide)) (a_cons (e_call D_x_law_pick hr (by rfl) (a_cons (e_var (i := 0)) (a_cons (e_lst (a_cons e_int (a_cons e_int (a_cons e_int (a_cons e_int a_nil))))) a_nil))) a_nil)) (g_name (i := 6) hN) (ss_one (s_asg (e_call D_x_law_pick hr (by rfl) (a_cons (e_var (i := 0)) (a_cons (e_var (i := 5)) a_nil))) (g_sub (hu_of hr) (e_var (i := 4)) (e_call D_x_law_take hr (by rfl) (a_cons (e_var (i := 0)) (a_cons e_int a_nil)))))))
      (ss_one (s_ret (e_var (i := 4))))))))))
theorem es_x_law_few {k : Nat} {f : Addr} {C_x_law_take : Con} {C_x_law_pick : Con} (Z : NoG mg) (D_x_law_take : Dn P w K mg base Tb "_law_take" ["feed", "many"] k C_x_law_take) (D_x_law_pick : Dn P w K mg base Tb "_law_pick" ["feed", "some"] k C_x_law_pick) (cdv : Value) (A : Around) (outer : List Env) (s : Shared) (H : Hp) (E : XK) (hr : Room k (A.deeper (envOfC "_law_few" (defScope s_x_law_few) s.heap.objs.size f cdv))) :
    ESs (cxOf CX0 P w K mg base N_x_law_few "_law_few" (defScope s_x_law_few) f cdv A outer s H E).nox Tb (defBody s_x_law_few) (m_x_law_few C_x_law_take C_x_law_pick) := by
  have hN := sc_x_law_few.nd
  exact (ss_cons (s_set (i := 3) hN (e_lst a_nil))
      (ss_cons (s_for (i_range1 (by rfl) (Z _ (by decide)) (a_cons (e_call D_x_law_take hr (by rfl) (a_cons (e_var (i := 0)) (a_cons (e_add (e_var (i := 2)) e_int) a_nil))) a_nil)) (g_name (i := 4) hN) (ss_cons (s_set (i := 5) hN (e_call D_x_law_pick hr (by rfl) (a_cons (e_var (i := 0)) (a_cons (e_var (i := 1)) a_nil))))
      (ss_one (s_if (t_notin (hu_of hr) (e_var (i := 5)) (e_var (i := 3))) (ss_one (s_expr (e_append (e_var (i := 3)) (a_cons (e_var (i := 5)) a_nil)))) ss_nil))))
      (ss_one (s_ret (e_tuple (by rfl) (Z _ (by decide)) (a_cons (e_var (i := 3)) a_nil))))))
theorem es_x_law_made {k : Nat} {f : Addr} {C_x_law_take : Con} {C_x_law_pick : Con} (Z : NoG mg) (D_x_law_take : Dn P w K mg base Tb "_law_take" ["feed", "many"] k C_x_law_take) (D_x_law_pick : Dn P w K mg base Tb "_law_pick" ["feed", "some"] k C_x_law_pick) (cdv : Value) (A : Around) (outer : List Env) (s : Shared) (H : Hp) (E : XK) (hr : Room k (A.deeper (envOfC "_law_made" (defScope s_x_law_made) s.heap.objs.size f cdv))) :
    ESs (cxOf CX0 P w K mg base N_x_law_made "_law_made" (defScope s_x_law_made) f cdv A outer s H E).nox Tb (defBody s_x_law_made) (m_x_law_made C_x_law_take C_x_law_pick) := by
  have hN := sc_x_law_made.nd
  exact (ss_cons (s_setLc (i := 2) (own := [("turn", 3)]) hN (i_range1 (by rfl) (Z _ (by decide)) (a_cons (e_call D_x_law_take hr (by rfl) (a_cons (e_var (i := 0)) (a_cons e_int a_nil))) a_nil)) (blkOk_by (N := N_x_law_made) (sc := defScope s_x_law_made) (by decide +kernel)) (gw_name (i := 3) hN) f_nil (fun _ _ _ _ _ => (e_call D_x_law_pick hr (by rfl) (a_cons (e_var (i := 0)) (a_cons (e_var (i := 1)) a_nil)))) (sw_true rfl rfl rfl (by decide +kernel)))
      (ss_one (s_ret (e_tup (a_cons e_str (a_cons (e_call D_x_law_pick hr (by rfl) (a_cons (e_var (i := 0)) (a_cons (e_var (i := 1)) a_nil))) (a_cons (e_tuple (by rfl) (Z _ (by decide)) (a_cons (e_var (i := 2)) a_nil)) a_nil)))))))
theorem es_x_law_leaf {k : Nat} {f : Addr} {C_x_law_take : Con} {C_x_law_pick : Con} {C_x_law_made : Con} (Z : NoG mg) (D_x_law_take : Dn P w K mg base Tb "_law_take" ["feed", "many"] k C_x_law_take) (D_x_law_pick : Dn P w K mg base Tb "_law_pick" ["feed", "some"] k C_x_law_pick) (D_x_law_made : Dn P w K mg base Tb "_law_made" ["feed", "names"] k C_x_law_made) (cdv : Value) (A : Around) (outer : List Env) (s : Shared) (H : Hp) (E : XK) (hr : Room k (A.deeper (envOfC "_law_leaf" (defScope s_x_law_leaf) s.heap.objs.size f cdv))) :
    ESs (cxOf CX0 P w K mg base N_x_law_leaf "_law_leaf" (defScope s_x_law_leaf) f cdv A outer s H E).nox Tb (defBody s_x_law_leaf) (m_x_law_leaf C_x_law_take C_x_law_pick C_x_law_made) := by
  have hN := sc_x_law_leaf.nd
  exact (ss_cons (s_set (i := 2) hN (e_call D_x_law_take hr (by rfl) (a_cons (e_var (i := 0)) (a_cons e_int a_nil))))
      (ss_cons (s_if (t_eq hr.units (e_var (i := 2)) e_int) (ss_one (s_ret (e_tup (a_cons e_str (a_cons (e_call D_x_law_pick hr (by rfl) (a_cons (e_var (i := 0)) (a_cons (e_lst (a_cons e_int (a_cons e_int (a_cons (e_neg e_int) (a_cons (e_pow e_int e_int) (a_cons (e_sub e_int (e_pow e_int e_int)) (a_cons (e_sub (e_call D_x_law_take hr (by rfl) (a_cons (e_var (i := 0)) (a_cons e_int a_nil))) e_int) a_nil))))))) a_nil))) a_nil))))) ss_nil)
      (ss_cons (s_if (t_eq hr.units (e_var (i := 2)) e_int) (ss_one (s_ret (e_call D_x_law_made hr (by rfl) (a_cons (e_var (i := 0)) (a_cons (e_var (i := 1)) a_nil))))) ss_nil)
      (ss_cons (s_if (t_eq hr.units (e_var (i := 2)) e_int) (ss_one (s_ret (e_tup (a_cons e_str (a_cons (e_call D_x_law_pick hr (by rfl) (a_cons (e_var (i := 0)) (a_cons (e_var (i := 1)) a_nil))) a_nil))))) ss_nil)
      (ss_cons (s_set (i := 3) hN (e_call D_x_law_pick hr (by rfl) (a_cons (e_var (i := 0)) (a_cons (e_lst (a_cons e_str (a_cons e_str (a_cons e_str (a_cons e_str (a_cons e_str (a_cons e_str a_nil))))))) a_nil))))
      (ss_one (s_ret (e_tup (a_cons (e_var (i := 3)) (a_cons (e_call D_x_law_pick hr (by rfl) (a_cons (e_var (i := 0)) (a_cons (e_var (i := 1)) a_nil))) (a_cons (e_call D_x_law_pick hr (by rfl) (a_cons (e_var (i := 0)) (a_cons (e_var (i := 1)) a_nil))) a_nil)))))))))))
theorem es_x_law_worth {k : Nat} {f : Addr} {C_x_law_take : Con} {C_x_law_made : Con} {C_x_law_term : Con} {C_x_law_pick : Con} (Z : NoG mg) (D_x_law_take : Dn P w K mg base Tb "_law_take" ["feed", "many"] k C_x_law_take) (D_x_law_made : Dn P w K mg base Tb "_law_made" ["feed", "names"] k C_x_law_made) (D_x_law_term : Dn P w K mg base Tb "_law_term" ["feed", "names", "box", "deep"] k C_x_law_term) (D_x_law_pick : Dn P w K mg base Tb "_law_pick" ["feed", "some"] k C_x_law_pick) (cdv : Value) (A : Around) (outer : List Env) (s : Shared) (H : Hp) (E : XK) (hr : Room k (A.deeper (envOfC "_law_worth" (defScope s_x_law_worth) s.heap.objs.size f cdv))) :
    ESs (cxOf CX0 P w K mg base N_x_law_worth "_law_worth" (defScope s_x_law_worth) f cdv A outer s H E).nox Tb (defBody s_x_law_worth) (m_x_law_worth C_x_law_take C_x_law_made C_x_law_term C_x_law_pick) := by
  have hN := sc_x_law_worth.nd
  exact (ss_cons (s_asg (e_sub (e_ix (hu_of hr) (e_var (i := 2)) e_int) e_int) (g_sub (hu_of hr) (e_var (i := 2)) e_int))
      (ss_cons (s_if (t_eq hr.units (e_call D_x_law_take hr (by rfl) (a_cons (e_var (i := 0)) (a_cons e_int a_nil))) e_int) (ss_one (s_ret (e_call D_x_law_made hr (by rfl) (a_cons (e_var (i := 0)) (a_cons (e_var (i := 1)) a_nil))))) ss_nil)
      (ss_one (s_ret (e_tup (a_cons e_str (a_cons (e_call D_x_law_pick hr (by rfl) (a_cons (e_var (i := 0)) (a_cons (e_var (i := 1)) a_nil))) (a_cons (e_call D_x_law_term hr (by rfl) (a_cons (e_var (i := 0)) (a_cons (e_var (i := 1)) (a_cons (e_var (i := 2)) (a_cons (e_sub (e_var (i := 3)) e_int) a_nil))))) a_nil))))))))
theorem es_x_law_term {k : Nat} {f : Addr} {C_x_law_take : Con} {C_x_law_leaf : Con} {C_x_law_term : Con} {C_x_law_pick : Con} {C_x_law_few : Con} {C_x_law_worth : Con} (Z : NoG mg) (D_x_law_take : Dn P w K mg base Tb "_law_take" ["feed", "many"] k C_x_law_take) (D_x_law_leaf : Dn P w K mg base Tb "_law_leaf" ["feed", "names"] k C_x_law_leaf) (D_x_law_term : Dn P w K mg base Tb "_law_term" ["feed", "names", "box", "deep"] k C_x_law_term) (D_x_law_pick : Dn P w K mg base Tb "_law_pick" ["feed", "some"] k C_x_law_pick) (D_x_law_few : Dn P w K mg base Tb "_law_few" ["feed", "names", "most"] k C_x_law_few) (D_x_law_worth : Dn P w K mg base Tb "_law_worth" ["feed", "names", "box", "deep"] k C_x_law_worth) (cdv : Value) (A : Around) (outer : List Env) (s : Shared) (H : Hp) (E : XK) (hr : Room k (A.deeper (envOfC "_law_term" (defScope s_x_law_term) s.heap.objs.size f cdv))) :
    ESs (cxOf CX0 P w K mg base N_x_law_term "_law_term" (defScope s_x_law_term) f cdv A outer s H E).nox Tb (defBody s_x_law_term) (m_x_law_term C_x_law_take C_x_law_leaf C_x_law_term C_x_law_pick C_x_law_few C_x_law_worth) := by
  have hN := sc_x_law_term.nd
  exact (ss_cons (s_asg (e_sub (e_ix (hu_of hr) (e_var (i := 2)) e_int) e_int) (g_sub (hu_of hr) (e_var (i := 2)) e_int))
      (ss_cons (s_set (i := 4) hN (e_call D_x_law_take hr (by rfl) (a_cons (e_var (i := 0)) (a_cons e_int a_nil))))
      (ss_cons (s_if (w_t (w_or (t_lt (e_var (i := 3)) e_int) (w_or (t_lt (e_ix (hu_of hr) (e_var (i := 2)) e_int) e_int) (w_or1 (t_eq hr.units (e_var (i := 4)) e_int))))) (ss_one (s_ret (e_call D_x_law_leaf hr (by rfl) (a_cons (e_var (i := 0)) (a_cons (e_var (i := 1)) a_nil))))) ss_nil)
      (ss_cons (s_if (t_eq hr.units (e_var (i := 4)) e_int) (ss_one (s_ret (e_tup (a_cons e_str (a_cons (e_call D_x_law_pick hr (by rfl) (a_cons (e_var (i := 0)) (a_cons (e_var (i := 1)) a_nil))) (a_cons (e_call D_x_law_term hr (by rfl) (a_cons (e_var (i := 0)) (a_cons (e_var (i := 1)) (a_cons (e_var (i := 2)) (a_cons (e_sub (e_var (i := 3)) e_int) a_nil))))) a_nil)))))) ss_nil)
      (ss_cons (s_if (t_eq hr.units (e_var (i := 4)) e_int) (ss_cons (s_set (i := 5) hN (e_call D_x_law_few hr (by rfl) (a_cons (e_var (i := 0)) (a_cons (e_var (i := 1)) (a_cons e_int a_nil)))))
      (ss_cons (s_set (i := 5) hN (e_if (t_ne hr.units (e_var (i := 5)) (e_tup a_nil)) (e_var (i := 5)) (e_tuple (by rfl) (Z _ (by decide)) (a_cons (e_slice (e_var (i := 1)) o_none (o_some e_int)) a_nil))))
      (ss_cons (s_set (i := 6) hN (e_tuple (by rfl) (Z _ (by decide)) (a_cons (e_lc (own := [("name", 11)]) hN (i_seq (e_var (i := 5))) (blkOk_by (N := N_x_law_term) (sc := defScope s_x_law_term) (by decide +kernel)) (gw_name (i := 11) hN) f_nil (fun _ _ _ _ _ => (e_tup (a_cons (e_var (i := 11)) (a_cons (e_call D_x_law_worth hr (by rfl) (a_cons (e_var (i := 0)) (a_cons (e_var (i := 1)) (a_cons (e_var (i := 2)) (a_cons (e_sub (e_var (i := 3)) e_int) a_nil))))) a_nil))))) a_nil)))
      (ss_one (s_ret (e_tup (a_cons e_str (a_cons (e_var (i := 6)) (a_cons (e_call D_x_law_term hr (by rfl) (a_cons (e_var (i := 0)) (a_cons (e_var (i := 1)) (a_cons (e_var (i := 2)) (a_cons (e_sub (e_var (i := 3)) e_int) a_nil))))) a_nil))))))))) ss_nil)
      (ss_cons (s_if (t_eq hr.units (e_var (i := 4)) e_int) (ss_cons (s_set (i := 5) hN (e_call D_x_law_few hr (by rfl) (a_cons (e_var (i := 0)) (a_cons (e_var (i := 1)) (a_cons e_int a_nil)))))
      (ss_cons (s_set (i := 7) hN (e_lst a_nil))
      (ss_cons (s_for (i_seq (e_if (t_ne hr.units (e_var (i := 5)) (e_tup a_nil)) (e_var (i := 5)) (e_tuple (by rfl) (Z _ (by decide)) (a_cons (e_slice (e_var (i := 1)) o_none (o_some e_int)) a_nil)))) (g_name (i := 8) hN) (ss_cons (s_set (i := 9) hN (e_call D_x_law_few hr (by rfl) (a_cons (e_var (i := 0)) (a_cons (e_var (i := 1)) (a_cons e_int a_nil)))))
      (ss_one (s_expr (e_append (e_var (i := 7)) (a_cons (e_tup (a_cons (e_var (i := 8)) (a_cons (e_var (i := 9)) (a_cons (e_call D_x_law_term hr (by rfl) (a_cons (e_var (i := 0)) (a_cons (e_var (i := 1)) (a_cons (e_var (i := 2)) (a_cons (e_sub (e_var (i := 3)) e_int) a_nil))))) a_nil)))) a_nil))))))
      (ss_one (s_ret (e_tup (a_cons e_str (a_cons (e_call D_x_law_pick hr (by rfl) (a_cons (e_var (i := 0)) (a_cons (e_var (i := 1)) a_nil))) (a_cons (e_tuple (by rfl) (Z _ (by decide)) (a_cons (e_var (i := 7)) a_nil)) a_nil))))))))) ss_nil)
      (ss_cons (s_set (i := 10) hN (e_call D_x_law_term hr (by rfl) (a_cons (e_var (i := 0)) (a_cons (e_var (i := 1)) (a_cons (e_var (i := 2)) (a_cons (e_sub (e_var (i := 3)) e_int) a_nil))))))
      (ss_cons (s_set (i := 8) hN (e_call D_x_law_pick hr (by rfl) (a_cons (e_var (i := 0)) (a_cons (e_lst (a_cons e_str (a_cons e_str (a_cons e_str a_nil)))) a_nil))))
      (ss_one (s_ret (e_tup (a_cons (e_var (i := 8)) (a_cons (e_call D_x_law_pick hr (by rfl) (a_cons (e_var (i := 0)) (a_cons (e_var (i := 1)) a_nil))) (a_cons (e_var (i := 10)) (a_cons (e_call D_x_law_term hr (by rfl) (a_cons (e_var (i := 0)) (a_cons (e_var (i := 1)) (a_cons (e_var (i := 2)) (a_cons (e_sub (e_var (i := 3)) e_int) a_nil))))) a_nil)))))))))))))))
theorem es_x_law_called {k : Nat} {f : Addr} {C_x_law_called : Con} (Z : NoG mg) (D_x_law_called : Dn P w K mg base Tb "_law_called" ["term", "table"] k C_x_law_called) (cdv : Value) (A : Around) (outer : List Env) (s : Shared) (H : Hp) (E : XK) (hr : Room k (A.deeper (envOfC "_law_called" (defScope s_x_law_called) s.heap.objs.size f cdv))) :
    ESs (cxOf CX0 P w K mg base N_x_law_called "_law_called" (defScope s_x_law_called) f cdv A outer s H E).nox Tb (defBody s_x_law_called) (m_x_law_called C_x_law_called) := by
  have hN := sc_x_law_called.nd
  exact (ss_cons (s_set (i := 2) hN (e_ix (hu_of hr) (e_var (i := 0)) e_int))
      (ss_cons (s_if (t_eq hr.units (e_var (i := 2)) e_str) (ss_one (s_ret (e_var (i := 0)))) ss_nil)
      (ss_cons (s_if (t_eq hr.units (e_var (i := 2)) e_str) (ss_one (s_ret (e_tup (a_cons (e_var (i := 2)) (a_cons (e_ix (hu_of hr) (e_var (i := 1)) (e_ix (hu_of hr) (e_var (i := 0)) e_int)) (a_cons (e_tuple (by rfl) (Z _ (by decide)) (a_cons (e_lc (own := [("name", 8)]) hN (i_seq (e_ix (hu_of hr) (e_var (i := 0)) e_int)) (blkOk_by (N := N_x_law_called) (sc := defScope s_x_law_called) (by decide +kernel)) (gw_name (i := 8) hN) f_nil (fun _ _ _ _ _ => (e_ix (hu_of hr) (e_var (i := 1)) (e_var (i := 8))))) a_nil)) a_nil)))))) ss_nil)
      (ss_cons (s_if (t_eq hr.units (e_var (i := 2)) e_str) (ss_cons (s_setLc (i := 3) (own := [("name", 8), ("worth", 9)]) hN (i_seq (e_ix (hu_of hr) (e_var (i := 0)) e_int)) (blkOk_by (N := N_x_law_called) (sc := defScope s_x_law_called) (by decide +kernel)) (gw_tup (n := 2) (gws_cons (gw_name (i := 8) hN) (gws_cons (gw_name (i := 9) hN) gws_nil))) f_nil (fun _ _ _ _ _ => (e_tup (a_cons (e_ix (hu_of hr) (e_var (i := 1)) (e_var (i := 8))) (a_cons (e_call D_x_law_called hr (by rfl) (a_cons (e_var (i := 9)) (a_cons (e_var (i := 1)) a_nil))) a_nil)))) (sw_true rfl rfl rfl (by decide +kernel)))
      (ss_one (s_ret (e_tup (a_cons (e_var (i := 2)) (a_cons (e_tuple (by rfl) (Z _ (by decide)) (a_cons (e_var (i := 3)) a_nil)) (a_cons (e_call D_x_law_called hr (by rfl) (a_cons (e_ix (hu_of hr) (e_var (i := 0)) e_int) (a_cons (e_var (i := 1)) a_nil))) a_nil))))))) ss_nil)
      (ss_cons (s_if (t_eq hr.units (e_var (i := 2)) e_str) (ss_cons (s_set (i := 4) hN (e_lst a_nil))
      (ss_cons (s_for (i_seq (e_ix (hu_of hr) (e_var (i := 0)) e_int)) (g_tup rfl (gs_cons (g_name (i := 5) hN) (gs_cons (g_name (i := 6) hN) (gs_cons (g_name (i := 7) hN) gs_nil)))) (ss_one (s_expr (e_append (e_var (i := 4)) (a_cons (e_tup (a_cons (e_ix (hu_of hr) (e_var (i := 1)) (e_var (i := 5))) (a_cons (e_tuple (by rfl) (Z _ (by decide)) (a_cons (e_lc (own := [("name", 8)]) hN (i_seq (e_var (i := 6))) (blkOk_by (N := N_x_law_called) (sc := defScope s_x_law_called) (by decide +kernel)) (gw_name (i := 8) hN) f_nil (fun _ _ _ _ _ => (e_ix (hu_of hr) (e_var (i := 1)) (e_var (i := 8))))) a_nil)) (a_cons (e_call D_x_law_called hr (by rfl) (a_cons (e_var (i := 7)) (a_cons (e_var (i := 1)) a_nil))) a_nil)))) a_nil)))))
      (ss_one (s_ret (e_tup (a_cons (e_var (i := 2)) (a_cons (e_ix (hu_of hr) (e_var (i := 1)) (e_ix (hu_of hr) (e_var (i := 0)) e_int)) (a_cons (e_tuple (by rfl) (Z _ (by decide)) (a_cons (e_var (i := 4)) a_nil)) a_nil)))))))) ss_nil)
      (ss_cons (s_if (t_in (hu_of hr) (e_var (i := 2)) (e_lst (a_cons e_str (a_cons e_str (a_cons e_str a_nil))))) (ss_one (s_ret (e_add (e_tup (a_cons (e_var (i := 2)) (a_cons (e_ix (hu_of hr) (e_var (i := 1)) (e_ix (hu_of hr) (e_var (i := 0)) e_int)) a_nil))) (e_tuple (by rfl) (Z _ (by decide)) (a_cons (e_lc (own := [("inner", 7)]) hN (i_seq (e_slice (e_var (i := 0)) (o_some e_int) o_none)) (blkOk_by (N := N_x_law_called) (sc := defScope s_x_law_called) (by decide +kernel)) (gw_name (i := 7) hN) f_nil (fun _ _ _ _ _ => (e_call D_x_law_called hr (by rfl) (a_cons (e_var (i := 7)) (a_cons (e_var (i := 1)) a_nil))))) a_nil))))) ss_nil)
      (ss_one (s_ret (e_add (e_tup (a_cons (e_var (i := 2)) a_nil)) (e_tuple (by rfl) (Z _ (by decide)) (a_cons (e_lc (own := [("name", 8)]) hN (i_seq (e_slice (e_var (i := 0)) (o_some e_int) o_none)) (blkOk_by (N := N_x_law_called) (sc := defScope s_x_law_called) (by decide +kernel)) (gw_name (i := 8) hN) f_nil (fun _ _ _ _ _ => (e_ix (hu_of hr) (e_var (i := 1)) (e_var (i := 8))))) a_nil)))))))))))
theorem es_x_law_but {k : Nat} {f : Addr} {C_free_names : Con} (Z : NoG mg) (D_free_names : Dn P w K mg base Tb "free_names" ["term"] k C_free_names) (cdv : Value) (A : Around) (outer : List Env) (s : Shared) (H : Hp) (E : XK) (hr : Room k (A.deeper (envOfC "_law_but" (defScope s_x_law_but) s.heap.objs.size f cdv))) :
    ESs (cxOf CX0 P w K mg base N_x_law_but "_law_but" (defScope s_x_law_but) f cdv A outer s H E).nox Tb (defBody s_x_law_but) (m_x_law_but C_free_names) := by
  have hN := sc_x_law_but.nd
  exact (ss_one (s_ret (e_lc (own := [("name", 2)]) hN (i_seq (e_call D_free_names hr (by rfl) (a_cons (e_var (i := 0)) a_nil))) (blkOk_by (N := N_x_law_but) (sc := defScope s_x_law_but) (by decide +kernel)) (gw_name (i := 2) hN) (f_one fun _ _ _ _ _ => (t_notin (hu_of hr) (e_var (i := 2)) (e_var (i := 1)))) (fun _ _ _ _ _ => (e_var (i := 2))))))
theorem es_x_law_around_right {k : Nat} {f : Addr} {C_x_law_but : Con} {C_free_names : Con} {C_is_term : Con} (Z : NoG mg) (D_x_law_but : Dn P w K mg base Tb "_law_but" ["term", "names"] k C_x_law_but) (D_free_names : Dn P w K mg base Tb "free_names" ["term"] k C_free_names) (D_is_term : Dn P w K mg base Tb "is_term" ["thing"] k C_is_term) (cdv : Value) (A : Around) (outer : List Env) (s : Shared) (H : Hp) (E : XK) (hr : Room k (A.deeper (envOfC "_law_around_right" (defScope s_x_law_around_right) s.heap.objs.size f cdv))) :
    ESs (cxOf CX0 P w K mg base N_x_law_around_right "_law_around_right" (defScope s_x_law_around_right) f cdv A outer s H E).nox Tb (defBody s_x_law_around_right) (m_x_law_around_right C_x_law_but C_free_names C_is_term) := by
  have hN := sc_x_law_around_right.nd
  exact (ss_cons (s_asg (e_var (i := 2)) (g_unl rfl (gs_cons (g_name (i := 3) hN) (gs_cons (g_name (i := 4) hN) (gs_cons (g_name (i := 5) hN) gs_nil)))))
      (ss_cons (s_set (i := 6) hN (e_lst (a_cons (e_tup (a_cons (e_tup (a_cons e_str (a_cons (e_var (i := 3)) (a_cons (e_var (i := 0)) a_nil)))) (a_cons (e_call D_x_law_but hr (by rfl) (a_cons (e_var (i := 0)) (a_cons (e_lst (a_cons (e_var (i := 3)) a_nil)) a_nil))) a_nil))) a_nil)))
      (ss_cons (s_for (i_seq (e_lst (a_cons (e_tup (a_cons e_str (a_cons (e_var (i := 3)) a_nil))) (a_cons (e_tup (a_cons e_str (a_cons (e_var (i := 4)) a_nil))) a_nil)))) (g_tup rfl (gs_cons (g_name (i := 7) hN) (gs_cons (g_name (i := 8) hN) gs_nil))) (ss_one (s_expr (e_append (e_var (i := 6)) (a_cons (e_tup (a_cons (e_tup (a_cons (e_var (i := 7)) (a_cons (e_var (i := 8)) (a_cons (e_var (i := 0)) (a_cons (e_var (i := 1)) a_nil))))) (a_cons (e_add (e_call D_free_names hr (by rfl) (a_cons (e_var (i := 0)) a_nil)) (e_call D_x_law_but hr (by rfl) (a_cons (e_var (i := 1)) (a_cons (e_lst (a_cons (e_var (i := 8)) a_nil)) a_nil)))) a_nil))) a_nil)))))
      (ss_cons (s_set (i := 9) hN (e_tup (a_cons (e_tup (a_cons (e_var (i := 3)) (a_cons (e_tup (a_cons e_str (a_cons (e_var (i := 4)) (a_cons (e_var (i := 0)) a_nil)))) a_nil))) (a_cons (e_tup (a_cons (e_var (i := 5)) (a_cons (e_tup (a_cons e_str (a_cons (e_var (i := 4)) (a_cons (e_tup (a_cons (e_var (i := 3)) (a_cons (e_var (i := 4)) (a_cons (e_var (i := 5)) a_nil)))) a_nil)))) a_nil))) a_nil))))
      (ss_cons (s_expr (e_append (e_var (i := 6)) (a_cons (e_tup (a_cons (e_tup (a_cons e_str (a_cons (e_var (i := 9)) (a_cons (e_var (i := 1)) a_nil)))) (a_cons (e_add (e_add (e_call D_x_law_but hr (by rfl) (a_cons (e_var (i := 0)) (a_cons (e_lst (a_cons (e_var (i := 3)) (a_cons (e_var (i := 4)) (a_cons (e_var (i := 5)) a_nil)))) a_nil))) (e_lst (a_cons (e_var (i := 4)) a_nil))) (e_call D_x_law_but hr (by rfl) (a_cons (e_var (i := 1)) (a_cons (e_lst (a_cons (e_var (i := 3)) (a_cons (e_var (i := 5)) a_nil))) a_nil)))) a_nil))) a_nil)))
      (ss_cons (s_set (i := 10) hN (e_tup (a_cons (e_tup (a_cons (e_var (i := 3)) (a_cons (e_tup (a_cons (e_var (i := 4)) (a_cons (e_var (i := 5)) a_nil))) (a_cons (e_var (i := 0)) a_nil)))) (a_cons (e_tup (a_cons (e_var (i := 4)) (a_cons (e_tup a_nil) (a_cons (e_var (i := 1)) a_nil)))) a_nil))))
      (ss_cons (s_expr (e_append (e_var (i := 6)) (a_cons (e_tup (a_cons (e_tup (a_cons e_str (a_cons (e_var (i := 5)) (a_cons (e_var (i := 10)) a_nil)))) (a_cons (e_add (e_add (e_lst (a_cons (e_var (i := 5)) a_nil)) (e_call D_x_law_but hr (by rfl) (a_cons (e_var (i := 0)) (a_cons (e_lst (a_cons (e_var (i := 4)) (a_cons (e_var (i := 5)) a_nil))) a_nil)))) (e_call D_free_names hr (by rfl) (a_cons (e_var (i := 1)) a_nil))) a_nil))) a_nil)))
      (ss_cons (s_for (i_seq (e_var (i := 6))) (g_tup rfl (gs_cons (g_name (i := 11) hN) (gs_cons (g_name (i := 12) hN) gs_nil))) (ss_one (s_if (w_t (w_and (t_truth (e_call D_is_term hr (by rfl) (a_cons (e_var (i := 11)) a_nil))) (w_and1 (t_ne hr.units (e_call D_free_names hr (by rfl) (a_cons (e_var (i := 11)) a_nil)) (e_sortSet (by rfl) (Z _ (by decide)) (by rfl) (Z _ (by decide)) (e_var (i := 12))))))) (ss_one (s_ret e_bl)) ss_nil)))
      (ss_one (s_ret e_bl))))))))))
theorem es_law {k : Nat} {f : Addr} {C_x_law_feed : Con} {C_x_law_names : Con} {C_x_law_term : Con} {C_x_law_take : Con} {C_x_law_pick : Con} {C_x_law_around_right : Con} {C_x_law_called : Con} {C_free_names : Con} {C_is_term : Con} {C_is_program : Con} (Z : NoG mg) (D_x_law_feed : Dn P w K mg base Tb "_law_feed" ["script", "k"] k C_x_law_feed) (D_x_law_names : Dn P w K mg base Tb "_law_names" ["feed"] k C_x_law_names) (D_x_law_term : Dn P w K mg base Tb "_law_term" ["feed", "names", "box", "deep"] k C_x_law_term) (D_x_law_take : Dn P w K mg base Tb "_law_take" ["feed", "many"] k C_x_law_take) (D_x_law_pick : Dn P w K mg base Tb "_law_pick" ["feed", "some"] k C_x_law_pick) (D_x_law_around_right : Dn P w K mg base Tb "_law_around_right" ["one", "other", "names"] k C_x_law_around_right) (D_x_law_called : Dn P w K mg base Tb "_law_called" ["term", "table"] k C_x_law_called) (D_free_names : Dn P w K mg base Tb "free_names" ["term"] k C_free_names) (D_is_term : Dn P w K mg base Tb "is_term" ["thing"] k C_is_term) (D_is_program : Dn P w K mg base Tb "is_program" ["thing"] k C_is_program) (cdv : Value) (A : Around) (outer : List Env) (s : Shared) (H : Hp) (E : XK) (hr : Room k (A.deeper (envOfC "law" (defScope s_law) s.heap.objs.size f cdv))) :
    ESs (cxOf CX0 P w K mg base N_law "law" (defScope s_law) f cdv A outer s H E).nox Tb (defBody s_law) (m_law C_x_law_feed C_x_law_names C_x_law_term C_x_law_take C_x_law_pick C_x_law_around_right C_x_law_called C_free_names C_is_term C_is_program) := by
  have hN := sc_law.nd
  exact (ss_cons (s_for (i_range1 (by rfl) (Z _ (by decide)) (a_cons (e_max (by rfl) (Z _ (by decide)) (a_cons e_int (a_cons (e_min (by rfl) (Z _ (by decide)) (a_cons e_int (a_cons (e_len (by rfl) (Z _ (by decide)) (a_cons (e_var (i := 0)) a_nil)) a_nil))) a_nil))) a_nil)) (g_name (i := 1) hN) (ss_cons (s_set (i := 2) hN (e_call D_x_law_feed hr (by rfl) (a_cons (e_var (i := 0)) (a_cons (e_var (i := 1)) a_nil))))
      (ss_cons (s_set (i := 3) hN (e_call D_x_law_names hr (by rfl) (a_cons (e_var (i := 2)) a_nil)))
      (ss_cons (s_set (i := 4) hN (e_sortSet (by rfl) (Z _ (by decide)) (by rfl) (Z _ (by decide)) (e_var (i := 3))))
      (ss_cons (s_set (i := 5) hN (e_call D_x_law_term hr (by rfl) (a_cons (e_var (i := 2)) (a_cons (e_var (i := 4)) (a_cons (e_lst (a_cons (e_call D_x_law_pick hr (by rfl) (a_cons (e_var (i := 2)) (a_cons (e_lst (a_cons e_int (a_cons e_int (a_cons e_int a_nil)))) a_nil))) a_nil)) (a_cons (e_add e_int (e_call D_x_law_take hr (by rfl) (a_cons (e_var (i := 2)) (a_cons e_int a_nil)))) a_nil))))))
      (ss_cons (s_set (i := 6) hN (e_call D_x_law_term hr (by rfl) (a_cons (e_var (i := 2)) (a_cons (e_var (i := 4)) (a_cons (e_lst (a_cons (e_call D_x_law_pick hr (by rfl) (a_cons (e_var (i := 2)) (a_cons (e_lst (a_cons e_int (a_cons e_int (a_cons e_int a_nil)))) a_nil))) a_nil)) (a_cons (e_add e_int (e_call D_x_law_take hr (by rfl) (a_cons (e_var (i := 2)) (a_cons e_int a_nil)))) a_nil))))))
      (ss_cons (s_if (w_t (w_and (t_gt (e_len (by rfl) (Z _ (by decide)) (a_cons (e_var (i := 4)) a_nil)) e_int) (w_and1 (t_not (t_truth (e_call D_x_law_around_right hr (by rfl) (a_cons (e_var (i := 5)) (a_cons (e_var (i := 6)) (a_cons (e_slice (e_var (i := 4)) o_none (o_some e_int)) a_nil))))))))) (ss_one (s_ret e_bl)) ss_nil)
      (ss_cons (s_setLc (i := 7) (own := [("j", 15)]) hN (i_range1 (by rfl) (Z _ (by decide)) (a_cons e_int a_nil)) (blkOk_by (N := N_law) (sc := defScope s_law) (by decide +kernel)) (gw_name (i := 15) hN) f_nil (fun _ _ _ _ _ => (e_add (e_add e_str (e_ix (hu_of hr) e_str (e_var (i := 15)))) (e_mul e_str (e_call D_x_law_take hr (by rfl) (a_cons (e_var (i := 2)) (a_cons e_int a_nil)))))) (sw_true rfl rfl rfl (by decide +kernel)))
      (ss_cons (s_set (i := 8) hN (e_call D_x_law_take hr (by rfl) (a_cons (e_var (i := 2)) (a_cons e_int a_nil))))
      (ss_cons (s_set (i := 9) hN (e_dictZip hr (by rfl) (Z _ (by decide)) (by rfl) (Z _ (by decide)) (e_var (i := 4)) (e_add (e_slice (e_var (i := 7)) (o_some (e_var (i := 8))) o_none) (e_slice (e_var (i := 7)) o_none (o_some (e_var (i := 8)))))))
      (ss_cons (s_set (i := 10) hN (e_call D_x_law_called hr (by rfl) (a_cons (e_var (i := 5)) (a_cons (e_var (i := 9)) a_nil))))
      (ss_cons (s_if (w_t (w_or (t_ne hr.units (e_call D_free_names hr (by rfl) (a_cons (e_var (i := 10)) a_nil)) (e_sortL (by rfl) (Z _ (by decide)) (a_cons (e_lc (own := [("name", 11)]) hN (i_seq (e_call D_free_names hr (by rfl) (a_cons (e_var (i := 5)) a_nil))) (blkOk_by (N := N_law) (sc := defScope s_law) (by decide +kernel)) (gw_name (i := 11) hN) f_nil (fun _ _ _ _ _ => (e_ix (hu_of hr) (e_var (i := 9)) (e_var (i := 11))))) a_nil))) (w_or1 (t_not (t_truth (e_call D_is_term hr (by rfl) (a_cons (e_var (i := 10)) a_nil))))))) (ss_one (s_ret e_bl)) ss_nil)
      (ss_cons (s_if (t_ne hr.units (e_call D_is_program hr (by rfl) (a_cons (e_var (i := 10)) a_nil)) (e_call D_is_program hr (by rfl) (a_cons (e_var (i := 5)) a_nil))) (ss_one (s_ret e_bl)) ss_nil)
      (ss_cons (s_set (i := 11) hN (e_call D_x_law_pick hr (by rfl) (a_cons (e_var (i := 2)) (a_cons (e_var (i := 4)) a_nil))))
      (ss_cons (s_set (i := 12) hN (e_call D_x_law_called hr (by rfl) (a_cons (e_var (i := 5)) (a_cons (e_dictP (by rfl) (Z _ (by decide)) (a_cons (e_add (e_lc (own := [("word", 16)]) hN (i_seq (e_var (i := 4))) (blkOk_by (N := N_law) (sc := defScope s_law) (by decide +kernel)) (gw_name (i := 16) hN) f_nil (fun _ _ _ _ _ => (e_tup (a_cons (e_var (i := 16)) (a_cons (e_var (i := 16)) a_nil))))) (e_lst (a_cons (e_tup (a_cons (e_var (i := 11)) (a_cons e_str a_nil))) a_nil))) a_nil)) a_nil))))
      (ss_cons (s_if (t_ne hr.units (e_call D_free_names hr (by rfl) (a_cons (e_tup (a_cons e_str (a_cons (e_var (i := 11)) (a_cons (e_var (i := 6)) (a_cons (e_var (i := 5)) a_nil))))) a_nil)) (e_call D_free_names hr (by rfl) (a_cons (e_tup (a_cons e_str (a_cons e_str (a_cons (e_var (i := 6)) (a_cons (e_var (i := 12)) a_nil))))) a_nil))) (ss_one (s_ret e_bl)) ss_nil)
      (ss_cons (s_set (i := 13) hN (e_var (i := 5)))
      (ss_cons (s_for (i_seq (e_call D_free_names hr (by rfl) (a_cons (e_var (i := 5)) a_nil))) (g_name (i := 14) hN) (ss_one (s_set (i := 13) hN (e_call D_x_law_pick hr (by rfl) (a_cons (e_var (i := 2)) (a_cons (e_lst (a_cons (e_tup (a_cons e_str (a_cons (e_var (i := 14)) (a_cons (e_tup (a_cons e_str (a_cons e_int a_nil))) (a_cons (e_var (i := 13)) a_nil))))) (a_cons (e_tup (a_cons e_str (a_cons (e_var (i := 14)) (a_cons (e_var (i := 13)) a_nil)))) a_nil))) a_nil))))))
      (ss_one (s_if (t_isnot (e_call D_is_program hr (by rfl) (a_cons (e_var (i := 13)) a_nil)) e_bl) (ss_one (s_ret e_bl)) ss_nil))))))))))))))))))))
      (ss_one (s_ret e_bl)))
end
end D06

set_option Elab.async false
set_option linter.all false
set_option maxRecDepth 100000
set_option maxHeartbeats 0
namespace E06
open PySem PySem.Spec PyProof.Rows L2 Ow Ev D06 EvT Ev06 Ev05 OwT
abbrev dd (i : Nat) (x : Str) : He.DefD := ⟨(x, none), x, x, defArgs (topS i), defBody (topS i), defScope (topS i), [], []⟩
def fn : List He.DefD := [dd 8 "is_name", dd 9 "_is_tuple", dd 10 "_are_names", dd 11 "_are_unlike", dd 12 "_is_num", dd 13 "_is_asking", dd 14 "_is_fun", dd 15 "_is_of_two_names", dd 16 "_is_put_by", dd 17 "_is_pair", dd 18 "_is_letall", dd 19 "_is_made", dd 20 "_is_branch", dd 21 "_is_by", dd 23 "_is_shaped", dd 24 "named", dd 25 "within", dd 26 "is_term", dd 27 "free_names", dd 28 "is_program", dd 30 "_law_feed", dd 31 "_law_take", dd 32 "_law_pick", dd 33 "_law_names", dd 34 "_law_few", dd 35 "_law_made", dd 36 "_law_leaf", dd 37 "_law_worth", dd 38 "_law_term", dd 39 "_law_called", dd 40 "_law_but", dd 41 "_law_around_right", dd 42 "law"]
def fa : List He.Fa := [.glo "is_name", .glo "_is_tuple", .glo "_are_names", .glo "_are_unlike", .glo "_is_num", .glo "_is_asking", .glo "_is_fun", .glo "_is_of_two_names", .glo "_is_put_by", .glo "_is_pair", .glo "_is_letall", .glo "_is_made", .glo "_is_branch", .glo "_is_by", .glo "_is_shaped", .glo "named", .glo "within", .glo "is_term", .glo "free_names", .glo "is_program", .glo "_law_feed", .glo "_law_take", .glo "_law_pick", .glo "_law_names", .glo "_law_few", .glo "_law_made", .glo "_law_leaf", .glo "_law_worth", .glo "_law_term", .glo "_law_called", .glo "_law_but", .glo "_law_around_right", .glo "law", .glo "SORTS", .free "len", .free "range", .free "max", .free "min", .free "abs", .free "isinstance", .free "int", .free "str", .free "bool", .free "tuple", .free "list", .free "dict", .free "all", .free "any", .free "sorted", .free "set", .free "reversed", .free "enumerate", .free "zip", .free "repr", .free "sum", .int "MOST_LETTERS" (8), .int "MOST_PIECES" (300), .int "MOST_WITHIN" (60), .int "MOST_BESIDE" (6), .int "MOST_PARTS" (3), .int "LEAST_NUMBER" (-1000000000000000000), .int "MOST_NUMBER" (1000000000000000000)]
def tabs : List Str := ["is_name", "_are_names", "_is_letall", "_is_by"]
def kv_SORTS : List (Str × Str) := [("num", "_is_num"), ("name", "_is_asking"), ("fun", "_is_fun"), ("call", "_is_of_two_names"), ("let", "_is_put_by"), ("now", "_is_put_by"), ("letall", "_is_letall"), ("made", "_is_made"), ("by", "_is_by"), ("sum", "_is_of_two_names"), ("minus", "_is_of_two_names"), ("less", "_is_of_two_names"), ("same", "_is_of_two_names")]
def ts : List He.Tab := [(fun K => He.ga K "SORTS", kv_SORTS.map (·.1))]
def hd : Hd := ⟨2, fa, fn, ts, fun K => tabs.all (tabOk K) && (He.valsB K (He.ga K "SORTS") (kv_SORTS.map fun q => (q.1, He.Dv.glo q.2)) && (EvT.Sorts.ok (⟨He.ga K "_is_num", He.ga K "_is_asking", He.ga K "_is_fun", He.ga K "_is_of_two_names", He.ga K "_is_put_by", He.ga K "_is_letall", He.ga K "_is_made", He.ga K "_is_by"⟩ : EvT.Sorts)))⟩
abbrev R : PySem.W.OpenRow := PySem.W.OpenLaw.row PySem.Challenge.rw_owedonce_k06_whole_free_names
def qv : Program := PySem.W.view R.prog [8, 10, 18, 21, 42]
def loose0 : List Str := ["MOST_LETTERS", "MOST_PIECES", "MOST_WITHIN", "MOST_BESIDE", "MOST_PARTS", "LEAST_NUMBER", "MOST_NUMBER", "_is_tuple", "_are_unlike", "_is_num", "_is_asking", "_is_fun", "_is_of_two_names", "_is_put_by", "_is_pair", "_is_made", "_is_branch", "SORTS", "_is_shaped", "named", "within", "is_term", "free_names", "is_program", "_law_feed"]
def loose1 : List Str := ["_law_take", "_law_pick", "_law_names", "_law_few", "_law_made", "_law_leaf", "_law_worth", "_law_term", "_law_called", "_law_but", "_law_around_right"]
def loose : List Str := loose0 ++ loose1
theorem facts {P : Program} {w : World} {K : PySem.W.Frag} {h : Heap} {mg : Str → Option Value} {fL : Addr} (X : K.In h) (c : hd.says w K) (G : h.Ns mainGlobals mg) (hfa : mg ("law" : Str) = some (.ref fL)) :
    ∃ fd : FuncData, (∀ (s : Shared) (u : Value), BindsTo s fd ⟨[u], []⟩ [("script", u)]) ∧ ∀ base : Heap, K.In base → base.Ns mainGlobals mg → (∀ x ∈ tabs, GxR.TabB base mg (tabAt K x).1 (tabAt K x).2) → FnOk P w K mg base CX0 (80 + 1) fL fd ["script"] (spOf K (tabs.map fun x => (tabAt K x).2) LawC) := by
  obtain ⟨fd_is_name, F_is_name⟩ := c.def_ 0 (e := dd 8 "is_name") rfl
  have F_is_name : FnP K "is_name" s_is_name (He.ga K "is_name") fd_is_name := F_is_name
  have g_is_name : mg "is_name" = some (.ref (He.ga K "is_name")) := He.glo_ok X G (c.fact 0 (f := .glo "is_name") rfl)
  have b_is_name := FunD.bindsN (ps := ["thing"]) F_is_name fun _ _ _ _ _ _ us hl => match us, hl with | [_], _ => rfl
  obtain ⟨fd_x_is_tuple, F_x_is_tuple⟩ := c.def_ 1 (e := dd 9 "_is_tuple") rfl
  have F_x_is_tuple : FnP K "_is_tuple" s_x_is_tuple (He.ga K "_is_tuple") fd_x_is_tuple := F_x_is_tuple
  have g_x_is_tuple : mg "_is_tuple" = some (.ref (He.ga K "_is_tuple")) := He.glo_ok X G (c.fact 1 (f := .glo "_is_tuple") rfl)
  have b_x_is_tuple := FunD.bindsN (ps := ["thing", "least", "most"]) F_x_is_tuple fun _ _ _ _ _ _ us hl => match us, hl with | [_, _, _], _ => rfl
  obtain ⟨fd_x_are_names, F_x_are_names⟩ := c.def_ 2 (e := dd 10 "_are_names") rfl
  have F_x_are_names : FnP K "_are_names" s_x_are_names (He.ga K "_are_names") fd_x_are_names := F_x_are_names
  have g_x_are_names : mg "_are_names" = some (.ref (He.ga K "_are_names")) := He.glo_ok X G (c.fact 2 (f := .glo "_are_names") rfl)
  have b_x_are_names := FunD.bindsN (ps := ["thing"]) F_x_are_names fun _ _ _ _ _ _ us hl => match us, hl with | [_], _ => rfl
  obtain ⟨fd_x_are_unlike, F_x_are_unlike⟩ := c.def_ 3 (e := dd 11 "_are_unlike") rfl
  have F_x_are_unlike : FnP K "_are_unlike" s_x_are_unlike (He.ga K "_are_unlike") fd_x_are_unlike := F_x_are_unlike
  have g_x_are_unlike : mg "_are_unlike" = some (.ref (He.ga K "_are_unlike")) := He.glo_ok X G (c.fact 3 (f := .glo "_are_unlike") rfl)
  have b_x_are_unlike := FunD.bindsN (ps := ["names"]) F_x_are_unlike fun _ _ _ _ _ _ us hl => match us, hl with | [_], _ => rfl
  obtain ⟨fd_x_is_num, F_x_is_num⟩ := c.def_ 4 (e := dd 12 "_is_num") rfl
  have F_x_is_num : FnP K "_is_num" s_x_is_num (He.ga K "_is_num") fd_x_is_num := F_x_is_num
  have g_x_is_num : mg "_is_num" = some (.ref (He.ga K "_is_num")) := He.glo_ok X G (c.fact 4 (f := .glo "_is_num") rfl)
  have b_x_is_num := FunD.bindsN (ps := ["term"]) F_x_is_num fun _ _ _ _ _ _ us hl => match us, hl with | [_], _ => rfl
  obtain ⟨fd_x_is_asking, F_x_is_asking⟩ := c.def_ 5 (e := dd 13 "_is_asking") rfl
  have F_x_is_asking : FnP K "_is_asking" s_x_is_asking (He.ga K "_is_asking") fd_x_is_asking := F_x_is_asking
  have g_x_is_asking : mg "_is_asking" = some (.ref (He.ga K "_is_asking")) := He.glo_ok X G (c.fact 5 (f := .glo "_is_asking") rfl)
  have b_x_is_asking := FunD.bindsN (ps := ["term"]) F_x_is_asking fun _ _ _ _ _ _ us hl => match us, hl with | [_], _ => rfl
  obtain ⟨fd_x_is_fun, F_x_is_fun⟩ := c.def_ 6 (e := dd 14 "_is_fun") rfl
  have F_x_is_fun : FnP K "_is_fun" s_x_is_fun (He.ga K "_is_fun") fd_x_is_fun := F_x_is_fun
  have g_x_is_fun : mg "_is_fun" = some (.ref (He.ga K "_is_fun")) := He.glo_ok X G (c.fact 6 (f := .glo "_is_fun") rfl)
  have b_x_is_fun := FunD.bindsN (ps := ["term"]) F_x_is_fun fun _ _ _ _ _ _ us hl => match us, hl with | [_], _ => rfl
  obtain ⟨fd_x_is_of_two_names, F_x_is_of_two_names⟩ := c.def_ 7 (e := dd 15 "_is_of_two_names") rfl
  have F_x_is_of_two_names : FnP K "_is_of_two_names" s_x_is_of_two_names (He.ga K "_is_of_two_names") fd_x_is_of_two_names := F_x_is_of_two_names
  have g_x_is_of_two_names : mg "_is_of_two_names" = some (.ref (He.ga K "_is_of_two_names")) := He.glo_ok X G (c.fact 7 (f := .glo "_is_of_two_names") rfl)
  have b_x_is_of_two_names := FunD.bindsN (ps := ["term"]) F_x_is_of_two_names fun _ _ _ _ _ _ us hl => match us, hl with | [_], _ => rfl
  obtain ⟨fd_x_is_put_by, F_x_is_put_by⟩ := c.def_ 8 (e := dd 16 "_is_put_by") rfl
  have F_x_is_put_by : FnP K "_is_put_by" s_x_is_put_by (He.ga K "_is_put_by") fd_x_is_put_by := F_x_is_put_by
  have g_x_is_put_by : mg "_is_put_by" = some (.ref (He.ga K "_is_put_by")) := He.glo_ok X G (c.fact 8 (f := .glo "_is_put_by") rfl)
  have b_x_is_put_by := FunD.bindsN (ps := ["term"]) F_x_is_put_by fun _ _ _ _ _ _ us hl => match us, hl with | [_], _ => rfl
  obtain ⟨fd_x_is_pair, F_x_is_pair⟩ := c.def_ 9 (e := dd 17 "_is_pair") rfl
  have F_x_is_pair : FnP K "_is_pair" s_x_is_pair (He.ga K "_is_pair") fd_x_is_pair := F_x_is_pair
  have g_x_is_pair : mg "_is_pair" = some (.ref (He.ga K "_is_pair")) := He.glo_ok X G (c.fact 9 (f := .glo "_is_pair") rfl)
  have b_x_is_pair := FunD.bindsN (ps := ["thing"]) F_x_is_pair fun _ _ _ _ _ _ us hl => match us, hl with | [_], _ => rfl
  obtain ⟨fd_x_is_letall, F_x_is_letall⟩ := c.def_ 10 (e := dd 18 "_is_letall") rfl
  have F_x_is_letall : FnP K "_is_letall" s_x_is_letall (He.ga K "_is_letall") fd_x_is_letall := F_x_is_letall
  have g_x_is_letall : mg "_is_letall" = some (.ref (He.ga K "_is_letall")) := He.glo_ok X G (c.fact 10 (f := .glo "_is_letall") rfl)
  have b_x_is_letall := FunD.bindsN (ps := ["term"]) F_x_is_letall fun _ _ _ _ _ _ us hl => match us, hl with | [_], _ => rfl
  obtain ⟨fd_x_is_made, F_x_is_made⟩ := c.def_ 11 (e := dd 19 "_is_made") rfl
  have F_x_is_made : FnP K "_is_made" s_x_is_made (He.ga K "_is_made") fd_x_is_made := F_x_is_made
  have g_x_is_made : mg "_is_made" = some (.ref (He.ga K "_is_made")) := He.glo_ok X G (c.fact 11 (f := .glo "_is_made") rfl)
  have b_x_is_made := FunD.bindsN (ps := ["term"]) F_x_is_made fun _ _ _ _ _ _ us hl => match us, hl with | [_], _ => rfl
  obtain ⟨fd_x_is_branch, F_x_is_branch⟩ := c.def_ 12 (e := dd 20 "_is_branch") rfl
  have F_x_is_branch : FnP K "_is_branch" s_x_is_branch (He.ga K "_is_branch") fd_x_is_branch := F_x_is_branch
  have g_x_is_branch : mg "_is_branch" = some (.ref (He.ga K "_is_branch")) := He.glo_ok X G (c.fact 12 (f := .glo "_is_branch") rfl)
  have b_x_is_branch := FunD.bindsN (ps := ["thing"]) F_x_is_branch fun _ _ _ _ _ _ us hl => match us, hl with | [_], _ => rfl
  obtain ⟨fd_x_is_by, F_x_is_by⟩ := c.def_ 13 (e := dd 21 "_is_by") rfl
  have F_x_is_by : FnP K "_is_by" s_x_is_by (He.ga K "_is_by") fd_x_is_by := F_x_is_by
  have g_x_is_by : mg "_is_by" = some (.ref (He.ga K "_is_by")) := He.glo_ok X G (c.fact 13 (f := .glo "_is_by") rfl)
  have b_x_is_by := FunD.bindsN (ps := ["term"]) F_x_is_by fun _ _ _ _ _ _ us hl => match us, hl with | [_], _ => rfl
  obtain ⟨fd_x_is_shaped, F_x_is_shaped⟩ := c.def_ 14 (e := dd 23 "_is_shaped") rfl
  have F_x_is_shaped : FnP K "_is_shaped" s_x_is_shaped (He.ga K "_is_shaped") fd_x_is_shaped := F_x_is_shaped
  have g_x_is_shaped : mg "_is_shaped" = some (.ref (He.ga K "_is_shaped")) := He.glo_ok X G (c.fact 14 (f := .glo "_is_shaped") rfl)
  have b_x_is_shaped := FunD.bindsN (ps := ["thing"]) F_x_is_shaped fun _ _ _ _ _ _ us hl => match us, hl with | [_], _ => rfl
  obtain ⟨fd_named, F_named⟩ := c.def_ 15 (e := dd 24 "named") rfl
  have F_named : FnP K "named" s_named (He.ga K "named") fd_named := F_named
  have g_named : mg "named" = some (.ref (He.ga K "named")) := He.glo_ok X G (c.fact 15 (f := .glo "named") rfl)
  have b_named := FunD.bindsN (ps := ["term"]) F_named fun _ _ _ _ _ _ us hl => match us, hl with | [_], _ => rfl
  obtain ⟨fd_within, F_within⟩ := c.def_ 16 (e := dd 25 "within") rfl
  have F_within : FnP K "within" s_within (He.ga K "within") fd_within := F_within
  have g_within : mg "within" = some (.ref (He.ga K "within")) := He.glo_ok X G (c.fact 16 (f := .glo "within") rfl)
  have b_within := FunD.bindsN (ps := ["term"]) F_within fun _ _ _ _ _ _ us hl => match us, hl with | [_], _ => rfl
  obtain ⟨fd_is_term, F_is_term⟩ := c.def_ 17 (e := dd 26 "is_term") rfl
  have F_is_term : FnP K "is_term" s_is_term (He.ga K "is_term") fd_is_term := F_is_term
  have g_is_term : mg "is_term" = some (.ref (He.ga K "is_term")) := He.glo_ok X G (c.fact 17 (f := .glo "is_term") rfl)
  have b_is_term := FunD.bindsN (ps := ["thing"]) F_is_term fun _ _ _ _ _ _ us hl => match us, hl with | [_], _ => rfl
  obtain ⟨fd_free_names, F_free_names⟩ := c.def_ 18 (e := dd 27 "free_names") rfl
  have F_free_names : FnP K "free_names" s_free_names (He.ga K "free_names") fd_free_names := F_free_names
  have g_free_names : mg "free_names" = some (.ref (He.ga K "free_names")) := He.glo_ok X G (c.fact 18 (f := .glo "free_names") rfl)
  have b_free_names := FunD.bindsN (ps := ["term"]) F_free_names fun _ _ _ _ _ _ us hl => match us, hl with | [_], _ => rfl
  obtain ⟨fd_is_program, F_is_program⟩ := c.def_ 19 (e := dd 28 "is_program") rfl
  have F_is_program : FnP K "is_program" s_is_program (He.ga K "is_program") fd_is_program := F_is_program
  have g_is_program : mg "is_program" = some (.ref (He.ga K "is_program")) := He.glo_ok X G (c.fact 19 (f := .glo "is_program") rfl)
  have b_is_program := FunD.bindsN (ps := ["thing"]) F_is_program fun _ _ _ _ _ _ us hl => match us, hl with | [_], _ => rfl
  obtain ⟨fd_x_law_feed, F_x_law_feed⟩ := c.def_ 20 (e := dd 30 "_law_feed") rfl
  have F_x_law_feed : FnP K "_law_feed" s_x_law_feed (He.ga K "_law_feed") fd_x_law_feed := F_x_law_feed
  have g_x_law_feed : mg "_law_feed" = some (.ref (He.ga K "_law_feed")) := He.glo_ok X G (c.fact 20 (f := .glo "_law_feed") rfl)
  have b_x_law_feed := FunD.bindsN (ps := ["script", "k"]) F_x_law_feed fun _ _ _ _ _ _ us hl => match us, hl with | [_, _], _ => rfl
  obtain ⟨fd_x_law_take, F_x_law_take⟩ := c.def_ 21 (e := dd 31 "_law_take") rfl
  have F_x_law_take : FnP K "_law_take" s_x_law_take (He.ga K "_law_take") fd_x_law_take := F_x_law_take
  have g_x_law_take : mg "_law_take" = some (.ref (He.ga K "_law_take")) := He.glo_ok X G (c.fact 21 (f := .glo "_law_take") rfl)
  have b_x_law_take := FunD.bindsN (ps := ["feed", "many"]) F_x_law_take fun _ _ _ _ _ _ us hl => match us, hl with | [_, _], _ => rfl
  obtain ⟨fd_x_law_pick, F_x_law_pick⟩ := c.def_ 22 (e := dd 32 "_law_pick") rfl
  have F_x_law_pick : FnP K "_law_pick" s_x_law_pick (He.ga K "_law_pick") fd_x_law_pick := F_x_law_pick
  have g_x_law_pick : mg "_law_pick" = some (.ref (He.ga K "_law_pick")) := He.glo_ok X G (c.fact 22 (f := .glo "_law_pick") rfl)
  have b_x_law_pick := FunD.bindsN (ps := ["feed", "some"]) F_x_law_pick fun _ _ _ _ _ _ us hl => match us, hl with | [_, _], _ => rfl
  obtain ⟨fd_x_law_names, F_x_law_names⟩ := c.def_ 23 (e := dd 33 "_law_names") rfl
  have F_x_law_names : FnP K "_law_names" s_x_law_names (He.ga K "_law_names") fd_x_law_names := F_x_law_names
  have g_x_law_names : mg "_law_names" = some (.ref (He.ga K "_law_names")) := He.glo_ok X G (c.fact 23 (f := .glo "_law_names") rfl)
  have b_x_law_names := FunD.bindsN (ps := ["feed"]) F_x_law_names fun _ _ _ _ _ _ us hl => match us, hl with | [_], _ => rfl
  obtain ⟨fd_x_law_few, F_x_law_few⟩ := c.def_ 24 (e := dd 34 "_law_few") rfl
  have F_x_law_few : FnP K "_law_few" s_x_law_few (He.ga K "_law_few") fd_x_law_few := F_x_law_few
  have g_x_law_few : mg "_law_few" = some (.ref (He.ga K "_law_few")) := He.glo_ok X G (c.fact 24 (f := .glo "_law_few") rfl)
  have b_x_law_few := FunD.bindsN (ps := ["feed", "names", "most"]) F_x_law_few fun _ _ _ _ _ _ us hl => match us, hl with | [_, _, _], _ => rfl
  obtain ⟨fd_x_law_made, F_x_law_made⟩ := c.def_ 25 (e := dd 35 "_law_made") rfl
  have F_x_law_made : FnP K "_law_made" s_x_law_made (He.ga K "_law_made") fd_x_law_made := F_x_law_made
  have g_x_law_made : mg "_law_made" = some (.ref (He.ga K "_law_made")) := He.glo_ok X G (c.fact 25 (f := .glo "_law_made") rfl)
  have b_x_law_made := FunD.bindsN (ps := ["feed", "names"]) F_x_law_made fun _ _ _ _ _ _ us hl => match us, hl with | [_, _], _ => rfl
  obtain ⟨fd_x_law_leaf, F_x_law_leaf⟩ := c.def_ 26 (e := dd 36 "_law_leaf") rfl
  have F_x_law_leaf : FnP K "_law_leaf" s_x_law_leaf (He.ga K "_law_leaf") fd_x_law_leaf := F_x_law_leaf
  have g_x_law_leaf : mg "_law_leaf" = some (.ref (He.ga K "_law_leaf")) := He.glo_ok X G (c.fact 26 (f := .glo "_law_leaf") rfl)
  have b_x_law_leaf := FunD.bindsN (ps := ["feed", "names"]) F_x_law_leaf fun _ _ _ _ _ _ us hl => match us, hl with | [_, _], _ => rfl
  obtain ⟨fd_x_law_worth, F_x_law_worth⟩ := c.def_ 27 (e := dd 37 "_law_worth") rfl
  have F_x_law_worth : FnP K "_law_worth" s_x_law_worth (He.ga K "_law_worth") fd_x_law_worth := F_x_law_worth
  have g_x_law_worth : mg "_law_worth" = some (.ref (He.ga K "_law_worth")) := He.glo_ok X G (c.fact 27 (f := .glo "_law_worth") rfl)
  have b_x_law_worth := FunD.bindsN (ps := ["feed", "names", "box", "deep"]) F_x_law_worth fun _ _ _ _ _ _ us hl => match us, hl with | [_, _, _, _], _ => rfl
  obtain ⟨fd_x_law_term, F_x_law_term⟩ := c.def_ 28 (e := dd 38 "_law_term") rfl
  have F_x_law_term : FnP K "_law_term" s_x_law_term (He.ga K "_law_term") fd_x_law_term := F_x_law_term
  have g_x_law_term : mg "_law_term" = some (.ref (He.ga K "_law_term")) := He.glo_ok X G (c.fact 28 (f := .glo "_law_term") rfl)
  have b_x_law_term := FunD.bindsN (ps := ["feed", "names", "box", "deep"]) F_x_law_term fun _ _ _ _ _ _ us hl => match us, hl with | [_, _, _, _], _ => rfl
  obtain ⟨fd_x_law_called, F_x_law_called⟩ := c.def_ 29 (e := dd 39 "_law_called") rfl
  have F_x_law_called : FnP K "_law_called" s_x_law_called (He.ga K "_law_called") fd_x_law_called := F_x_law_called
  have g_x_law_called : mg "_law_called" = some (.ref (He.ga K "_law_called")) := He.glo_ok X G (c.fact 29 (f := .glo "_law_called") rfl)
  have b_x_law_called := FunD.bindsN (ps := ["term", "table"]) F_x_law_called fun _ _ _ _ _ _ us hl => match us, hl with | [_, _], _ => rfl
  obtain ⟨fd_x_law_but, F_x_law_but⟩ := c.def_ 30 (e := dd 40 "_law_but") rfl
  have F_x_law_but : FnP K "_law_but" s_x_law_but (He.ga K "_law_but") fd_x_law_but := F_x_law_but
  have g_x_law_but : mg "_law_but" = some (.ref (He.ga K "_law_but")) := He.glo_ok X G (c.fact 30 (f := .glo "_law_but") rfl)
  have b_x_law_but := FunD.bindsN (ps := ["term", "names"]) F_x_law_but fun _ _ _ _ _ _ us hl => match us, hl with | [_, _], _ => rfl
  obtain ⟨fd_x_law_around_right, F_x_law_around_right⟩ := c.def_ 31 (e := dd 41 "_law_around_right") rfl
  have F_x_law_around_right : FnP K "_law_around_right" s_x_law_around_right (He.ga K "_law_around_right") fd_x_law_around_right := F_x_law_around_right
  have g_x_law_around_right : mg "_law_around_right" = some (.ref (He.ga K "_law_around_right")) := He.glo_ok X G (c.fact 31 (f := .glo "_law_around_right") rfl)
  have b_x_law_around_right := FunD.bindsN (ps := ["one", "other", "names"]) F_x_law_around_right fun _ _ _ _ _ _ us hl => match us, hl with | [_, _, _], _ => rfl
  obtain ⟨fd_law, F_law⟩ := c.def_ 32 (e := dd 42 "law") rfl
  have eL := hfa.symm.trans (He.glo_ok X G (c.fact 32 (f := .glo "law") rfl))
  cases eL
  have F_law : FnP K "law" s_law (He.ga K "law") fd_law := F_law
  have bL := FunD.bindsA (ps := ["script"]) F_law fun _ _ _ _ _ _ us hl => match us, hl with | [_], _ => rfl
  refine ⟨fd_law, fun s v => bL s [v] rfl, fun base _ _ TBs => ?_⟩
  have Z : NoG mg := by
    intro x hx
    simp only [blts, List.mem_cons, List.not_mem_nil, or_false] at hx
    rcases hx with rfl | rfl | rfl | rfl | rfl | rfl | rfl | rfl | rfl | rfl | rfl | rfl | rfl | rfl | rfl | rfl | rfl | rfl | rfl | rfl | rfl
    · exact He.free_ok X G (c.fact 34 (f := .free "len") rfl)
    · exact He.free_ok X G (c.fact 35 (f := .free "range") rfl)
    · exact He.free_ok X G (c.fact 36 (f := .free "max") rfl)
    · exact He.free_ok X G (c.fact 37 (f := .free "min") rfl)
    · exact He.free_ok X G (c.fact 38 (f := .free "abs") rfl)
    · exact He.free_ok X G (c.fact 39 (f := .free "isinstance") rfl)
    · exact He.free_ok X G (c.fact 40 (f := .free "int") rfl)
    · exact He.free_ok X G (c.fact 41 (f := .free "str") rfl)
    · exact He.free_ok X G (c.fact 42 (f := .free "bool") rfl)
    · exact He.free_ok X G (c.fact 43 (f := .free "tuple") rfl)
    · exact He.free_ok X G (c.fact 44 (f := .free "list") rfl)
    · exact He.free_ok X G (c.fact 45 (f := .free "dict") rfl)
    · exact He.free_ok X G (c.fact 46 (f := .free "all") rfl)
    · exact He.free_ok X G (c.fact 47 (f := .free "any") rfl)
    · exact He.free_ok X G (c.fact 48 (f := .free "sorted") rfl)
    · exact He.free_ok X G (c.fact 49 (f := .free "set") rfl)
    · exact He.free_ok X G (c.fact 50 (f := .free "reversed") rfl)
    · exact He.free_ok X G (c.fact 51 (f := .free "enumerate") rfl)
    · exact He.free_ok X G (c.fact 52 (f := .free "zip") rfl)
    · exact He.free_ok X G (c.fact 53 (f := .free "repr") rfl)
    · exact He.free_ok X G (c.fact 54 (f := .free "sum") rfl)
  have G_MOST_LETTERS : ∃ t, mg "MOST_LETTERS" = some (.int (8) t) := He.int_ok X G (c.fact 55 (f := .int "MOST_LETTERS" (8)) rfl)
  have G_MOST_PIECES : ∃ t, mg "MOST_PIECES" = some (.int (300) t) := He.int_ok X G (c.fact 56 (f := .int "MOST_PIECES" (300)) rfl)
  have G_MOST_WITHIN : ∃ t, mg "MOST_WITHIN" = some (.int (60) t) := He.int_ok X G (c.fact 57 (f := .int "MOST_WITHIN" (60)) rfl)
  have G_MOST_BESIDE : ∃ t, mg "MOST_BESIDE" = some (.int (6) t) := He.int_ok X G (c.fact 58 (f := .int "MOST_BESIDE" (6)) rfl)
  have G_MOST_PARTS : ∃ t, mg "MOST_PARTS" = some (.int (3) t) := He.int_ok X G (c.fact 59 (f := .int "MOST_PARTS" (3)) rfl)
  have G_LEAST_NUMBER : ∃ t, mg "LEAST_NUMBER" = some (.int (-1000000000000000000) t) := He.int_ok X G (c.fact 60 (f := .int "LEAST_NUMBER" (-1000000000000000000)) rfl)
  have G_MOST_NUMBER : ∃ t, mg "MOST_NUMBER" = some (.int (1000000000000000000) t) := He.int_ok X G (c.fact 61 (f := .int "MOST_NUMBER" (1000000000000000000)) rfl)
  have ex := c.x
  have ex : (tabs.all (tabOk K) && (He.valsB K (He.ga K "SORTS") (kv_SORTS.map fun q => (q.1, He.Dv.glo q.2)) && (EvT.Sorts.ok (⟨He.ga K "_is_num", He.ga K "_is_asking", He.ga K "_is_fun", He.ga K "_is_of_two_names", He.ga K "_is_put_by", He.ga K "_is_letall", He.ga K "_is_made", He.ga K "_is_by"⟩ : EvT.Sorts)))) = true := ex
  simp only [Bool.and_eq_true] at ex
  have ex1 := ex.1
  rw [List.all_eq_true] at ex1
  have tm_is_name : ("is_name" : Str) ∈ tabs := by decide
  have ti_is_name := (tabOk_in (ex1 _ tm_is_name)).1
  have TB_is_name := TBs _ tm_is_name
  have hT_is_name : (tabAt K "is_name").2 ∈ tabs.map fun x => (tabAt K x).2 := List.mem_map.mpr ⟨_, tm_is_name, rfl⟩
  have tm_x_are_names : ("_are_names" : Str) ∈ tabs := by decide
  have ti_x_are_names := (tabOk_in (ex1 _ tm_x_are_names)).1
  have TB_x_are_names := TBs _ tm_x_are_names
  have hT_x_are_names : (tabAt K "_are_names").2 ∈ tabs.map fun x => (tabAt K x).2 := List.mem_map.mpr ⟨_, tm_x_are_names, rfl⟩
  have tm_x_is_letall : ("_is_letall" : Str) ∈ tabs := by decide
  have ti_x_is_letall := (tabOk_in (ex1 _ tm_x_is_letall)).1
  have TB_x_is_letall := TBs _ tm_x_is_letall
  have hT_x_is_letall : (tabAt K "_is_letall").2 ∈ tabs.map fun x => (tabAt K x).2 := List.mem_map.mpr ⟨_, tm_x_is_letall, rfl⟩
  have tm_x_is_by : ("_is_by" : Str) ∈ tabs := by decide
  have ti_x_is_by := (tabOk_in (ex1 _ tm_x_is_by)).1
  have TB_x_is_by := TBs _ tm_x_is_by
  have hT_x_is_by : (tabAt K "_is_by").2 ∈ tabs.map fun x => (tabAt K x).2 := List.mem_map.mpr ⟨_, tm_x_is_by, rfl⟩
  have hd_SORTS : He.dicW K (He.ga K "SORTS") = some (He.keysIn w.params (kv_SORTS.map (·.1))) := by
    have e : ts.map (fun t => He.dicW K (t.1 K)) = ts.map fun t => some (He.keysIn w.params t.2) := congrArg (fun z : He.AlT => z.2) c.t
    have e2 := congrArg (fun l => l[0]?) e
    exact Option.some.inj e2
  have K_SORTS := kd_of X G (c.fact 33 (f := .glo "SORTS") rfl) hd_SORTS ex.2.1
  generalize hTb : (tabs.map fun x => (tabAt K x).2) = Tb at *
  have D_is_name : Dn P w K mg base Tb "is_name" ["thing"] (0 + 2) (EvT.NameC) := dz_ofC F_is_name g_is_name ti_is_name (He.eqO_ok (c.fact 0 (f := .glo "is_name") rfl)) b_is_name sc_is_name (fun a ws S h => by first | (obtain ⟨e, _⟩ := h; rw [e]; rfl) | (obtain ⟨e, hl, _⟩ := h; rw [e]; exact hl) | (obtain ⟨_, e, _⟩ := h; rw [e]; rfl) | (have h : ws = _ := h; rw [h]; rfl)) (fun A outer s H E hr => es_is_name Z G_MOST_LETTERS TB_is_name hT_is_name A outer s H E hr) (vd_is_name)
  have D_x_is_tuple : Dn P w K mg base Tb "_is_tuple" ["thing", "least", "most"] (0 + 1) (EvT.TupC) := dz_of F_x_is_tuple g_x_is_tuple b_x_is_tuple sc_x_is_tuple (fun a ws S h => by first | (obtain ⟨e, _⟩ := h; rw [e]; rfl) | (obtain ⟨e, hl, _⟩ := h; rw [e]; exact hl) | (obtain ⟨_, e, _⟩ := h; rw [e]; rfl) | (have h : ws = _ := h; rw [h]; rfl)) (fun cdv A outer s H E hr => es_x_is_tuple Z cdv A outer s H E hr) (vd_x_is_tuple)
  have D_x_are_names : Dn P w K mg base Tb "_are_names" ["thing"] (2 + 2) (EvT.NamesC) := dz_ofC F_x_are_names g_x_are_names ti_x_are_names (He.eqO_ok (c.fact 2 (f := .glo "_are_names") rfl)) b_x_are_names sc_x_are_names (fun a ws S h => by first | (obtain ⟨e, _⟩ := h; rw [e]; rfl) | (obtain ⟨e, hl, _⟩ := h; rw [e]; exact hl) | (obtain ⟨_, e, _⟩ := h; rw [e]; rfl) | (have h : ws = _ := h; rw [h]; rfl)) (fun A outer s H E hr => es_x_are_names Z (D_x_is_tuple.mono (by omega)) (D_is_name.mono (by omega)) G_MOST_PARTS TB_x_are_names hT_x_are_names A outer s H E hr) (vd_x_are_names)
  have D_x_are_unlike : Dn P w K mg base Tb "_are_unlike" ["names"] (0 + 1) (UnlikeC) := dz_of F_x_are_unlike g_x_are_unlike b_x_are_unlike sc_x_are_unlike (fun a ws S h => by first | (obtain ⟨e, _⟩ := h; rw [e]; rfl) | (obtain ⟨e, hl, _⟩ := h; rw [e]; exact hl) | (obtain ⟨_, e, _⟩ := h; rw [e]; rfl) | (have h : ws = _ := h; rw [h]; rfl)) (fun cdv A outer s H E hr => es_x_are_unlike Z cdv A outer s H E hr) (vd_x_are_unlike)
  have D_x_is_num : Dn P w K mg base Tb "_is_num" ["term"] (0 + 1) (TC numB) := dz_of F_x_is_num g_x_is_num b_x_is_num sc_x_is_num (fun a ws S h => by first | (obtain ⟨e, _⟩ := h; rw [e]; rfl) | (obtain ⟨e, hl, _⟩ := h; rw [e]; exact hl) | (obtain ⟨_, e, _⟩ := h; rw [e]; rfl) | (have h : ws = _ := h; rw [h]; rfl)) (fun cdv A outer s H E hr => es_x_is_num Z G_LEAST_NUMBER G_MOST_NUMBER cdv A outer s H E hr) (vd_x_is_num)
  have D_x_is_asking : Dn P w K mg base Tb "_is_asking" ["term"] (2 + 1) (TC askB) := dz_of F_x_is_asking g_x_is_asking b_x_is_asking sc_x_is_asking (fun a ws S h => by first | (obtain ⟨e, _⟩ := h; rw [e]; rfl) | (obtain ⟨e, hl, _⟩ := h; rw [e]; exact hl) | (obtain ⟨_, e, _⟩ := h; rw [e]; rfl) | (have h : ws = _ := h; rw [h]; rfl)) (fun cdv A outer s H E hr => es_x_is_asking Z (D_is_name.mono (by omega)) cdv A outer s H E hr) (vd_x_is_asking)
  have D_x_is_fun : Dn P w K mg base Tb "_is_fun" ["term"] (2 + 1) (TC funB) := dz_of F_x_is_fun g_x_is_fun b_x_is_fun sc_x_is_fun (fun a ws S h => by first | (obtain ⟨e, _⟩ := h; rw [e]; rfl) | (obtain ⟨e, hl, _⟩ := h; rw [e]; exact hl) | (obtain ⟨_, e, _⟩ := h; rw [e]; rfl) | (have h : ws = _ := h; rw [h]; rfl)) (fun cdv A outer s H E hr => es_x_is_fun Z (D_is_name.mono (by omega)) cdv A outer s H E hr) (vd_x_is_fun)
  have D_x_is_of_two_names : Dn P w K mg base Tb "_is_of_two_names" ["term"] (2 + 1) (TC twoB) := dz_of F_x_is_of_two_names g_x_is_of_two_names b_x_is_of_two_names sc_x_is_of_two_names (fun a ws S h => by first | (obtain ⟨e, _⟩ := h; rw [e]; rfl) | (obtain ⟨e, hl, _⟩ := h; rw [e]; exact hl) | (obtain ⟨_, e, _⟩ := h; rw [e]; rfl) | (have h : ws = _ := h; rw [h]; rfl)) (fun cdv A outer s H E hr => es_x_is_of_two_names Z (D_is_name.mono (by omega)) cdv A outer s H E hr) (vd_x_is_of_two_names)
  have D_x_is_put_by : Dn P w K mg base Tb "_is_put_by" ["term"] (2 + 1) (TC putB) := dz_of F_x_is_put_by g_x_is_put_by b_x_is_put_by sc_x_is_put_by (fun a ws S h => by first | (obtain ⟨e, _⟩ := h; rw [e]; rfl) | (obtain ⟨e, hl, _⟩ := h; rw [e]; exact hl) | (obtain ⟨_, e, _⟩ := h; rw [e]; rfl) | (have h : ws = _ := h; rw [h]; rfl)) (fun cdv A outer s H E hr => es_x_is_put_by Z (D_is_name.mono (by omega)) cdv A outer s H E hr) (vd_x_is_put_by)
  have D_x_is_pair : Dn P w K mg base Tb "_is_pair" ["thing"] (2 + 1) (PairC) := dz_of F_x_is_pair g_x_is_pair b_x_is_pair sc_x_is_pair (fun a ws S h => by first | (obtain ⟨e, _⟩ := h; rw [e]; rfl) | (obtain ⟨e, hl, _⟩ := h; rw [e]; exact hl) | (obtain ⟨_, e, _⟩ := h; rw [e]; rfl) | (have h : ws = _ := h; rw [h]; rfl)) (fun cdv A outer s H E hr => es_x_is_pair Z (D_x_is_tuple.mono (by omega)) (D_is_name.mono (by omega)) cdv A outer s H E hr) (vd_x_is_pair)
  have D_x_is_letall : Dn P w K mg base Tb "_is_letall" ["term"] (4 + 2) (TC letallB) := dz_ofC F_x_is_letall g_x_is_letall ti_x_is_letall (He.eqO_ok (c.fact 10 (f := .glo "_is_letall") rfl)) b_x_is_letall sc_x_is_letall (fun a ws S h => by first | (obtain ⟨e, _⟩ := h; rw [e]; rfl) | (obtain ⟨e, hl, _⟩ := h; rw [e]; exact hl) | (obtain ⟨_, e, _⟩ := h; rw [e]; rfl) | (have h : ws = _ := h; rw [h]; rfl)) (fun A outer s H E hr => es_x_is_letall Z (D_x_is_tuple.mono (by omega)) (D_x_is_pair.mono (by omega)) (D_x_are_unlike.mono (by omega)) G_MOST_BESIDE TB_x_is_letall hT_x_is_letall A outer s H E hr) (vd_x_is_letall)
  have D_x_is_made : Dn P w K mg base Tb "_is_made" ["term"] (4 + 1) (TC madeB) := dz_of F_x_is_made g_x_is_made b_x_is_made sc_x_is_made (fun a ws S h => by first | (obtain ⟨e, _⟩ := h; rw [e]; rfl) | (obtain ⟨e, hl, _⟩ := h; rw [e]; exact hl) | (obtain ⟨_, e, _⟩ := h; rw [e]; rfl) | (have h : ws = _ := h; rw [h]; rfl)) (fun cdv A outer s H E hr => es_x_is_made Z (D_is_name.mono (by omega)) (D_x_are_names.mono (by omega)) cdv A outer s H E hr) (vd_x_is_made)
  have D_x_is_branch : Dn P w K mg base Tb "_is_branch" ["thing"] (4 + 1) (BranchC) := dz_of F_x_is_branch g_x_is_branch b_x_is_branch sc_x_is_branch (fun a ws S h => by first | (obtain ⟨e, _⟩ := h; rw [e]; rfl) | (obtain ⟨e, hl, _⟩ := h; rw [e]; exact hl) | (obtain ⟨_, e, _⟩ := h; rw [e]; rfl) | (have h : ws = _ := h; rw [h]; rfl)) (fun cdv A outer s H E hr => es_x_is_branch Z (D_x_is_tuple.mono (by omega)) (D_is_name.mono (by omega)) (D_x_are_names.mono (by omega)) (D_x_are_unlike.mono (by omega)) cdv A outer s H E hr) (vd_x_is_branch)
  have D_x_is_by : Dn P w K mg base Tb "_is_by" ["term"] (5 + 2) (TC byB) := dz_ofC F_x_is_by g_x_is_by ti_x_is_by (He.eqO_ok (c.fact 13 (f := .glo "_is_by") rfl)) b_x_is_by sc_x_is_by (fun a ws S h => by first | (obtain ⟨e, _⟩ := h; rw [e]; rfl) | (obtain ⟨e, hl, _⟩ := h; rw [e]; exact hl) | (obtain ⟨_, e, _⟩ := h; rw [e]; rfl) | (have h : ws = _ := h; rw [h]; rfl)) (fun A outer s H E hr => es_x_is_by Z (D_is_name.mono (by omega)) (D_x_is_tuple.mono (by omega)) (D_x_is_branch.mono (by omega)) (D_x_are_unlike.mono (by omega)) G_MOST_BESIDE TB_x_is_by hT_x_is_by A outer s H E hr) (vd_x_is_by)
  have K_SORTS : KD K w mg "SORTS" (EvT.Sorts.at (⟨He.ga K "_is_num", He.ga K "_is_asking", He.ga K "_is_fun", He.ga K "_is_of_two_names", He.ga K "_is_put_by", He.ga K "_is_letall", He.ga K "_is_made", He.ga K "_is_by"⟩ : EvT.Sorts)) := K_SORTS
  have sok : EvT.Sorts.ok (⟨He.ga K "_is_num", He.ga K "_is_asking", He.ga K "_is_fun", He.ga K "_is_of_two_names", He.ga K "_is_put_by", He.ga K "_is_letall", He.ga K "_is_made", He.ga K "_is_by"⟩ : EvT.Sorts) = true := ex.2.2
  have HC : ∀ f C, EvT.Sorts.con (⟨He.ga K "_is_num", He.ga K "_is_asking", He.ga K "_is_fun", He.ga K "_is_of_two_names", He.ga K "_is_put_by", He.ga K "_is_letall", He.ga K "_is_made", He.ga K "_is_by"⟩ : EvT.Sorts) f = some C → Held P w K mg base 7 f (spOf K Tb C) := by
    intro f C h
    unfold EvT.Sorts.con at h
    by_cases e : f = He.ga K "_is_num"
    · rw [if_pos e] at h; cases h; rw [e]; exact held_of (D_x_is_num.mono (by omega)) g_x_is_num
    rw [if_neg e] at h; clear e
    by_cases e : f = He.ga K "_is_asking"
    · rw [if_pos e] at h; cases h; rw [e]; exact held_of (D_x_is_asking.mono (by omega)) g_x_is_asking
    rw [if_neg e] at h; clear e
    by_cases e : f = He.ga K "_is_fun"
    · rw [if_pos e] at h; cases h; rw [e]; exact held_of (D_x_is_fun.mono (by omega)) g_x_is_fun
    rw [if_neg e] at h; clear e
    by_cases e : f = He.ga K "_is_of_two_names"
    · rw [if_pos e] at h; cases h; rw [e]; exact held_of (D_x_is_of_two_names.mono (by omega)) g_x_is_of_two_names
    rw [if_neg e] at h; clear e
    by_cases e : f = He.ga K "_is_put_by"
    · rw [if_pos e] at h; cases h; rw [e]; exact held_of (D_x_is_put_by.mono (by omega)) g_x_is_put_by
    rw [if_neg e] at h; clear e
    by_cases e : f = He.ga K "_is_letall"
    · rw [if_pos e] at h; cases h; rw [e]; exact held_of (D_x_is_letall.mono (by omega)) g_x_is_letall
    rw [if_neg e] at h; clear e
    by_cases e : f = He.ga K "_is_made"
    · rw [if_pos e] at h; cases h; rw [e]; exact held_of (D_x_is_made.mono (by omega)) g_x_is_made
    rw [if_neg e] at h; clear e
    by_cases e : f = He.ga K "_is_by"
    · rw [if_pos e] at h; cases h; rw [e]; exact held_of (D_x_is_by.mono (by omega)) g_x_is_by
    rw [if_neg e] at h; clear e
    cases h
  have D_x_is_shaped : Dn P w K mg base Tb "_is_shaped" ["thing"] (7 + 1) (ShapedC) := dz_of F_x_is_shaped g_x_is_shaped b_x_is_shaped sc_x_is_shaped (fun a ws S h => by first | (obtain ⟨e, _⟩ := h; rw [e]; rfl) | (obtain ⟨e, hl, _⟩ := h; rw [e]; exact hl) | (obtain ⟨_, e, _⟩ := h; rw [e]; rfl) | (have h : ws = _ := h; rw [h]; rfl)) (fun cdv A outer s H E hr => es_x_is_shaped Z K_SORTS HC cdv A outer s H E hr) (vd_x_is_shaped (EvT.Sorts.hT _) (EvT.Sorts.hC sok))
  have D_named : Dn P w K mg base Tb "named" ["term"] (0 + 1) (NamedC) := dz_of F_named g_named b_named sc_named (fun a ws S h => by first | (obtain ⟨e, _⟩ := h; rw [e]; rfl) | (obtain ⟨e, hl, _⟩ := h; rw [e]; exact hl) | (obtain ⟨_, e, _⟩ := h; rw [e]; rfl) | (have h : ws = _ := h; rw [h]; rfl)) (fun cdv A outer s H E hr => es_named Z cdv A outer s H E hr) (vd_named)
  have D_within : Dn P w K mg base Tb "within" ["term"] (0 + 1) (WithinC) := dz_of F_within g_within b_within sc_within (fun a ws S h => by first | (obtain ⟨e, _⟩ := h; rw [e]; rfl) | (obtain ⟨e, hl, _⟩ := h; rw [e]; exact hl) | (obtain ⟨_, e, _⟩ := h; rw [e]; rfl) | (have h : ws = _ := h; rw [h]; rfl)) (fun cdv A outer s H E hr => es_within Z cdv A outer s H E hr) (vd_within)
  have D_is_term : Dn P w K mg base Tb "is_term" ["thing"] (8 + 1) (IsTC) := dz_of F_is_term g_is_term b_is_term sc_is_term (fun a ws S h => by first | (obtain ⟨e, _⟩ := h; rw [e]; rfl) | (obtain ⟨e, hl, _⟩ := h; rw [e]; exact hl) | (obtain ⟨_, e, _⟩ := h; rw [e]; rfl) | (have h : ws = _ := h; rw [h]; rfl)) (fun cdv A outer s H E hr => es_is_term Z (D_x_is_shaped.mono (by omega)) (D_within.mono (by omega)) G_MOST_PIECES G_MOST_WITHIN cdv A outer s H E hr) (vd_is_term)
  have D_free_names : Dn P w K mg base Tb "free_names" ["term"] (1 + 1) (FreeC) := dz_of F_free_names g_free_names b_free_names sc_free_names (fun a ws S h => by first | (obtain ⟨e, _⟩ := h; rw [e]; rfl) | (obtain ⟨e, hl, _⟩ := h; rw [e]; exact hl) | (obtain ⟨_, e, _⟩ := h; rw [e]; rfl) | (have h : ws = _ := h; rw [h]; rfl)) (fun cdv A outer s H E hr => es_free_names Z (D_named.mono (by omega)) (D_within.mono (by omega)) cdv A outer s H E hr) (vd_free_names)
  have D_is_program : Dn P w K mg base Tb "is_program" ["thing"] (9 + 1) (IsP6C) := dz_of F_is_program g_is_program b_is_program sc_is_program (fun a ws S h => by first | (obtain ⟨e, _⟩ := h; rw [e]; rfl) | (obtain ⟨e, hl, _⟩ := h; rw [e]; exact hl) | (obtain ⟨_, e, _⟩ := h; rw [e]; rfl) | (have h : ws = _ := h; rw [h]; rfl)) (fun cdv A outer s H E hr => es_is_program Z (D_is_term.mono (by omega)) (D_free_names.mono (by omega)) cdv A outer s H E hr) (vd_is_program6)
  have D_x_law_feed : Dn P w K mg base Tb "_law_feed" ["script", "k"] (0 + 1) (FeedC) := dz_of F_x_law_feed g_x_law_feed b_x_law_feed sc_x_law_feed (fun a ws S h => by first | (obtain ⟨e, _⟩ := h; rw [e]; rfl) | (obtain ⟨e, hl, _⟩ := h; rw [e]; exact hl) | (obtain ⟨_, e, _⟩ := h; rw [e]; rfl) | (have h : ws = _ := h; rw [h]; rfl)) (fun cdv A outer s H E hr => es_x_law_feed Z cdv A outer s H E hr) (vd_feed6)
  have D_x_law_take : Dn P w K mg base Tb "_law_take" ["feed", "many"] (0 + 1) (TakeC) := dz_of F_x_law_take g_x_law_take b_x_law_take sc_x_law_take (fun a ws S h => by first | (obtain ⟨e, _⟩ := h; rw [e]; rfl) | (obtain ⟨e, hl, _⟩ := h; rw [e]; exact hl) | (obtain ⟨_, e, _⟩ := h; rw [e]; rfl) | (have h : ws = _ := h; rw [h]; rfl)) (fun cdv A outer s H E hr => es_x_law_take Z cdv A outer s H E hr) (vd_take6)
  have D_x_law_pick : Dn P w K mg base Tb "_law_pick" ["feed", "some"] (1 + 1) (PickC) := dz_of F_x_law_pick g_x_law_pick b_x_law_pick sc_x_law_pick (fun a ws S h => by first | (obtain ⟨e, _⟩ := h; rw [e]; rfl) | (obtain ⟨e, hl, _⟩ := h; rw [e]; exact hl) | (obtain ⟨_, e, _⟩ := h; rw [e]; rfl) | (have h : ws = _ := h; rw [h]; rfl)) (fun cdv A outer s H E hr => es_x_law_pick Z (D_x_law_take.mono (by omega)) cdv A outer s H E hr) (vd_pick6)
  have D_x_law_names : Dn P w K mg base Tb "_law_names" ["feed"] (2 + 1) (NamesC6) := dz_of F_x_law_names g_x_law_names b_x_law_names sc_x_law_names (fun a ws S h => by first | (obtain ⟨e, _⟩ := h; rw [e]; rfl) | (obtain ⟨e, hl, _⟩ := h; rw [e]; exact hl) | (obtain ⟨_, e, _⟩ := h; rw [e]; rfl) | (have h : ws = _ := h; rw [h]; rfl)) (fun cdv A outer s H E hr => es_x_law_names Z (D_x_law_take.mono (by omega)) (D_x_law_pick.mono (by omega)) cdv A outer s H E hr) (vd_names6)
  have D_x_law_few : Dn P w K mg base Tb "_law_few" ["feed", "names", "most"] (2 + 1) (FewC) := dz_of F_x_law_few g_x_law_few b_x_law_few sc_x_law_few (fun a ws S h => by first | (obtain ⟨e, _⟩ := h; rw [e]; rfl) | (obtain ⟨e, hl, _⟩ := h; rw [e]; exact hl) | (obtain ⟨_, e, _⟩ := h; rw [e]; rfl) | (have h : ws = _ := h; rw [h]; rfl)) (fun cdv A outer s H E hr => es_x_law_few Z (D_x_law_take.mono (by omega)) (D_x_law_pick.mono (by omega)) cdv A outer s H E hr) (vd_few6)
  have D_x_law_made : Dn P w K mg base Tb "_law_made" ["feed", "names"] (2 + 1) (OneC isMk) := dz_of F_x_law_made g_x_law_made b_x_law_made sc_x_law_made (fun a ws S h => by first | (obtain ⟨e, _⟩ := h; rw [e]; rfl) | (obtain ⟨e, hl, _⟩ := h; rw [e]; exact hl) | (obtain ⟨_, e, _⟩ := h; rw [e]; rfl) | (have h : ws = _ := h; rw [h]; rfl)) (fun cdv A outer s H E hr => es_x_law_made Z (D_x_law_take.mono (by omega)) (D_x_law_pick.mono (by omega)) cdv A outer s H E hr) (vd_made6)
  have D_x_law_leaf : Dn P w K mg base Tb "_law_leaf" ["feed", "names"] (3 + 1) (OneC isLeaf) := dz_of F_x_law_leaf g_x_law_leaf b_x_law_leaf sc_x_law_leaf (fun a ws S h => by first | (obtain ⟨e, _⟩ := h; rw [e]; rfl) | (obtain ⟨e, hl, _⟩ := h; rw [e]; exact hl) | (obtain ⟨_, e, _⟩ := h; rw [e]; rfl) | (have h : ws = _ := h; rw [h]; rfl)) (fun cdv A outer s H E hr => es_x_law_leaf Z (D_x_law_take.mono (by omega)) (D_x_law_pick.mono (by omega)) (D_x_law_made.mono (by omega)) cdv A outer s H E hr) (vd_leaf6)
  have T0 : ∀ n : Nat, Dn P w K mg base Tb "_law_term" ["feed", "names", "box", "deep"] (5 + 2 * n) (TermC n) ∧ Dn P w K mg base Tb "_law_worth" ["feed", "names", "box", "deep"] (6 + 2 * n) (WorthC n) := by
    intro n
    induction n with
    | zero =>
      have N1 : Dn P w K mg base Tb "_law_term" ["feed", "names", "box", "deep"] (0 + 1) NoC := dz_no F_x_law_term g_x_law_term b_x_law_term sc_x_law_term NoC fun _ _ _ h => h
      have N2 : Dn P w K mg base Tb "_law_worth" ["feed", "names", "box", "deep"] (0 + 1) NoC := dz_no F_x_law_worth g_x_law_worth b_x_law_worth sc_x_law_worth NoC fun _ _ _ h => h
      have A1 : Dn P w K mg base Tb "_law_term" ["feed", "names", "box", "deep"] (4 + 1) (TermC 0) := dz_of F_x_law_term g_x_law_term b_x_law_term sc_x_law_term (fun a ws S h => by first | (obtain ⟨e, _⟩ := h; rw [e]; rfl) | (obtain ⟨e, hl, _⟩ := h; rw [e]; exact hl) | (obtain ⟨_, e, _⟩ := h; rw [e]; rfl) | (have h : ws = _ := h; rw [h]; rfl)) (fun cdv A outer s H E hr => es_x_law_term Z (D_x_law_take.mono (by omega)) (D_x_law_leaf.mono (by omega)) (N1.mono (by omega)) (D_x_law_pick.mono (by omega)) (D_x_law_few.mono (by omega)) (N2.mono (by omega)) cdv A outer s H E hr) (vd_term6 (n := 0) (m := 0) rfl (fun h => absurd h (by decide)) (fun h => absurd h (by decide)))
      have A2 : Dn P w K mg base Tb "_law_worth" ["feed", "names", "box", "deep"] (5 + 1) (WorthC 0) := dz_of F_x_law_worth g_x_law_worth b_x_law_worth sc_x_law_worth (fun a ws S h => by first | (obtain ⟨e, _⟩ := h; rw [e]; rfl) | (obtain ⟨e, hl, _⟩ := h; rw [e]; exact hl) | (obtain ⟨_, e, _⟩ := h; rw [e]; rfl) | (have h : ws = _ := h; rw [h]; rfl)) (fun cdv A outer s H E hr => es_x_law_worth Z (D_x_law_take.mono (by omega)) (D_x_law_made.mono (by omega)) (A1.mono (by omega)) (D_x_law_pick.mono (by omega)) cdv A outer s H E hr) (vd_worth6 (n := 0) (m := 0) rfl)
      exact ⟨A1, A2.mono (by omega)⟩
    | succ n ih =>
      obtain ⟨I1, I2⟩ := ih
      have A1 : Dn P w K mg base Tb "_law_term" ["feed", "names", "box", "deep"] ((6 + 2 * n) + 1) (TermC (n + 1)) := dz_of F_x_law_term g_x_law_term b_x_law_term sc_x_law_term (fun a ws S h => by first | (obtain ⟨e, _⟩ := h; rw [e]; rfl) | (obtain ⟨e, hl, _⟩ := h; rw [e]; exact hl) | (obtain ⟨_, e, _⟩ := h; rw [e]; rfl) | (have h : ws = _ := h; rw [h]; rfl)) (fun cdv A outer s H E hr => es_x_law_term Z (D_x_law_take.mono (by omega)) (D_x_law_leaf.mono (by omega)) (I1.mono (by omega)) (D_x_law_pick.mono (by omega)) (D_x_law_few.mono (by omega)) (I2.mono (by omega)) cdv A outer s H E hr) (vd_term6 (n := n + 1) (m := n) rfl (fun _ => rfl) (fun _ => rfl))
      have A2 : Dn P w K mg base Tb "_law_worth" ["feed", "names", "box", "deep"] ((6 + 2 * n) + 1) (WorthC (n + 1)) := dz_of F_x_law_worth g_x_law_worth b_x_law_worth sc_x_law_worth (fun a ws S h => by first | (obtain ⟨e, _⟩ := h; rw [e]; rfl) | (obtain ⟨e, hl, _⟩ := h; rw [e]; exact hl) | (obtain ⟨_, e, _⟩ := h; rw [e]; rfl) | (have h : ws = _ := h; rw [h]; rfl)) (fun cdv A outer s H E hr => es_x_law_worth Z (D_x_law_take.mono (by omega)) (D_x_law_made.mono (by omega)) (I1.mono (by omega)) (D_x_law_pick.mono (by omega)) cdv A outer s H E hr) (vd_worth6 (n := n + 1) (m := n) rfl)
      exact ⟨A1.mono (by omega), A2.mono (by omega)⟩
  have D_x_law_term := (T0 6).1
  have O_x_law_called : ∀ n : Nat, Dn P w K mg base Tb "_law_called" ["term", "table"] (2 + n) (CalledC n) := by
    intro n
    induction n with
    | zero =>
      have N1 : Dn P w K mg base Tb "_law_called" ["term", "table"] (0 + 1) NoC := dz_no F_x_law_called g_x_law_called b_x_law_called sc_x_law_called NoC fun _ _ _ h => h
      have A1 : Dn P w K mg base Tb "_law_called" ["term", "table"] (1 + 1) (CalledC 0) := dz_of F_x_law_called g_x_law_called b_x_law_called sc_x_law_called (fun a ws S h => by first | (obtain ⟨e, _⟩ := h; rw [e]; rfl) | (obtain ⟨e, hl, _⟩ := h; rw [e]; exact hl) | (obtain ⟨_, e, _⟩ := h; rw [e]; rfl) | (have h : ws = _ := h; rw [h]; rfl)) (fun cdv A outer s H E hr => es_x_law_called Z (N1.mono (by omega)) cdv A outer s H E hr) (vd_called (n := 0) (CT := NoC) (fun e h => by omega))
      exact A1
    | succ n ih =>
      have A1 : Dn P w K mg base Tb "_law_called" ["term", "table"] ((2 + n) + 1) (CalledC (n + 1)) := dz_of F_x_law_called g_x_law_called b_x_law_called sc_x_law_called (fun a ws S h => by first | (obtain ⟨e, _⟩ := h; rw [e]; rfl) | (obtain ⟨e, hl, _⟩ := h; rw [e]; exact hl) | (obtain ⟨_, e, _⟩ := h; rw [e]; rfl) | (have h : ws = _ := h; rw [h]; rfl)) (fun cdv A outer s H E hr => es_x_law_called Z (ih.mono (by omega)) cdv A outer s H E hr) (vd_called (n := n + 1) (CT := CalledC n) (fun e h => by obtain rfl : e = n := (by omega); rfl))
      exact A1.mono (by omega)
  have D_x_law_called := O_x_law_called 13
  have D_x_law_but : Dn P w K mg base Tb "_law_but" ["term", "names"] (2 + 1) (ButC) := dz_of F_x_law_but g_x_law_but b_x_law_but sc_x_law_but (fun a ws S h => by first | (obtain ⟨e, _⟩ := h; rw [e]; rfl) | (obtain ⟨e, hl, _⟩ := h; rw [e]; exact hl) | (obtain ⟨_, e, _⟩ := h; rw [e]; rfl) | (have h : ws = _ := h; rw [h]; rfl)) (fun cdv A outer s H E hr => es_x_law_but Z (D_free_names.mono (by omega)) cdv A outer s H E hr) (vd_but)
  have D_x_law_around_right : Dn P w K mg base Tb "_law_around_right" ["one", "other", "names"] (10 + 1) (AroundC6) := dz_of F_x_law_around_right g_x_law_around_right b_x_law_around_right sc_x_law_around_right (fun a ws S h => by first | (obtain ⟨e, _⟩ := h; rw [e]; rfl) | (obtain ⟨e, hl, _⟩ := h; rw [e]; exact hl) | (obtain ⟨_, e, _⟩ := h; rw [e]; rfl) | (have h : ws = _ := h; rw [h]; rfl)) (fun cdv A outer s H E hr => es_x_law_around_right Z (D_x_law_but.mono (by omega)) (D_free_names.mono (by omega)) (D_is_term.mono (by omega)) cdv A outer s H E hr) (vd_around6)
  exact fz_of F_law sc_law (fun a ws S h => by first | (obtain ⟨e, _⟩ := h; rw [e]; rfl) | (obtain ⟨e, hl, _⟩ := h; rw [e]; exact hl) | (obtain ⟨_, e, _⟩ := h; rw [e]; rfl) | (have h : ws = _ := h; rw [h]; rfl)) (fun cdv A outer s H E hr => es_law Z (D_x_law_feed.mono (by omega)) (D_x_law_names.mono (by omega)) (D_x_law_term.mono (by omega)) (D_x_law_take.mono (by omega)) (D_x_law_pick.mono (by omega)) (D_x_law_around_right.mono (by omega)) (D_x_law_called.mono (by omega)) (D_free_names.mono (by omega)) (D_is_term.mono (by omega)) (D_is_program.mono (by omega)) cdv A outer s H E hr) (vd_law6)
end E06
open PySem PySem.W PySem.Calls PyProof.Rows
theorem PySem.Challenge.cw_owedonce_k06_whole_free_names_holds : PySem.Challenge.rw_owedonce_k06_whole_free_names.Holds := by
  w_on; o_law
  k_head; (case hw => w_witness2)
  k_fill
  refine Ev.walk_y (l := PySem.Challenge.rw_owedonce_k06_whole_free_names) (k := (80 + 1)) (hd := E06.hd) (fun w h Y => PySem.W.kIn_of Y) (fun w => by show E06.hd.obs _ = E06.hd.val w; kernel_rfl) E06.tabs [] ?hT (by rfl) rfl ⟨rfl, by decide, by decide⟩ ?hx ?F
  case hT =>
      intro x hx
      have hx : x ∈ (["is_name", "_are_names", "_is_letall", "_is_by"] : List PySem.Str) := hx
      simp only [List.mem_cons, List.not_mem_nil, or_false] at hx
      rcases hx with rfl | rfl | rfl | rfl
      · exact ⟨_, rfl⟩
      · exact ⟨_, rfl⟩
      · exact ⟨_, rfl⟩
      · exact ⟨_, rfl⟩
  case hx =>
      intro K e x hx
      have e : (E06.tabs.all (Ev.tabOk K) && (He.valsB K (He.ga K "SORTS") (E06.kv_SORTS.map fun q => (q.1, He.Dv.glo q.2)) && (EvT.Sorts.ok (⟨He.ga K "_is_num", He.ga K "_is_asking", He.ga K "_is_fun", He.ga K "_is_of_two_names", He.ga K "_is_put_by", He.ga K "_is_letall", He.ga K "_is_made", He.ga K "_is_by"⟩ : EvT.Sorts)))) = true := e
      simp only [Bool.and_eq_true] at e
      exact List.all_eq_true.mp e.1 x hx
  case F =>
      intro w mg fa h K KX c G hmg0
      have hmg : mg ("law" : PySem.Str) = some (.ref fa) := hmg0
      exact E06.facts (P := PySem.Challenge.rw_owedonce_k06_whole_free_names.prog) (w := w) KX c G hmg
