import PyProof.Rows.All
import Wide.All
import OpenK.AllK
import Wide.FinOn
import HandS.ForMost
import HandS.AnyAll
import HandS.IsInst
import HandS.Wide
import HandS.EndTab
import HandS.TupLe
import HandS.Walk
import HandS.Conv
import HandS.Flow
import HandS.Comp
import HandS.Iter
import HandS.GenList
import HandS.TupAny
import HandS.Deep
import HandS.Dict
import HandS.Text
import HandS.Style
import HandS.More
import HandS.Set
import HandS.Strs
import HandS.TupSets
import PyProof.Rows.SortShellAny
import HandS.CallLocal
import HandS.Defaults
import HandS.Head0
import HandS.Head1
import HandS.Head2
import HandS.HeadEnd
import HandS.HeadHook1
import HandS.HeadHook2
import HandS.HeadHook3
import HandS.HeadWalk
import HandS.TupMul
import PyProof.CallFns
import HandS.RevRange
import HandS.RaiseMore
import PySem.Challenge.RW_owedonce_k80_tuples_written_and_read
set_option Elab.async false
set_option linter.all false
set_option maxRecDepth 100000
set_option maxHeartbeats 4000000
namespace Ow
open PySem PySem.Spec PyProof.Rows L2
/-! ### the law's number source: a list of two ints -/
abbrev M61 : Int := 2305843009213693951
structure Fd (H : Hp) (p : Addr) : Prop where
  ex : ∃ d s : Int, H p = some (.lst [.int d, .int s]) ∧ 0 ≤ d ∧ 0 ≤ s ∧ s < M61
theorem same_upd {H : Hp} {p : Addr} {o : HO} (h : H p = none) : Same H (upd H p o) := fun b x e => by
  rw [upd_ne (ne_of_none e h)]
  exact e
/-- all but what stands at p is as it was -/
def But (p : Addr) (H H' : Hp) : Prop := ∀ b, b ≠ p → H' b = H b
theorem But.refl {p : Addr} {H : Hp} : But p H H := fun _ _ => rfl
theorem But.trans {p : Addr} {H H1 H2 : Hp} (a : But p H H1) (b : But p H1 H2) : But p H H2 := fun c h => (b c h).trans (a c h)
theorem But.upd {p : Addr} {H : Hp} {o : HO} : But p H (upd H p o) := fun _ h => upd_ne h
def spFeed (K : PySem.W.Frag) : Sp := fun vs H Q _ => ∃ (a : Addr) (ns : List Int) (k : Nat), vs = [.ref a, .int k] ∧ SqL K H a (ns.map V.int) ∧ k < 1000000 ∧
  ∀ p H', H p = none → Fd H' p → But p H H' → Q (.ref p) H'
def spTake : Sp := fun vs H Q _ => ∃ (p : Addr) (m : Int), vs = [.ref p, .int m] ∧ Fd H p ∧ 0 < m ∧ m < 1073741824 ∧
  ∀ r H', 0 ≤ r → r < m → Fd H' p → But p H H' → Q (.int r) H'
def spPickS : Sp := fun vs H Q _ => ∃ (p : Addr) (z : Str), vs = [.ref p, .str z] ∧ Fd H p ∧ 0 < z.length ∧ z.length < 1000000 ∧
  ∀ c H', c ∈ z.cps.toList → Fd H' p → But p H H' → Q (.str ⟨#[c]⟩) H'
def spPickL (K : PySem.W.Frag) : Sp := fun vs H Q _ => ∃ (p q : Addr) (xs : List V), vs = [.ref p, .ref q] ∧ p ≠ q ∧ (SqL K H q xs ∨ SqT K H q xs) ∧ Fd H p ∧ 0 < xs.length ∧ xs.length < 1000000 ∧
  ∀ x H', x ∈ xs → Fd H' p → But p H H' → Q x H'
def spPick (K : PySem.W.Frag) : Sp := fun vs H Q E => spPickS vs H Q E ∨ spPickL K vs H Q E
theorem line_ge : 1000000 ≤ sizeLine := by decide
/-! ### texts of one sign -/
theorem lt_one (a b : Nat) : decide ([a] < [b]) = decide (a < b) := by
  by_cases h : a < b
  · rw [decide_eq_true h, decide_eq_true (List.cons_lt_cons_iff.mpr (.inl h))]
  · rw [decide_eq_false h, decide_eq_false]
    intro z
    rcases List.cons_lt_cons_iff.mp z with z | ⟨_, z⟩
    · exact h z
    · exact absurd z (List.not_lt_nil _)
theorem elt_az {prog : Program} {w : World} {scope : Scope} {x lo hi : Str} {j1 j2 : Nat} {p1 p2 p3 p4 : Pos} (hk : scope.kind = .function) (hl : scope.names.lookup x = some .local) (hd : (x == ("__debug__" : Str)) = false := by decide) :
    GxR.EltP prog w scope x (.Compare (.Constant (.str lo) j1 p1) [.LtE, .LtE] [.Name x p2, .Constant (.str hi) j2 p3] p4) (fun c => !decide ([c] < lo.cps.toList) && !decide (hi.cps.toList < [c])) := by
  intro cenv A' E' c t s₂ m₂ hs hn hm
  refine Compare_chain (Calls.Constant_str (chain_link ?_)) rfl
  refine wpAny_Name (wpAny_loadName_local (by rw [hs]; exact hk) (show cenv.scope.names.lookup x = some .local by rw [hs]; exact hl) hn hm ?_) hd
  refine PySem.P.le_str ?_
  refine wpAny_truthy_bool ?_
  cases e : decide ([c] < lo.cps.toList) with
  | true =>
    have z : [c] < lo.cps.toList := of_decide_eq_true e
    simp only [z, decide_true, Bool.not_true, Bool.false_eq_true, if_false, Bool.false_and]
    exact ⟨trivial, GxR.keeps_tok _ _⟩
  | false =>
    have z : ¬ [c] < lo.cps.toList := of_decide_eq_false e
    simp only [z, decide_false, Bool.not_false, if_true, Bool.true_and]
    refine chain_last (Calls.Constant_str ?_)
    exact PySem.P.le_str ⟨rfl, GxR.keeps_tok _ _⟩
theorem fn_code {P : Program} {w : World} {K : PySem.W.Frag} {mg : Str → Option Value} {base : Heap} {x qual : Str} {st : Stmt} {f c : Addr} {N ps : List Str} {k : Nat} {sp : Sp} {oc : Value} {od an : Option Addr} {osl : Array (Option Value)} {kV doc pm ct : Value}
    (lk : K.lookup f = some ⟨oc, od, .func (PySem.W.fnOf x qual (defArgs st) (defBody st) (defScope st) .none kV doc pm an (.ref c) ct), osl⟩) (hcd : PySem.W.codeIn K (.ref c) qual = true) (S : FnScope N ps (defScope st)) (len : ∀ vs H Q E, sp vs H Q E → vs.length = ps.length)
    (hbody : ∀ (A : Around) (outer : List Env) (s : Shared) (H : Hp) (vs : List V) (Q : VK) (E : XK), Room k (A.deeper (envOfC qual (defScope st) s.heap.objs.size f (.ref c))) → sp vs H Q E →
      ∃ t, PSs (cxOf CX0 P w K mg base N qual (defScope st) f (.ref c) A outer s H E).nox (defBody st) t ∧ t { nx := fun _ H' => Q .non H', rt := Q } (start N vs) H) :
    FnOk P w K mg base CX0 (k + 1) f (PySem.W.fnOf x qual (defArgs st) (defBody st) (defScope st) .none kV doc pm an (.ref c) ct) ps sp := by
  refine fn_of lk hcd S len fun A outer s H vs Q E hr hsp => ?_
  obtain ⟨t, h, q⟩ := hbody A outer s H vs Q E hr hsp
  exact ⟨t, h.nox, q⟩
/-! ### is_name -/
def isNm (z : Str) : Bool := decide (1 ≤ z.length ∧ z.length ≤ 8) && z.cps.toList.all fun c => decide (97 ≤ c ∧ c ≤ 122)
/-- x is no text, of the type t -/
def NoStr (K : PySem.W.Frag) (H : Hp) (x : V) : Prop := ∃ t, TyX K H x t ∧ PySem.W.kitOne K t (.type "str") = some false
def spName (K : PySem.W.Frag) (T : Addr) : Sp := fun vs H Q _ => ∃ x, vs = [x] ∧ GxR.TabG H T ∧ ((∃ z, x = .str z ∧ z.length ≤ sizeLine ∧ ∀ H2, GxR.Tabbed T H H2 → Q (.bl (isNm z)) H2) ∨ (NoStr K H x ∧ Q (.bl false) H))
theorem az_eq (c : Nat) : (!decide ([c] < [97]) && !decide ([122] < [c])) = decide (97 ≤ c ∧ c ≤ 122) := by
  rw [lt_one, lt_one]
  by_cases h1 : 97 ≤ c
  · by_cases h2 : c ≤ 122
    · rw [decide_eq_false (show ¬ c < 97 by omega), decide_eq_false (show ¬ 122 < c by omega), decide_eq_true ⟨h1, h2⟩]
      rfl
    · rw [decide_eq_true (show 122 < c by omega), decide_eq_false (show ¬ (97 ≤ c ∧ c ≤ 122) by omega), Bool.not_true, Bool.and_false]
  · rw [decide_eq_true (show c < 97 by omega), decide_eq_false (show ¬ (97 ≤ c ∧ c ≤ 122) by omega)]
    rfl
theorem tab_refl {T : Addr} {H : Hp} (h : GxR.TabG H T) : GxR.Tabbed T H H := ⟨h, fun _ _ => rfl⟩
end Ow
namespace Ow
open PySem PySem.Spec PyProof.Rows L2
/-- text * 2 -/
theorem op_mul_str2 {X : Cx} : OpR X (binaryOp .Mult) (fun x y H Q => ∃ (z : Str), x = .str z ∧ y = .int 2 ∧ z.length ≤ 1000 ∧ Q (.str (z ++ z)) H) := by
  intro pins s σ H x y v u Q I rx ry h
  obtain ⟨z, rfl, rfl, hz, q⟩ := h
  obtain ⟨t, rfl⟩ := rx
  obtain ⟨t', rfl⟩ := ry
  refine PySem.P.mul_str (by decide) (fun _ _ => ?_) (fun _ _ => ?_) ?_
  · have : ((2 ^ 63 - 1) / 2 : Int) = 4611686018427387903 := by decide
    rw [this]
    omega
  · refine decide_eq_false ?_
    have : (2 : Int).toNat = 2 := rfl
    rw [this]
    have := line_ge
    show ¬ (z.length * 2 > sizeLine)
    omega
  · rw [if_neg (by decide)]
    by_cases e : ((2 : Int) == 1 || z.length == 0) = true
    · rw [if_pos e]
      have e0 : z.length = 0 := by
        simpa using e
      have ez : z ++ z = z := by
        obtain ⟨c⟩ := z
        have : c = #[] := Array.eq_empty_of_size_eq_zero e0
        subst this
        rfl
      refine ⟨.str z, H, I, ⟨_, rfl⟩, ?_⟩
      rw [← ez]
      exact q
    · rw [if_neg e]
      have ez : (⟨(List.replicate (2 : Int).toNat z.cps).foldl (· ++ ·) #[]⟩ : Str) = z ++ z := by
        show (⟨(#[] ++ z.cps) ++ z.cps⟩ : Str) = ⟨z.cps ++ z.cps⟩
        rw [Array.empty_append]
      rw [ez]
      refine ⟨?_, .str (z ++ z), H, I.tok _, ⟨_, rfl⟩, q⟩
      have h1 := line_ge
      have h2 : (z ++ z).length = z.length + z.length := Array.size_append
      omega
/-- list(text) -/
def signs (z : Str) : List V := z.cps.toList.map fun c => .str ⟨#[c]⟩
theorem call_list_text {X : Cx} (hc : X.calm = true) : CallR X (.type "list") (fun xs H Q => ∃ z, xs = [.str z] ∧ z.length ≤ sizeLine ∧ ∀ l, H l = none → Q (.ref l) (upd H l (.lst (signs z)))) := by
  intro pins s σ H xs us Q I r h
  obtain ⟨z, rfl, hz, q⟩ := h
  obtain ⟨u, rfl, rx⟩ := vals1 r
  obtain ⟨t, rfl⟩ := rx
  have el : (signs z).length = z.length := by
    unfold signs
    rw [List.length_map]
    simp [Str.length]
  refine PySem.call_list_str (I.ok.hd hc) z t (fun h' tk acc' c' hkeep hS hacc => ?_) hz
  refine ⟨.ref s.heap.objs.size, upd H s.heap.objs.size (.lst (signs z)), I.laid hkeep (Nat.le_refl _) (show ObjOk X.prog X.w _ _ _ (.lst (signs z)) from ⟨?_, acc'.toList, c', ?_, ?_⟩), rfl, q _ (I.hok.fresh (Nat.le_refl _))⟩
  · rw [el]
    exact hz
  · have ea : acc'.toList.length = acc'.size := by simp
    refine vals_of_at (by rw [ea, hacc.1, el]; rfl) fun j x w h1 h2 => ?_
    obtain ⟨c, t2, hc1, e⟩ := hacc.2 j w (by rw [← Array.getElem?_toList]; exact h2)
    subst e
    unfold signs at h1
    rw [List.getElem?_map, Array.getElem?_toList, hc1] at h1
    cases h1
    exact ⟨_, rfl⟩
  · rw [Array.toArray_toList]
    exact hS
end Ow
namespace Ow
open PySem PySem.Spec PyProof.Rows L2
/-- but for the table at T all that stood stands -/
structure SB (T : Addr) (H H' : Hp) : Prop where
  sb : ∀ b o, b ≠ T → H b = some o → H' b = some o
  tab : GxR.TabG H' T
section
variable {T : Addr} {H H0 H1 H2 : Hp}
theorem SB.refl (h : GxR.TabG H T) : SB T H H := ⟨fun _ _ _ e => e, h⟩
theorem SB.trans (x : SB T H H1) (y : SB T H1 H2) : SB T H H2 := ⟨fun b o n e => y.sb b o n (x.sb b o n e), y.tab⟩
theorem tab_ne {b : Addr} {o : HO} (h : GxR.TabG H T) (e : H b = some o) (n : ∀ ps, o ≠ .tbl ps) : b ≠ T := by
  obtain ⟨ps, h1, _⟩ := h
  exact ne_of e h1 (n ps)
theorem tab_upd {l : Addr} {o : HO} (h : GxR.TabG H T) (hl : l ≠ T) : GxR.TabG (upd H l o) T := by
  obtain ⟨ps, h1, h2⟩ := h
  exact ⟨ps, by rw [upd_ne hl.symm]; exact h1, h2⟩
theorem tab_new {l : Addr} (h : GxR.TabG H T) (hl : H l = none) : l ≠ T := by
  obtain ⟨ps, h1, h2⟩ := h
  exact (ne_of_none h1 hl).symm
theorem SB.new {l : Addr} {o : HO} (x : SB T H H1) (hl : H1 l = none) : SB T H (upd H1 l o) :=
  ⟨fun b u n e => by
    rw [upd_ne (ne_of_none (x.sb b u n e) hl)]
    exact x.sb b u n e, tab_upd x.tab (tab_new x.tab hl)⟩
/-- what is new since H may be changed -/
theorem SB.set {l : Addr} {o : HO} (x : SB T H H1) (hl : H l = none) (ht : l ≠ T) : SB T H (upd H1 l o) :=
  ⟨fun b u n e => by
    rw [upd_ne (ne_of_none e hl)]
    exact x.sb b u n e, tab_upd x.tab ht⟩
theorem SB.but {p : Addr} (x : SB T H H1) (hp : H p = none) (ht : p ≠ T) (b : But p H1 H2) : SB T H H2 :=
  ⟨fun c u n e => by
    rw [b c (ne_of_none e hp)]
    exact x.sb c u n e, by
    obtain ⟨ps, h1, h2⟩ := x.tab
    exact ⟨ps, by rw [b T ht.symm]; exact h1, h2⟩⟩
theorem SB.tabd (x : SB T H H1) (t : GxR.Tabbed T H1 H2) : SB T H H2 :=
  ⟨fun b o n e => by
    rw [t.2 b n]
    exact x.sb b o n e, t.1⟩
theorem SB.sq {K : PySem.W.Frag} {a : Addr} {xs : List V} (x : SB T H H1) (t : GxR.TabG H T) (h : SqL K H a xs) : SqL K H1 a xs := by
  rcases h with (h | ⟨o, h⟩) | h
  · exact .inl (.inl (x.sb _ _ (tab_ne t h (fun _ z => by cases z)) h))
  · exact .inl (.inr ⟨o, x.sb _ _ (tab_ne t h (fun _ z => by cases z)) h⟩)
  · exact .inr h
theorem SB.fd {p : Addr} (x : SB T H H1) (t : GxR.TabG H T) (h : Fd H p) : Fd H1 p := by
  obtain ⟨d, s, e, r⟩ := h
  exact ⟨d, s, x.sb _ _ (tab_ne t e (fun _ z => by cases z)) e, r⟩
theorem Fd.ne {p : Addr} (h : Fd H p) (t : GxR.TabG H T) : p ≠ T := by
  obtain ⟨d, s, e, r⟩ := h
  exact tab_ne t e (fun _ z => by cases z)
theorem SB.none (x : SB T H H1) (t : GxR.TabG H T) {l : Addr} (h : H1 l = none) : H l = none := by
  cases e : H l with
  | none => rfl
  | some o =>
    by_cases n : l = T
    · subst n
      obtain ⟨ps, h1, _⟩ := x.tab
      rw [h1] at h
      cases h
    · rw [x.sb l o n e] at h
      cases h
end
end Ow
namespace Ow
open PySem PySem.Spec PyProof.Rows L2
def one (c : Nat) : Str := ⟨#[c]⟩
theorem len_cps (z : Str) : z.cps.toList.length = z.length := by simp [Str.length]
theorem join_one : ∀ zs : List Nat, (Str.join ⟨#[]⟩ (zs.map one)).cps.toList = zs
  | [] => rfl
  | [c] => rfl
  | c :: d :: r => by
    have ih := join_one (d :: r)
    show ((#[c] ++ #[]) ++ (Str.join ⟨#[]⟩ ((d :: r).map one)).cps).toList = _
    rw [Array.toList_append, ih]
    rfl
theorem sum_one : ∀ zs : List Nat, (((zs.map one).map (·.length)).sum : Nat) = zs.length
  | [] => rfl
  | c :: r => by
    show 1 + ((r.map one).map (·.length)).sum = r.length + 1
    rw [sum_one r]
    omega
theorem cutS_len (z : Str) (lo hi : Option Int) : (cutS z lo hi).length ≤ z.length := by
  have e : (cutS z lo hi).length = (cutS z lo hi).cps.toList.length := (len_cps _).symm
  rw [e]
  unfold cutS
  rw [List.toList_toArray, List.length_take, List.length_drop, len_cps]
  omega
theorem app_len (x y : Str) : (x ++ y).length = x.length + y.length := Array.size_append
def az : List Nat := [97, 98, 99, 100, 101, 102, 103, 104, 105, 106, 107, 108, 109, 110, 111, 112, 113, 114, 115, 116, 117, 118, 119, 120, 121, 122]
theorem mem_az (c : Nat) : c ∈ az ↔ 97 ≤ c ∧ c ≤ 122 := by
  unfold az
  simp only [List.mem_cons, List.not_mem_nil, or_false]
  omega
theorem dec_az (c : Nat) : decide (c ∈ az) = decide (97 ≤ c ∧ c ≤ 122) := decide_eq_decide.mpr (mem_az c)
end Ow
namespace Ow
open PySem PySem.Spec PyProof.Rows L2
/-- signs below 128 -/
def Lo (z : Str) : Prop := ∀ c ∈ z.cps.toList, c < 128
theorem Lo.app {x y : Str} (a : Lo x) (b : Lo y) : Lo (x ++ y) := by
  intro c hc
  have e : (x ++ y).cps.toList = x.cps.toList ++ y.cps.toList := Array.toList_append
  rw [e] at hc
  rcases List.mem_append.mp hc with h | h
  · exact a c h
  · exact b c h
theorem Lo.cut {x : Str} (a : Lo x) (lo hi : Option Int) : Lo (cutS x lo hi) := by
  intro c hc
  unfold cutS at hc
  rw [List.toList_toArray] at hc
  exact a c (List.mem_of_mem_drop (List.mem_of_mem_take hc))
def sg (c : Nat) : V := .str ⟨#[c]⟩
theorem dp_signs {K : PySem.W.Frag} {H : Hp} : ∀ l : List Nat, DpAll K H (l.map sg) (l.map fun c => PyData.str ⟨#[c]⟩)
  | [] => .nil
  | _ :: r => .cons (.str _) (dp_signs r)
theorem lay_signs : ∀ l : List Nat, (∀ c ∈ l, c < 128) → PyData.canLayAll0 (l.map fun c => PyData.str ⟨#[c]⟩) = true
  | [], _ => by simp [PyData.canLayAll0]
  | c :: r, h => by
    have h1 : c < 128 := h c List.mem_cons_self
    have h2 := lay_signs r fun d hd => h d (List.mem_cons_of_mem _ hd)
    have h3 : PyData.strOk ⟨#[c]⟩ = true := by
      simp [PyData.strOk]
      omega
    rw [List.map_cons]
    unfold PyData.canLayAll0
    rw [h2, Bool.and_true]
    unfold PyData.canLay0
    exact h3
theorem depth_signs : ∀ l : List Nat, PyData.depthAll (l.map fun c => PyData.str ⟨#[c]⟩) = 0
  | [] => by simp [PyData.depthAll]
  | c :: r => by
    rw [List.map_cons]
    unfold PyData.depthAll
    rw [depth_signs r]
    simp [PyData.depth]
theorem shaped_signs {l : List Nat} (h : ∀ c ∈ l, c < 128) : SeqAt.shaped (.list (l.map fun c => PyData.str ⟨#[c]⟩)) = true := by
  unfold SeqAt.shaped
  rw [Bool.and_eq_true]
  constructor
  · unfold PyData.canLay0
    exact lay_signs l h
  · unfold PyData.depth
    rw [depth_signs l]
    decide
theorem eqv_nil : ∀ l : List PyData, PyData.eqv (.list l) (.list []) = l.isEmpty
  | [] => by simp [PyData.eqv, PyData.eqvAll]
  | _ :: _ => by simp [PyData.eqv, PyData.eqvAll]
theorem filt_nil (l : List Nat) : (l.filter fun c => !decide (c ∈ az)).isEmpty = l.all fun c => decide (97 ≤ c ∧ c ≤ 122) := by
  rw [Bool.eq_iff_iff, List.isEmpty_iff, List.filter_eq_nil_iff, List.all_eq_true]
  constructor
  · intro h c hc
    have := h c hc
    rw [dec_az] at this
    simpa using this
  · intro h c hc
    have := h c hc
    rw [dec_az, this]
    decide
theorem filt_step {l : List Nat} {j c : Nat} (h : l[j]? = some c) : ((l.take (j + 1)).filter fun c => !decide (c ∈ az)) = ((l.take j).filter fun c => !decide (c ∈ az)) ++ (if decide (c ∈ az) = true then [] else [c]) := by
  rw [List.take_add_one, h, List.filter_append]
  congr 1
  show List.filter _ [c] = _
  by_cases hc : c ∈ az
  · rw [decide_eq_true hc, if_pos rfl, List.filter_cons_of_neg (by rw [decide_eq_true hc]; decide)]
    rfl
  · rw [decide_eq_false hc, if_neg (by decide), List.filter_cons_of_pos (by rw [decide_eq_false hc]; decide)]
    rfl
end Ow
namespace Ow
open PySem PySem.Spec PyProof.Rows L2
/-- no text, told by the heap -/
def NoS (H : Hp) (x : V) : Prop := x = .non ∨ (∃ b, x = .bl b) ∨ (∃ i, x = .int i) ∨ ∃ a xs, x = .ref a ∧ (H a = some (.lst xs) ∨ H a = some (.tup xs))
theorem NoS.str {K : PySem.W.Frag} {H : Hp} {x : V} (h : NoS H x) : NoStr K H x := by
  rcases h with rfl | ⟨b, rfl⟩ | ⟨i, rfl⟩ | ⟨a, xs, rfl, h | h⟩
  · exact ⟨_, .base .non, kit_ty (by decide +kernel)⟩
  · exact ⟨_, .base (.bl _), kit_ty (by decide +kernel)⟩
  · exact ⟨_, .base (.int _), kit_ty (by decide +kernel)⟩
  · exact ⟨_, .base (.lst h), kit_ty (by decide +kernel)⟩
  · exact ⟨_, .base (.tup h), kit_ty (by decide +kernel)⟩
theorem NoS.sb {T : Addr} {H H' : Hp} {x : V} (h : NoS H x) (t : GxR.TabG H T) (b : SB T H H') : NoS H' x := by
  rcases h with rfl | ⟨c, rfl⟩ | ⟨i, rfl⟩ | ⟨a, xs, rfl, h | h⟩
  · exact .inl rfl
  · exact .inr (.inl ⟨_, rfl⟩)
  · exact .inr (.inr (.inl ⟨_, rfl⟩))
  · exact .inr (.inr (.inr ⟨a, xs, rfl, .inl (b.sb _ _ (tab_ne t h fun _ z => by cases z) h)⟩))
  · exact .inr (.inr (.inr ⟨a, xs, rfl, .inr (b.sb _ _ (tab_ne t h fun _ z => by cases z) h)⟩))
end Ow
namespace Ow
open PySem PySem.Spec PyProof.Rows L2 LamX
/-- what is known of the law's promise, where the tables of the defs are told -/
theorem walk_ofTab {l : PySem.W.OpenLaw} {n k : Nat} {q : Program} {loose : List Str} {XP : (Str → Option Value) → Heap → Prop} {YP : World → Heap → Prop} {d : DefRec} {K : Params → PySem.W.Frag} {CX : World → CXT} {x : Str}
    (hn : l.most = some n) (hn2 : n ≤ sizeLine) (hdf : d.params.defaults = []) (hr : Room k callerA) (hY : ∀ (w : World) (h : Heap), YP w h → (K w.params).In h)
    (F : ∀ (w : World) (mg : Str → Option Value) (fa : Addr) (h : Heap), (K w.params).In h → h.Ns mainGlobals mg → mg d.name = some (.ref fa) →
      (∀ (d' : DefRec) (x : Str) (c P : Addr), (recsOf q).find? (fun e => e.name == x) = some d' → PySem.W.tabIn (K w.params) x = some (c, P) → PySem.W.CodeHd h c P ∧ h.get? P = some { cls := .none, data := .fields #[] }) → LawAtS l w (K w.params) (CX w) k n x mg fa h)
    (hCX : ∀ (w : World) (H : Hp) (s : Shared) (e : Value) (s' : Shared), CX w [] H s (fun _ _ _ => False) e s' → False) :
    PySem.W.WalkO q loose XP YP l.row.toRowW d [] (fun f vs => PySem.call f vs) := by
  refine Att.attach_callB hn hdf fun w s₀ s₁ mg mb fa o pm cd doc a vs ns G Y ho hd hcd hmg hobj hints hlen hbits hg => ?_
  have KX := hY w _ Y
  obtain ⟨fd, cs, sp, hT, nT, C, hb, hsp, hF⟩ := F w mg fa _ KX G.T.g hmg (fun d' x c P hr ht => PySem.W.tab_of G.T KX hr ht)
  exact law_callTs KX G.T.g G.T.b G.T.builtins G.T.nolimit hg hT nT C G.T.bmain hobj hints (Nat.le_trans hlen hn2) hr hF hb (fun H hH hS => hsp H a ns hlen hbits hH hS) fun H e s' => hCX w H s₁ e s'
end Ow
namespace Ow
open PySem
theorem tab_mk {K : PySem.W.Frag} {x : Str} {f c P : Addr} {o1 o2 : Value} {d1 d2 : Option Addr} {s1 s2 : Array (Option Value)} {fd : FuncData} {vs : Array Value}
    (a : PySem.W.nsIn K mainGlobals x = some (some (.ref f))) (l : K.lookup f = some ⟨o1, d1, .func fd, s1⟩) (hc : fd.code = .ref c) (lc : K.lookup c = some ⟨o2, d2, .fields vs, s2⟩) (hv : vs[11]? = some (.ref P)) : PySem.W.tabIn K x = some (c, P) := by
  unfold PySem.W.tabIn
  rw [a]
  simp only [l, hc, lc, hv]
theorem tabB {base : Heap} {mg : Str → Option Value} {c P : Addr} (t : LamX.TabB base mg c P) : GxR.TabB base mg c P := ⟨t.code, t.bm, t.gP⟩
end Ow

set_option Elab.async false
set_option linter.all false
set_option maxRecDepth 100000
set_option maxHeartbeats 4000000
/-! Values with tuples in them, a store of numbered lists, dicts, instances; how they lie in the heap; readings over them. -/
namespace Ev
open PySem PySem.Spec PyProof.Rows L2 Ow
/-- a value: tuples (and lists that never change) are what they hold; n: what stands in the store at n; a: an address of the text (a def, a class) -/
inductive W where
  | non | bl (b : Bool) | int (i : Int) | str (x : Str) | tup (l : List W) | cl (l : List W) | ref (n : Nat) | adr (a : Addr) | ty (n : String)
/-- what stands in the store -/
inductive O where
  | lst (l : List W)
  | dK (l : List (Key × W))
  | dT (l : List (List Key × W))
  | fK (l : List (Key × W))
  | ins (C : Addr) (fs : List (Str × W))
abbrev Store := List O
abbrev EvS := List (Option W)
/-- a list that never changes -/
def FzL (K : PySem.W.Frag) (H : Hp) (a : Addr) (xs : List V) : Prop :=
  (∃ o, H a = some (.frz o (.lst xs))) ∨
    ∃ (o : Obj) (its : Array Value) (n : Nat), K.lookup a = some o ∧ o.cls = .type "list" ∧ o.dict = none ∧ o.data = .seq its n ∧ its.size ≤ sizeLine ∧ Vals xs its.toList
theorem FzL.sq {K : PySem.W.Frag} {H : Hp} {a : Addr} {xs : List V} (h : FzL K H a xs) : SqL K H a xs := by
  rcases h with h | h
  · exact .inl (.inr h)
  · exact .inr h
mutual
def VR (K : PySem.W.Frag) (ι : List Addr) (H : Hp) : W → V → Prop
  | .non, v => v = .non
  | .bl b, v => v = .bl b
  | .int i, v => v = .int i
  | .str x, v => v = .str x
  | .ty n, v => v = .ty n
  | .adr a, v => v = .ref a
  | .ref n, v => ∃ a, ι[n]? = some a ∧ v = .ref a
  | .tup l, v => ∃ a vs, v = .ref a ∧ SqT K H a vs ∧ VRs K ι H l vs
  | .cl l, v => ∃ a vs, v = .ref a ∧ FzL K H a vs ∧ VRs K ι H l vs
def VRs (K : PySem.W.Frag) (ι : List Addr) (H : Hp) : List W → List V → Prop
  | [], vs => vs = []
  | w :: l, vs => ∃ v r, vs = v :: r ∧ VR K ι H w v ∧ VRs K ι H l r
end
/-- what may come: new addresses, more tuples -/
structure Grow (K : PySem.W.Frag) (ι : List Addr) (H : Hp) (ι' : List Addr) (H' : Hp) : Prop where
  pre : ∃ m, ι' = ι ++ m
  tup : ∀ a xs, SqT K H a xs → SqT K H' a xs
  fz : ∀ a xs, FzL K H a xs → FzL K H' a xs
section
variable {K : PySem.W.Frag} {ι ι' ι'' : List Addr} {H H' H'' : Hp}
theorem Grow.refl : Grow K ι H ι H := ⟨⟨[], by simp⟩, fun _ _ h => h, fun _ _ h => h⟩
theorem Grow.trans (a : Grow K ι H ι' H') (b : Grow K ι' H' ι'' H'') : Grow K ι H ι'' H'' := by
  obtain ⟨⟨m, e⟩, t, z⟩ := a
  obtain ⟨⟨m', e'⟩, t', z'⟩ := b
  exact ⟨⟨m ++ m', by rw [e', e, List.append_assoc]⟩, fun a xs h => t' _ _ (t _ _ h), fun a xs h => z' _ _ (z _ _ h)⟩
theorem Grow.at (g : Grow K ι H ι' H') {n : Nat} {a : Addr} (h : ι[n]? = some a) : ι'[n]? = some a := by
  obtain ⟨⟨m, e⟩, _, _⟩ := g
  rw [e, List.getElem?_append_left (List.getElem?_eq_some_iff.mp h).1]
  exact h
mutual
theorem VR.grow (g : Grow K ι H ι' H') : ∀ (w : W) {v : V}, VR K ι H w v → VR K ι' H' w v
  | .non, _, h => h
  | .bl _, _, h => h
  | .int _, _, h => h
  | .str _, _, h => h
  | .ty _, _, h => h
  | .adr _, _, h => h
  | .ref _, _, ⟨a, h, e⟩ => ⟨a, g.at h, e⟩
  | .tup l, _, ⟨a, vs, e, h, r⟩ => ⟨a, vs, e, g.tup _ _ h, VRs.grow g l r⟩
  | .cl l, _, ⟨a, vs, e, h, r⟩ => ⟨a, vs, e, g.fz _ _ h, VRs.grow g l r⟩
theorem VRs.grow (g : Grow K ι H ι' H') : ∀ (l : List W) {vs : List V}, VRs K ι H l vs → VRs K ι' H' l vs
  | [], _, h => h
  | w :: l, _, ⟨v, r, e, h, t⟩ => ⟨v, r, e, VR.grow g w h, VRs.grow g l t⟩
end
theorem VRs.len : ∀ {l : List W} {vs : List V}, VRs K ι H l vs → vs.length = l.length
  | [], _, h => by rw [h]; rfl
  | _ :: _, _, ⟨_, _, e, _, t⟩ => by rw [e, List.length_cons, List.length_cons, t.len]
theorem VRs.at : ∀ {l : List W} {vs : List V} {i : Nat} {w : W}, VRs K ι H l vs → l[i]? = some w → ∃ v, vs[i]? = some v ∧ VR K ι H w v
  | [], _, _, _, _, h => by simp at h
  | _ :: _, _, 0, _, ⟨v, _, e, h, _⟩, q => by
    cases q
    exact ⟨v, by rw [e]; rfl, h⟩
  | _ :: _, _, i + 1, w, ⟨_, _, e, _, t⟩, q => by
    obtain ⟨v, h1, h2⟩ := t.at (i := i) (w := w) q
    exact ⟨v, by rw [e]; exact h1, h2⟩
theorem VRs.at' {l : List W} {vs : List V} {i : Nat} {v : V} (r : VRs K ι H l vs) (h : vs[i]? = some v) : ∃ w, l[i]? = some w ∧ VR K ι H w v := by
  have hi := (List.getElem?_eq_some_iff.mp h).1
  rw [r.len] at hi
  obtain ⟨v', h1, h2⟩ := r.at (List.getElem?_eq_getElem hi)
  rw [h] at h1
  cases h1
  exact ⟨_, List.getElem?_eq_getElem hi, h2⟩
theorem VRs.app : ∀ {l m : List W} {vs us : List V}, VRs K ι H l vs → VRs K ι H m us → VRs K ι H (l ++ m) (vs ++ us)
  | [], _, _, _, h, k => by rw [h]; exact k
  | _ :: _, _, _, _, ⟨v, r, e, h, t⟩, k => ⟨v, r ++ _, by rw [e]; rfl, h, t.app k⟩
theorem VRs.one {w : W} {v : V} (h : VR K ι H w v) : VRs K ι H [w] [v] := ⟨v, [], rfl, h, rfl⟩
theorem VRs.set : ∀ {l : List W} {vs : List V} {w : W} {v : V} (i : Nat), VRs K ι H l vs → VR K ι H w v → VRs K ι H (l.set i w) (vs.set i v)
  | [], _, _, _, _, h, _ => by rw [h]; rfl
  | _ :: _, _, _, v, 0, ⟨_, r, e, _, t⟩, k => by rw [e]; exact ⟨v, r, rfl, k, t⟩
  | _ :: _, _, _, _, i + 1, ⟨u, r, e, h, t⟩, k => by rw [e]; exact ⟨u, r.set i _, rfl, h, t.set i k⟩
theorem VRs.take : ∀ {l : List W} {vs : List V} (i : Nat), VRs K ι H l vs → VRs K ι H (l.take i) (vs.take i)
  | [], _, _, h => by rw [h, List.take_nil, List.take_nil]; rfl
  | _ :: _, _, 0, _ => rfl
  | _ :: _, _, i + 1, ⟨u, r, e, h, t⟩ => by rw [e]; exact ⟨u, r.take i, rfl, h, t.take i⟩
theorem VRs.drop : ∀ {l : List W} {vs : List V} (i : Nat), VRs K ι H l vs → VRs K ι H (l.drop i) (vs.drop i)
  | [], _, _, h => by rw [h, List.drop_nil, List.drop_nil]; rfl
  | _ :: _, _, 0, k => k
  | _ :: _, _, i + 1, ⟨_, r, e, _, t⟩ => by rw [e]; exact t.drop i
theorem VRs.dropLast {l : List W} {vs : List V} (h : VRs K ι H l vs) : VRs K ι H l.dropLast vs.dropLast := by
  rw [List.dropLast_eq_take, List.dropLast_eq_take, h.len]
  exact h.take _
theorem VRs.erase {l : List W} {vs : List V} (i : Nat) (h : VRs K ι H l vs) : VRs K ι H (l.eraseIdx i) (vs.eraseIdx i) := by
  rw [List.eraseIdx_eq_take_drop_succ, List.eraseIdx_eq_take_drop_succ]
  exact (h.take _).app (h.drop _)
theorem VRs.ofMem : ∀ {l : List W} {vs : List V} {v : V}, VRs K ι H l vs → v ∈ vs → ∃ w ∈ l, VR K ι H w v := by
  intro l vs v r h
  obtain ⟨i, hi⟩ := List.getElem?_of_mem h
  obtain ⟨w, h1, h2⟩ := r.at' hi
  exact ⟨w, List.mem_of_getElem? h1, h2⟩
end
/-- what an object of the store is in the heap -/
def OR (K : PySem.W.Frag) (ι : List Addr) (H : Hp) (a : Addr) : O → Prop
  | .lst l => ∃ vs, H a = some (.lst vs) ∧ VRs K ι H l vs
  | .dK l => ∃ kvs, H a = some (.dK kvs) ∧ kvs.map (·.1) = l.map (·.1) ∧ VRs K ι H (l.map (·.2)) (kvs.map (·.2))
  | .dT l => ∃ kvs, H a = some (.dT kvs) ∧ kvs.map (·.1) = l.map (·.1) ∧ VRs K ι H (l.map (·.2)) (kvs.map (·.2))
  | .fK l => ∃ o kvs, H a = some (.frz o (.dK kvs)) ∧ kvs.map (·.1) = l.map (·.1) ∧ VRs K ι H (l.map (·.2)) (kvs.map (·.2))
  | .ins C fs => ∃ dx gs, H a = some (.ins C dx gs) ∧ gs.map (·.1) = fs.map (·.1) ∧ VRs K ι H (fs.map (·.2)) (gs.map (·.2))
structure Sim (K : PySem.W.Frag) (Tb : List Addr) (ι : List Addr) (S : Store) (H : Hp) : Prop where
  len : ι.length = S.length
  nd : ι.Nodup
  obj : ∀ (n : Nat) (o : O), S[n]? = some o → ∃ a, ι[n]? = some a ∧ OR K ι H a o
  tab : ∀ T ∈ Tb, GxR.TabG H T
section
variable {K : PySem.W.Frag} {Tb : List Addr} {ι ι' : List Addr} {S : Store} {H H' : Hp}
theorem OR.stands {a : Addr} {o : O} (h : OR K ι H a o) : ∃ u, H a = some u ∧ (∀ ps, u ≠ .tbl ps) ∧ ∀ xs, u ≠ .tup xs := by
  cases o with
  | lst l => obtain ⟨vs, e, _⟩ := h; exact ⟨_, e, (fun _ z => by cases z), fun _ z => by cases z⟩
  | dK l => obtain ⟨vs, e, _⟩ := h; exact ⟨_, e, (fun _ z => by cases z), fun _ z => by cases z⟩
  | dT l => obtain ⟨vs, e, _⟩ := h; exact ⟨_, e, (fun _ z => by cases z), fun _ z => by cases z⟩
  | fK l => obtain ⟨o, vs, e, _⟩ := h; exact ⟨_, e, (fun _ z => by cases z), fun _ z => by cases z⟩
  | ins C fs => obtain ⟨dx, gs, e, _⟩ := h; exact ⟨_, e, (fun _ z => by cases z), fun _ z => by cases z⟩
theorem Sim.there (s : Sim K Tb ι S H) {n : Nat} {a : Addr} (h : ι[n]? = some a) : ∃ o, S[n]? = some o ∧ OR K ι H a o := by
  have hi := (List.getElem?_eq_some_iff.mp h).1
  rw [s.len] at hi
  obtain ⟨b, h1, h2⟩ := s.obj n _ (List.getElem?_eq_getElem hi)
  rw [h] at h1
  cases h1
  exact ⟨_, List.getElem?_eq_getElem hi, h2⟩
theorem Sim.stands (s : Sim K Tb ι S H) {a : Addr} (h : a ∈ ι) : ∃ u, H a = some u ∧ (∀ ps, u ≠ .tbl ps) ∧ ∀ xs, u ≠ .tup xs := by
  obtain ⟨n, hn⟩ := List.getElem?_of_mem h
  obtain ⟨o, _, r⟩ := s.there hn
  exact r.stands
/-- an object of the store keeps while its own place and all tuples do -/
theorem OR.keep {a : Addr} {o : O} (g : Grow K ι H ι' H') (h : OR K ι H a o) (e : H' a = H a) : OR K ι' H' a o := by
  cases o with
  | lst l => obtain ⟨vs, e1, r⟩ := h; exact ⟨vs, e.trans e1, VRs.grow g _ r⟩
  | dK l => obtain ⟨vs, e1, k, r⟩ := h; exact ⟨vs, e.trans e1, k, VRs.grow g _ r⟩
  | dT l => obtain ⟨vs, e1, k, r⟩ := h; exact ⟨vs, e.trans e1, k, VRs.grow g _ r⟩
  | fK l => obtain ⟨ob, vs, e1, k, r⟩ := h; exact ⟨ob, vs, e.trans e1, k, VRs.grow g _ r⟩
  | ins C fs => obtain ⟨dx, gs, e1, k, r⟩ := h; exact ⟨dx, gs, e.trans e1, k, VRs.grow g _ r⟩
/-- all that stood stands -/
theorem Grow.same (h : Same H H') : Grow K ι H ι H' := ⟨⟨[], by simp⟩, fun a xs q => by
  rcases q with (q | ⟨o, q⟩) | q
  · exact .inl (.inl (h _ _ q))
  · exact .inl (.inr ⟨o, h _ _ q⟩)
  · exact .inr q, fun a xs q => by
  rcases q with ⟨o, q⟩ | q
  · exact .inl ⟨o, h _ _ q⟩
  · exact .inr q⟩
theorem Sim.same (s : Sim K Tb ι S H) (h : Same H H') : Sim K Tb ι S H' :=
  ⟨s.len, s.nd, fun n o e => by
    obtain ⟨a, h1, r⟩ := s.obj n o e
    obtain ⟨u, hu, _⟩ := r.stands
    exact ⟨a, h1, r.keep (Grow.same h) (by rw [hu]; exact h _ _ hu)⟩, fun T hT => by
    obtain ⟨ps, h1, h2⟩ := s.tab T hT
    exact ⟨ps, h _ _ h1, h2⟩⟩
/-- a table has grown -/
theorem Grow.tab {T : Addr} (t : GxR.TabG H T) (h : ∀ b, b ≠ T → H' b = H b) : Grow K ι H ι H' := by
  obtain ⟨ps, hT, _⟩ := t
  have ne : ∀ b u, H b = some u → (∀ q, u ≠ .tbl q) → b ≠ T := fun b u e n z => by
    rw [z, hT] at e
    exact n _ (Option.some.inj e).symm
  refine ⟨⟨[], by simp⟩, fun a xs q => ?_, fun a xs q => ?_⟩
  · rcases q with (q | ⟨o, q⟩) | q
    · exact .inl (.inl (by rw [h _ (ne _ _ q fun _ z => by cases z)]; exact q))
    · exact .inl (.inr ⟨o, by rw [h _ (ne _ _ q fun _ z => by cases z)]; exact q⟩)
    · exact .inr q
  · rcases q with ⟨o, q⟩ | q
    · exact .inl ⟨o, by rw [h _ (ne _ _ q fun _ z => by cases z)]; exact q⟩
    · exact .inr q
theorem Sim.tabbed {T : Addr} (s : Sim K Tb ι S H) (hT : T ∈ Tb) (h : GxR.Tabbed T H H') : Sim K Tb ι S H' ∧ Grow K ι H ι H' := by
  have g : Grow K ι H ι H' := Grow.tab (s.tab T hT) h.2
  refine ⟨⟨s.len, s.nd, fun n o e => ?_, fun T' hT' => ?_⟩, g⟩
  · obtain ⟨a, h1, r⟩ := s.obj n o e
    obtain ⟨u, hu, nt, _⟩ := r.stands
    refine ⟨a, h1, r.keep g (h.2 a fun z => ?_)⟩
    obtain ⟨ps, q, _⟩ := s.tab T hT
    rw [z, q] at hu
    exact nt _ (Option.some.inj hu).symm
  · by_cases z : T' = T
    · rw [z]
      exact h.1
    · obtain ⟨ps, q1, q2⟩ := s.tab T' hT'
      exact ⟨ps, by rw [h.2 _ z]; exact q1, q2⟩
theorem Sim.fresh (s : Sim K Tb ι S H) {p : Addr} (h : H p = none) : p ∉ ι := fun z => by
  obtain ⟨u, hu, _⟩ := s.stands z
  rw [h] at hu
  cases hu
/-- a new object -/
theorem Sim.new (s : Sim K Tb ι S H) {p : Addr} {u : HO} {o : O} (h : H p = none) (r : ∀ ι' H', Grow K ι H ι' H' → H' p = some u → OR K ι' H' p o) :
    Sim K Tb (ι ++ [p]) (S ++ [o]) (upd H p u) ∧ Grow K ι H (ι ++ [p]) (upd H p u) := by
  have g1 : Grow K ι H ι (upd H p u) := Grow.same (same_upd h)
  have g : Grow K ι H (ι ++ [p]) (upd H p u) := ⟨⟨[p], rfl⟩, g1.tup, g1.fz⟩
  refine ⟨⟨by simp [s.len], ?_, fun n o' e => ?_, fun T hT => ?_⟩, g⟩
  · refine List.nodup_append.mpr ⟨s.nd, by simp, fun a ha b hb => ?_⟩
    rw [List.mem_singleton.mp hb]
    intro z
    rw [z] at ha
    exact s.fresh h ha
  · by_cases hn : n < S.length
    · rw [List.getElem?_append_left hn] at e
      obtain ⟨a, h1, q⟩ := s.obj n o' e
      refine ⟨a, g.at h1, q.keep g (upd_ne fun z => ?_)⟩
      obtain ⟨w, hw, _⟩ := q.stands
      rw [z, h] at hw
      cases hw
    · have hn' : n = S.length := by
        have := (List.getElem?_eq_some_iff.mp e).1
        rw [List.length_append, List.length_singleton] at this
        omega
      subst hn'
      rw [List.getElem?_append_right (Nat.le_refl _), Nat.sub_self] at e
      cases e
      refine ⟨p, ?_, r _ _ g upd_same⟩
      rw [← s.len, List.getElem?_append_right (Nat.le_refl _), Nat.sub_self]
      rfl
  · obtain ⟨ps, q1, q2⟩ := s.tab T hT
    exact ⟨ps, by rw [upd_ne (ne_of_none q1 h)]; exact q1, q2⟩
/-- a new tuple (of no number) -/
theorem Sim.tup (s : Sim K Tb ι S H) {p : Addr} {xs : List V} (h : H p = none) : Sim K Tb ι S (upd H p (.tup xs)) ∧ Grow K ι H ι (upd H p (.tup xs)) :=
  ⟨s.same (same_upd h), Grow.same (same_upd h)⟩
/-- an object is changed -/
theorem Sim.set (s : Sim K Tb ι S H) {n : Nat} {p : Addr} {u : HO} {o : O} (hn : ι[n]? = some p) (nz : ∀ ob v, H p ≠ some (.frz ob v)) (r : ∀ H', Grow K ι H ι H' → H' p = some u → OR K ι H' p o) :
    Sim K Tb ι (S.set n o) (upd H p u) ∧ Grow K ι H ι (upd H p u) := by
  obtain ⟨w, hw, nt, np⟩ := s.stands (List.mem_of_getElem? hn)
  have g : Grow K ι H ι (upd H p u) := by
    refine ⟨⟨[], by simp⟩, fun a xs q => ?_, fun a xs q => ?_⟩
    · rcases q with (q | ⟨o, q⟩) | q
      · refine .inl (.inl ?_)
        rw [upd_ne fun z => ?_]
        · exact q
        · rw [z, hw] at q
          exact np _ (Option.some.inj q)
      · refine .inl (.inr ⟨o, ?_⟩)
        rw [upd_ne fun z => nz _ _ (z ▸ q)]
        exact q
      · exact .inr q
    · rcases q with ⟨o, q⟩ | q
      · refine .inl ⟨o, ?_⟩
        rw [upd_ne fun z => nz _ _ (z ▸ q)]
        exact q
      · exact .inr q
  refine ⟨⟨by simp [s.len], s.nd, fun m o' e => ?_, fun T hT => ?_⟩, g⟩
  · by_cases hm : m = n
    · subst hm
      rw [List.getElem?_set_self (by rw [← s.len]; exact (List.getElem?_eq_some_iff.mp hn).1)] at e
      cases e
      exact ⟨p, hn, r _ g upd_same⟩
    · rw [List.getElem?_set_ne (Ne.symm hm)] at e
      obtain ⟨a, h1, q⟩ := s.obj m o' e
      refine ⟨a, h1, q.keep g (upd_ne fun z => hm ?_)⟩
      subst z
      obtain ⟨i1, e1⟩ := List.getElem?_eq_some_iff.mp h1
      obtain ⟨i2, e2⟩ := List.getElem?_eq_some_iff.mp hn
      exact (List.getElem_inj s.nd).mp (e1.trans e2.symm)
  · obtain ⟨ps, q1, q2⟩ := s.tab T hT
    refine ⟨ps, ?_, q2⟩
    rw [upd_ne fun z => ?_]
    · exact q1
    · rw [z, hw] at q1
      exact nt _ (Option.some.inj q1)
end
end Ev

set_option Elab.async false
set_option linter.all false
set_option maxRecDepth 100000
set_option maxHeartbeats 4000000
/-! Readings over the store, lifted; names, operators, calls, statements. -/
namespace Ev
open PySem PySem.Spec PyProof.Rows L2 Ow
abbrev WK := W → Store → Prop
abbrev ME := EvS → Store → WK → Prop
abbrev MA := EvS → Store → (List W → Store → Prop) → Prop
abbrev MT := EvS → Store → (Bool → Store → Prop) → Prop
structure MD where
  nx : EvS → Store → Prop
  rt : WK
  bk : EvS → Store → Prop := fun _ _ => False
  ct : EvS → Store → Prop := fun _ _ => False
abbrev MS := MD → EvS → Store → Prop
abbrev MG := W → EvS → Store → (EvS → Store → Prop) → Prop
structure MD.le (D D' : MD) : Prop where
  nx : ∀ e S, D.nx e S → D'.nx e S
  rt : ∀ w S, D.rt w S → D'.rt w S
  bk : ∀ e S, D.bk e S → D'.bk e S
  ct : ∀ e S, D.ct e S → D'.ct e S
theorem MD.le.refl {D : MD} : MD.le D D := ⟨fun _ _ h => h, fun _ _ h => h, fun _ _ h => h, fun _ _ h => h⟩
structure ER (K : PySem.W.Frag) (ι : List Addr) (H : Hp) (env : EvS) (σ : L2.St) : Prop where
  len : env.length = σ.length
  at_ : ∀ (i : Nat) (w : W), env[i]? = some (some w) → ∃ v, σ[i]? = some (some v) ∧ VR K ι H w v
section
variable {K : PySem.W.Frag} {ι ι' : List Addr} {H H' : Hp} {env : EvS} {σ : L2.St}
theorem ER.grow (g : Grow K ι H ι' H') (r : ER K ι H env σ) : ER K ι' H' env σ :=
  ⟨r.len, fun i w h => let ⟨v, h1, h2⟩ := r.at_ i w h; ⟨v, h1, VR.grow g w h2⟩⟩
theorem ER.set (r : ER K ι H env σ) {w : W} {v : V} (i : Nat) (h : VR K ι H w v) : ER K ι H (env.set i (some w)) (σ.set i (some v)) := by
  refine ⟨by simp [r.len], fun j u e => ?_⟩
  by_cases hj : i = j
  · subst hj
    by_cases hi : i < env.length
    · rw [List.getElem?_set_self hi] at e
      cases e
      exact ⟨v, List.getElem?_set_self (by rw [← r.len]; exact hi), h⟩
    · rw [List.getElem?_eq_none (by rw [List.length_set]; omega)] at e
      cases e
  · rw [List.getElem?_set_ne hj] at e
    obtain ⟨x, h1, h2⟩ := r.at_ j u e
    exact ⟨x, by rw [List.getElem?_set_ne hj]; exact h1, h2⟩
end
/-- the value in slot i -/
def lk : EvS → Nat → Option W
  | [], _ => none
  | x :: _, 0 => x
  | _ :: r, i + 1 => lk r i
theorem lk_at : ∀ {env : EvS} {i : Nat} {w : W}, lk env i = some w → env[i]? = some (some w)
  | [], _, _, h => by cases h
  | x :: _, 0, w, h => by
    have e : x = some w := h
    rw [e]
    rfl
  | _ :: r, i + 1, w, h => by
    have := lk_at (env := r) (i := i) (w := w) h
    rw [List.getElem?_cons_succ]
    exact this
section
variable (K : PySem.W.Frag) (Tb : List Addr)
def LE (m : ME) : TE := fun σ H Q => ∃ ι env S, Sim K Tb ι S H ∧ ER K ι H env σ ∧ m env S fun w S' => ∀ ι' H' v, Sim K Tb ι' S' H' → Grow K ι H ι' H' → VR K ι' H' w v → Q v H'
def LA (m : MA) : TA := fun σ H Q => ∃ ι env S, Sim K Tb ι S H ∧ ER K ι H env σ ∧ m env S fun ws S' => ∀ ι' H' vs, Sim K Tb ι' S' H' → Grow K ι H ι' H' → VRs K ι' H' ws vs → Q vs H'
def LT (m : MT) : L2.TT := fun σ H Q => ∃ ι env S, Sim K Tb ι S H ∧ ER K ι H env σ ∧ m env S fun b S' => ∀ ι' H', Sim K Tb ι' S' H' → Grow K ι H ι' H' → Q b H'
/-- the ends, seen from the store -/
def dn (ι : List Addr) (H : Hp) (D : Ends) : MD where
  nx := fun e S => ∀ ι' H' σ', Sim K Tb ι' S H' → Grow K ι H ι' H' → ER K ι' H' e σ' → D.nx σ' H'
  rt := fun w S => ∀ ι' H' v, Sim K Tb ι' S H' → Grow K ι H ι' H' → VR K ι' H' w v → D.rt v H'
  bk := fun e S => ∀ ι' H' σ', Sim K Tb ι' S H' → Grow K ι H ι' H' → ER K ι' H' e σ' → D.bk σ' H'
  ct := fun e S => ∀ ι' H' σ', Sim K Tb ι' S H' → Grow K ι H ι' H' → ER K ι' H' e σ' → D.ct σ' H'
def LS (m : MS) : TS := fun D σ H => ∃ ι env S, Sim K Tb ι S H ∧ ER K ι H env σ ∧ m (dn K Tb ι H D) env S
def LG (m : MG) : TG := fun v σ H Q => ∃ ι env S w, Sim K Tb ι S H ∧ ER K ι H env σ ∧ VR K ι H w v ∧ m w env S fun e S' => ∀ ι' H' σ', Sim K Tb ι' S' H' → Grow K ι H ι' H' → ER K ι' H' e σ' → Q σ' H'
def LGs (m : List W → EvS → Store → (EvS → Store → Prop) → Prop) : TGs := fun vs σ H Q => ∃ ι env S ws, Sim K Tb ι S H ∧ ER K ι H env σ ∧ VRs K ι H ws vs ∧ m ws env S fun e S' => ∀ ι' H' σ', Sim K Tb ι' S' H' → Grow K ι H ι' H' → ER K ι' H' e σ' → Q σ' H'
end
theorem dn_le {K : PySem.W.Frag} {Tb : List Addr} {ι ι' : List Addr} {H H' : Hp} {D : Ends} (g : Grow K ι H ι' H') : MD.le (dn K Tb ι H D) (dn K Tb ι' H' D) :=
  ⟨fun e S h ι2 H2 σ2 s g2 r => h ι2 H2 σ2 s (g.trans g2) r, fun e S h ι2 H2 σ2 s g2 r => h ι2 H2 σ2 s (g.trans g2) r, fun e S h ι2 H2 σ2 s g2 r => h ι2 H2 σ2 s (g.trans g2) r, fun e S h ι2 H2 σ2 s g2 r => h ι2 H2 σ2 s (g.trans g2) r⟩
abbrev MonoE (m : ME) : Prop := ∀ (env : EvS) (S : Store) (Q Q' : WK), (∀ w S', Q w S' → Q' w S') → m env S Q → m env S Q'
structure EE (X : Cx) (Tb : List Addr) (e : Expr) (m : ME) : Prop where
  pe : PE X e (LE X.K Tb m)
  mono : MonoE m
structure EA (X : Cx) (Tb : List Addr) (es : List Expr) (m : MA) : Prop where
  pa : PA X es (LA X.K Tb m)
  mono : ∀ (env : EvS) (S : Store) (Q Q' : List W → Store → Prop), (∀ w S', Q w S' → Q' w S') → m env S Q → m env S Q'
structure ET (X : Cx) (Tb : List Addr) (e : Expr) (m : MT) : Prop where
  pt : PT X e (LT X.K Tb m)
  mono : ∀ (env : EvS) (S : Store) (Q Q' : Bool → Store → Prop), (∀ w S', Q w S' → Q' w S') → m env S Q → m env S Q'
structure EW (X : Cx) (Tb : List Addr) (e : Expr) (m : MT) : Prop where
  pw : PW X e (LT X.K Tb m)
  mono : ∀ (env : EvS) (S : Store) (Q Q' : Bool → Store → Prop), (∀ w S', Q w S' → Q' w S') → m env S Q → m env S Q'
structure ES (X : Cx) (Tb : List Addr) (st : Stmt) (m : MS) : Prop where
  ps : PS X st (LS X.K Tb m)
  mono : ∀ (D D' : MD) (env : EvS) (S : Store), MD.le D D' → m D env S → m D' env S
structure ESs (X : Cx) (Tb : List Addr) (st : List Stmt) (m : MS) : Prop where
  ps : PSs X st (LS X.K Tb m)
  mono : ∀ (D D' : MD) (env : EvS) (S : Store), MD.le D D' → m D env S → m D' env S
structure EG (X : Cx) (Tb : List Addr) (e : Expr) (m : MG) : Prop where
  pg : PG X e (LG X.K Tb m)
  mono : ∀ (w : W) (env : EvS) (S : Store) (Q Q' : EvS → Store → Prop), (∀ e S', Q e S' → Q' e S') → m w env S Q → m w env S Q'
structure EGs (X : Cx) (Tb : List Addr) (e : List Expr) (m : List W → EvS → Store → (EvS → Store → Prop) → Prop) : Prop where
  pg : PGs X e (LGs X.K Tb m)
  mono : ∀ (w : List W) (env : EvS) (S : Store) (Q Q' : EvS → Store → Prop), (∀ e S', Q e S' → Q' e S') → m w env S Q → m w env S Q'
section
variable {X : Cx} {Tb : List Addr} {e a b : Expr} {t t' : TE}
theorem pe_imp (h : PE X e t) (k : ∀ σ H Q, t' σ H Q → t σ H Q) : PE X e t' := ⟨fun pins s σ H Q I q => h.run pins s σ H Q I (k σ H Q q)⟩
theorem pa_imp {es : List Expr} {t t' : TA} (h : PA X es t) (k : ∀ σ H Q, t' σ H Q → t σ H Q) : PA X es t' := ⟨fun pos pins s σ H Q I q => h.run pos pins s σ H Q I (k σ H Q q)⟩
theorem pt_imp {t t' : L2.TT} (h : PT X e t) (k : ∀ σ H Q, t' σ H Q → t σ H Q) : PT X e t' := ⟨fun pins s σ H Q I q => h.run pins s σ H Q I (k σ H Q q)⟩
theorem pw_imp {t t' : L2.TT} (h : PW X e t) (k : ∀ σ H Q, t' σ H Q → t σ H Q) : PW X e t' := ⟨fun wh pins s σ H Q I q => h.run wh pins s σ H Q I (k σ H Q q)⟩
theorem ps_imp {st : Stmt} {t t' : TS} (h : PS X st t) (k : ∀ D σ H, t' D σ H → t D σ H) : PS X st t' := ⟨fun pins s σ H D I q => h.run pins s σ H D I (k D σ H q)⟩
theorem pss_imp {st : List Stmt} {t t' : TS} (h : PSs X st t) (k : ∀ D σ H, t' D σ H → t D σ H) : PSs X st t' := ⟨fun pins s σ H D I q => h.run pins s σ H D I (k D σ H q)⟩
theorem pg_imp {t t' : TG} (h : PG X e t) (k : ∀ v σ H Q, t' v σ H Q → t v σ H Q) : PG X e t' := ⟨fun pins s σ H v u Q I r q => h.run pins s σ H v u Q I r (k v σ H Q q)⟩
theorem pgs_imp {es : List Expr} {t t' : TGs} (h : PGs X es t) (k : ∀ v σ H Q, t' v σ H Q → t v σ H Q) : PGs X es t' := ⟨fun pins s σ H v u Q I r q => h.run pins s σ H v u Q I r (k v σ H Q q)⟩
/-! ### names, constants -/
def mVar (i : Nat) : ME := fun env S Q => match lk env i with
  | some w => Q w S
  | none => False
def mC (w : W) : ME := fun _ S Q => Q w S
theorem e_var {i : Nat} {x : Str} {pos : Pos} (hN : X.N[i]? = some x := by rfl) (hv : Vis X.env.scope x := by first | exact Or.inl rfl | exact Or.inr (Or.inl rfl) | exact Or.inr (Or.inr rfl)) (hd : (x == ("__debug__" : Str)) = false := by decide)
    (hcd : (x == ("__classdict__" : Str)) = false := by decide) : EE X Tb (.Name x pos) (mVar i) := by
  refine ⟨pe_imp (pe_var hN hv hd hcd) fun σ H Q h => ?_, fun env S Q Q' k h => ?_⟩
  · obtain ⟨ι, env, S, s, r, h⟩ := h
    unfold mVar at h
    cases e : lk env i with
    | none => rw [e] at h; exact h.elim
    | some w =>
      rw [e] at h
      obtain ⟨v, h1, h2⟩ := r.at_ i w (lk_at e)
      exact ⟨v, h1, h ι H v s Grow.refl h2⟩
  · unfold mVar at h ⊢
    cases e : lk env i with
    | none => rw [e] at h; exact h.elim
    | some w =>
      rw [e] at h
      exact k _ _ h
theorem e_c {w : W} {v : V} (h : PE X e (tC v)) (r : ∀ ι H, VR X.K ι H w v) : EE X Tb e (mC w) :=
  ⟨pe_imp h fun σ H Q ⟨ι, env, S, s, _, q⟩ => q ι H v s Grow.refl (r ι H), fun _ _ _ _ k h => k _ _ h⟩
theorem e_int {i j pos} : EE X Tb (.Constant (.int i) j pos) (mC (.int i)) := e_c pe_int fun _ _ => rfl
theorem e_bl {b j pos} : EE X Tb (.Constant (.bool b) j pos) (mC (.bl b)) := e_c pe_bl fun _ _ => rfl
theorem e_non {j pos} : EE X Tb (.Constant .none j pos) (mC .non) := e_c pe_non fun _ _ => rfl
theorem e_str {x j pos} : EE X Tb (.Constant (.str x) j pos) (mC (.str x)) := e_c pe_str fun _ _ => rfl
/-- a module's int -/
theorem e_gint {x : Str} {i : Int} {pos : Pos} (hg : Gl X x) (hm : ∃ t, X.mg x = some (.int i t)) (hd : (x == ("__debug__" : Str)) = false := by decide) : EE X Tb (.Name x pos) (mC (.int i)) :=
  let ⟨t, e⟩ := hm; e_c (v := .int i) (pe_glob hg e ⟨t, rfl⟩ hd) fun _ _ => rfl
/-- a module's object (a dict, a def) -/
theorem e_gadr {x : Str} {a : Addr} {pos : Pos} (hg : Gl X x) (hm : X.mg x = some (.ref a)) (hd : (x == ("__debug__" : Str)) = false := by decide) : EE X Tb (.Name x pos) (mC (.adr a)) :=
  e_c (v := .ref a) (pe_glob hg hm rfl hd) fun _ _ => rfl
/-- a built-in class as a value -/
theorem e_ty {x : Str} {n : String} {pos : Pos} (hg : Gl X x) (hm : X.mg x = none) (hv : bootBuiltins x = some (.type n) := by decide +kernel) (hn : x ≠ "__name__" := by decide) (hd : (x == ("__debug__" : Str)) = false := by decide) : EE X Tb (.Name x pos) (mC (.ty n)) :=
  e_c (pe_bltn (v := .ty n) hg hm hv rfl hn hd) fun _ _ => rfl
/-! ### two values -/
abbrev R2W := W → W → Store → WK → Prop
abbrev MonoO (op : R2W) : Prop := ∀ (x y : W) (S : Store) (Q Q' : WK), (∀ w S', Q w S' → Q' w S') → op x y S Q → op x y S Q'
/-- the operator's reading r is met by op -/
def RL (K : PySem.W.Frag) (Tb : List Addr) (r : R2) (op : R2W) : Prop :=
  ∀ (ι : List Addr) (S : Store) (H : Hp) (w1 w2 : W) (v1 v2 : V) (Q : WK) (Qv : VK), Sim K Tb ι S H → VR K ι H w1 v1 → VR K ι H w2 v2 → op w1 w2 S Q →
    (∀ ι' S' H' w v, Q w S' → Sim K Tb ι' S' H' → Grow K ι H ι' H' → VR K ι' H' w v → Qv v H') → r v1 v2 H Qv
def mBin (op : R2W) (ma mb : ME) : ME := fun env S Q => ma env S fun x S1 => mb env S1 fun y S2 => op x y S2 Q
variable {ma mb mc : ME}
theorem mBin_mono {op : R2W} (mo : MonoO op) (ha : MonoE ma) (hb : MonoE mb) : MonoE (mBin op ma mb) := fun env S Q Q' k h =>
  ha _ _ _ _ (fun x S1 h1 => hb _ _ _ _ (fun y S2 h2 => mo _ _ _ _ _ k h2) h1) h
theorem lift2 {r : R2} {op : R2W} (hr : RL X.K Tb r op) (mo : MonoO op) (ha : EE X Tb a ma) (hb : EE X Tb b mb) {σ : L2.St} {H : Hp} {Q : VK} (h : LE X.K Tb (mBin op ma mb) σ H Q) :
    tOp r (LE X.K Tb ma) (LE X.K Tb mb) σ H Q := by
  obtain ⟨ι, env, S, s, er, h⟩ := h
  refine ⟨ι, env, S, s, er, ha.mono _ _ _ _ (fun x S1 h1 => ?_) h⟩
  intro ι1 H1 v1 s1 g1 r1
  refine ⟨ι1, env, S1, s1, er.grow g1, hb.mono _ _ _ _ (fun y S2 h2 => ?_) h1⟩
  intro ι2 H2 v2 s2 g2 r2
  exact hr ι2 S2 H2 x y v1 v2 _ _ s2 (VR.grow g2 x r1) r2 h2 fun ι3 S3 H3 w v q s3 g3 r3 => q ι3 H3 v s3 ((g1.trans g2).trans g3) r3
theorem e_op {op' : Operator} {r : R2} {op : R2W} {pos : Pos} (ho : OpR X (binaryOp op') r) (hr : RL X.K Tb r op) (mo : MonoO op) (ha : EE X Tb a ma) (hb : EE X Tb b mb) : EE X Tb (.BinOp a op' b pos) (mBin op ma mb) :=
  ⟨pe_imp (pe_op ho ha.pe hb.pe) fun σ H Q h => lift2 hr mo ha hb h, mBin_mono mo ha.mono hb.mono⟩
theorem e_cmp {op' : CmpOp} {r : R2} {op : R2W} {pos : Pos} (ho : OpR X (compareOp op') r) (hr : RL X.K Tb r op) (mo : MonoO op) (ha : EE X Tb a ma) (hb : EE X Tb b mb) (hm : behindInMarks op' b = false := by first | exact nomark _ | rfl) : EE X Tb (.Compare a [op'] [b] pos) (mBin op ma mb) :=
  ⟨pe_imp (pe_cmpR ho ha.pe hb.pe hm) fun σ H Q h => lift2 hr mo ha hb h, mBin_mono mo ha.mono hb.mono⟩
/-- a bool, as a test -/
def mTest (m : ME) : MT := fun env S Q => m env S fun w S' => match w with
  | .bl b => Q b S'
  | _ => False
theorem mTest_mono {m : ME} (h : MonoE m) (env : EvS) (S : Store) (Q Q' : Bool → Store → Prop) (k : ∀ w S', Q w S' → Q' w S') (q : mTest m env S Q) : mTest m env S Q' :=
  h _ _ _ _ (fun w S' z => by
    cases w with
    | bl b => exact k _ _ z
    | _ => exact z.elim) q
theorem t_cmp {op' : CmpOp} {r : R2} {op : R2W} {pos : Pos} (ho : OpR X (compareOp op') r) (hr : RL X.K Tb r op) (mo : MonoO op) (ha : EE X Tb a ma) (hb : EE X Tb b mb) (hm : behindInMarks op' b = false := by first | exact nomark _ | rfl) : ET X Tb (.Compare a [op'] [b] pos) (mTest (mBin op ma mb)) := by
  refine ⟨pt_imp (pt_cmpR ho ha.pe hb.pe hm) fun σ H Q h => ?_, mTest_mono (mBin_mono mo ha.mono hb.mono)⟩
  refine lift2 hr mo ha hb ?_
  obtain ⟨ι, env, S, s, er, h⟩ := h
  refine ⟨ι, env, S, s, er, mBin_mono mo ha.mono hb.mono _ _ _ _ (fun w S' q ι' H' v s' g' r' => ?_) h⟩
  cases w with
  | bl c =>
    have e : v = .bl c := r'
    exact ⟨c, e, q ι' H' s' g'⟩
  | _ => exact q.elim
/-- a op b op c -/
def mChain (op op' : R2W) (ma mb mc : ME) : ME := fun env S Q => ma env S fun x S1 => mb env S1 fun y S2 => op x y S2 fun z S3 => match z with
  | .bl k => if k = true then mc env S3 fun u S4 => op' y u S4 Q else Q (.bl false) S3
  | _ => False
theorem mChain_mono {op op' : R2W} (mo : MonoO op) (mo' : MonoO op') (ha : MonoE ma) (hb : MonoE mb) (hc : MonoE mc) : MonoE (mChain op op' ma mb mc) := fun env S Q Q' k h =>
  ha _ _ _ _ (fun x S1 h1 => hb _ _ _ _ (fun y S2 h2 => mo _ _ _ _ _ (fun z S3 h3 => by
    cases z with
    | bl c =>
      cases c with
      | true => exact hc _ _ _ _ (fun u S4 h4 => mo' _ _ _ _ _ k h4) h3
      | false => exact k _ _ h3
    | _ => exact h3.elim) h2) h1) h
theorem lift_chain {r r' : R2} {op op' : R2W} (hr : RL X.K Tb r op) (hr' : RL X.K Tb r' op') (mo : MonoO op) (mo' : MonoO op') {c : Expr} (ha : EE X Tb a ma) (hb : EE X Tb b mb) (hc : EE X Tb c mc) {σ : L2.St} {H : Hp} {Q : VK} (h : LE X.K Tb (mChain op op' ma mb mc) σ H Q) :
    tChain r r' (LE X.K Tb ma) (LE X.K Tb mb) (LE X.K Tb mc) σ H Q := by
  obtain ⟨ι, env, S, s, er, h⟩ := h
  refine ⟨ι, env, S, s, er, ha.mono _ _ _ _ (fun x S1 h1 => ?_) h⟩
  intro ι1 H1 v1 s1 g1 r1
  refine ⟨ι1, env, S1, s1, er.grow g1, hb.mono _ _ _ _ (fun y S2 h2 => ?_) h1⟩
  intro ι2 H2 v2 s2 g2 r2
  refine hr ι2 S2 H2 x y v1 v2 _ _ s2 (VR.grow g2 x r1) r2 h2 fun ι3 S3 H3 w v q s3 g3 r3 => ?_
  cases w with
  | bl k =>
    have e : v = .bl k := r3
    refine ⟨k, e, ?_⟩
    cases k with
    | true =>
      refine iteT ⟨ι3, env, S3, s3, ((er.grow g1).grow g2).grow g3, hc.mono _ _ _ _ (fun u S4 h4 => ?_) q⟩
      intro ι4 H4 v4 s4 g4 r4
      exact hr' ι4 S4 H4 y u v2 v4 _ _ s4 (VR.grow g4 y (VR.grow g3 y r2)) r4 h4 fun ι5 S5 H5 w5 v5 q5 s5 g5 r5 => q5 ι5 H5 v5 s5 ((((g1.trans g2).trans g3).trans g4).trans g5) r5
    | false => exact iteF (q ι3 H3 _ s3 ((g1.trans g2).trans g3) rfl)
  | _ => exact q.elim
theorem t_chain {o o' : CmpOp} {r r' : R2} {op op' : R2W} {c : Expr} {pos : Pos} (ho : OpR X (compareOp o) r) (ho' : OpR X (compareOp o') r') (hr : RL X.K Tb r op) (hr' : RL X.K Tb r' op') (mo : MonoO op) (mo' : MonoO op') (ha : EE X Tb a ma) (hb : EE X Tb b mb) (hc : EE X Tb c mc)
    (hm : lastMarks [o, o'] [b, c] = false := by with_unfolding_all rfl) : ET X Tb (.Compare a [o, o'] [b, c] pos) (mTest (mChain op op' ma mb mc)) := by
  refine ⟨pt_imp (pt_chain ho ho' ha.pe hb.pe hc.pe hm) fun σ H Q h => ?_, mTest_mono (mChain_mono mo mo' ha.mono hb.mono hc.mono)⟩
  refine lift_chain hr hr' mo mo' ha hb hc ?_
  obtain ⟨ι, env, S, s, er, h⟩ := h
  refine ⟨ι, env, S, s, er, mChain_mono mo mo' ha.mono hb.mono hc.mono _ _ _ _ (fun w S' q ι' H' v s' g' r' => ?_) h⟩
  cases w with
  | bl c =>
    have e : v = .bl c := r'
    exact ⟨c, e, q ι' H' s' g'⟩
  | _ => exact q.elim
theorem e_chain {o o' : CmpOp} {r r' : R2} {op op' : R2W} {c : Expr} {pos : Pos} (ho : OpR X (compareOp o) r) (ho' : OpR X (compareOp o') r') (hr : RL X.K Tb r op) (hr' : RL X.K Tb r' op') (mo : MonoO op) (mo' : MonoO op') (ha : EE X Tb a ma) (hb : EE X Tb b mb) (hc : EE X Tb c mc)
    (hm : lastMarks [o, o'] [b, c] = false := by with_unfolding_all rfl) : EE X Tb (.Compare a [o, o'] [b, c] pos) (mChain op op' ma mb mc) :=
  ⟨pe_imp (pe_chain ho ho' ha.pe hb.pe hc.pe hm) fun σ H Q h => lift_chain hr hr' mo mo' ha hb hc h, mChain_mono mo mo' ha.mono hb.mono hc.mono⟩
/-! ### truth -/
def oTru (o : Option O) (S : Store) (Q : Bool → Store → Prop) : Prop := match o with
  | some (.lst l) => Q (!l.isEmpty) S
  | some (.dK l) => Q (!l.isEmpty) S
  | _ => False
def wTru (w : W) (S : Store) (Q : Bool → Store → Prop) : Prop := match w with
  | .non => Q false S
  | .bl b => Q b S
  | .int i => Q (i != 0) S
  | .str x => x.length ≤ sizeLine ∧ Q ((x.length : Int) != 0) S
  | .tup l => Q (!l.isEmpty) S
  | .cl l => Q (!l.isEmpty) S
  | .ref n => oTru S[n]? S Q
  | _ => False
theorem empty_len {α β : Type} {l : List α} {m : List β} (h : l.length = m.length) : l.isEmpty = m.isEmpty := by
  cases l <;> cases m <;> first | rfl | cases h
def mTru (m : ME) : MT := fun env S Q => m env S fun w S' => wTru w S' Q
theorem wTru_mono {w : W} {S : Store} {Q Q' : Bool → Store → Prop} (k : ∀ w S', Q w S' → Q' w S') (h : wTru w S Q) : wTru w S Q' := by
  cases w with
  | non => exact k _ _ h
  | bl b => exact k _ _ h
  | int b => exact k _ _ h
  | str x => exact ⟨h.1, k _ _ h.2⟩
  | tup l => exact k _ _ h
  | cl l => exact k _ _ h
  | ref n =>
    have h : oTru S[n]? S Q := h
    show oTru S[n]? S Q'
    cases e : S[n]? with
    | none => rw [e] at h; exact h.elim
    | some o =>
      rw [e] at h
      cases o with
      | lst l => exact k _ _ h
      | dK l => exact k _ _ h
      | _ => exact h.elim
  | adr a => exact h.elim
  | ty n => exact h.elim
theorem truOk {K : PySem.W.Frag} {Tb ι : List Addr} {S : Store} {H : Hp} {w : W} {v : V} {Q : Bool → Store → Prop} (s : Sim K Tb ι S H) (r : VR K ι H w v) (h : wTru w S Q) : ∃ k, TruV K v H k ∧ Q k S := by
  cases w with
  | non => obtain rfl : v = .non := r; exact ⟨_, rfl, h⟩
  | bl b => obtain rfl : v = .bl b := r; exact ⟨_, rfl, h⟩
  | int b => obtain rfl : v = .int b := r; exact ⟨_, rfl, h⟩
  | str x => obtain rfl : v = .str x := r; exact ⟨_, ⟨h.1, rfl⟩, h.2⟩
  | tup l =>
    obtain ⟨a, vs, rfl, q, z⟩ := r
    exact ⟨_, .inr (.inl ⟨vs, q, by rw [empty_len z.len]⟩), h⟩
  | cl l =>
    obtain ⟨a, vs, rfl, q, z⟩ := r
    exact ⟨_, .inl ⟨vs, q.sq, by rw [empty_len z.len]⟩, h⟩
  | ref n =>
    obtain ⟨a, ha, rfl⟩ := r
    have h : oTru S[n]? S Q := h
    obtain ⟨o, ho, q⟩ := s.there ha
    rw [ho] at h
    cases o with
    | lst l =>
      obtain ⟨vs, e, z⟩ := q
      exact ⟨_, .inl ⟨vs, SqL.of e, by rw [empty_len z.len]⟩, h⟩
    | dK l =>
      obtain ⟨kvs, e, z, _⟩ := q
      refine ⟨_, .inr (.inr ⟨kvs, e, ?_⟩), h⟩
      have := congrArg List.length z
      rw [List.length_map, List.length_map] at this
      rw [empty_len this]
    | dT l => exact h.elim
    | fK l => exact h.elim
    | ins C fs => exact h.elim
  | adr a => exact h.elim
  | ty n => exact h.elim
theorem t_truth {m : ME} (h : EE X Tb e m) (he : ∀ whole, isTrue e X.env whole = (do let v ← whole; standAt e.pos; holding [v] (truthy v)) := by intro _; rfl) : ET X Tb e (mTru m) := by
  refine ⟨pt_imp (pt_truth h.pe he) fun σ H Q q => ?_, fun env S Q Q' k q => h.mono _ _ _ _ (fun w S' z => wTru_mono k z) q⟩
  obtain ⟨ι, env, S, s, er, q⟩ := q
  refine ⟨ι, env, S, s, er, h.mono _ _ _ _ (fun w S' z ι' H' v s' g' r' => ?_) q⟩
  obtain ⟨k, h1, h2⟩ := truOk s' r' z
  exact ⟨k, h1, h2 ι' H' s' g'⟩
/-! ### and, or, not -/
def mAnd (x y : MT) : MT := fun env S Q => x env S fun c S1 => if c = true then y env S1 Q else Q false S1
def mOr (x y : MT) : MT := fun env S Q => x env S fun c S1 => if c = true then Q true S1 else y env S1 Q
def mNot (x : MT) : MT := fun env S Q => x env S fun c S1 => Q (!c) S1
variable {x y : MT} {rest : List Expr} {pos : Pos}
theorem w_and1 (ha : ET X Tb a x) : EW X Tb (.BoolOp .And [a] pos) x := ⟨pw_and1 ha.pt, ha.mono⟩
theorem w_or1 (ha : ET X Tb a x) : EW X Tb (.BoolOp .Or [a] pos) x := ⟨pw_or1 ha.pt, ha.mono⟩
theorem w_and (ha : ET X Tb a x) (hb : EW X Tb (.BoolOp .And (b :: rest) pos) y) : EW X Tb (.BoolOp .And (a :: b :: rest) pos) (mAnd x y) := by
  refine ⟨pw_imp (pw_and ha.pt hb.pw) fun σ H Q h => ?_, fun env S Q Q' k h => ha.mono _ _ _ _ (fun c S1 q => ?_) h⟩
  · obtain ⟨ι, env, S, s, er, h⟩ := h
    refine ⟨ι, env, S, s, er, ha.mono _ _ _ _ (fun c S1 q ι1 H1 s1 g1 => ?_) h⟩
    cases c with
    | true => exact iteT ⟨ι1, env, S1, s1, er.grow g1, hb.mono _ _ _ _ (fun d S2 q2 ι2 H2 s2 g2 => q2 ι2 H2 s2 (g1.trans g2)) q⟩
    | false => exact iteF (q ι1 H1 s1 g1)
  · cases c with
    | true => exact hb.mono _ _ _ _ k q
    | false => exact k _ _ q
theorem w_or (ha : ET X Tb a x) (hb : EW X Tb (.BoolOp .Or (b :: rest) pos) y) : EW X Tb (.BoolOp .Or (a :: b :: rest) pos) (mOr x y) := by
  refine ⟨pw_imp (pw_or ha.pt hb.pw) fun σ H Q h => ?_, fun env S Q Q' k h => ha.mono _ _ _ _ (fun c S1 q => ?_) h⟩
  · obtain ⟨ι, env, S, s, er, h⟩ := h
    refine ⟨ι, env, S, s, er, ha.mono _ _ _ _ (fun c S1 q ι1 H1 s1 g1 => ?_) h⟩
    cases c with
    | true => exact iteT (q ι1 H1 s1 g1)
    | false => exact iteF ⟨ι1, env, S1, s1, er.grow g1, hb.mono _ _ _ _ (fun d S2 q2 ι2 H2 s2 g2 => q2 ι2 H2 s2 (g1.trans g2)) q⟩
  · cases c with
    | true => exact k _ _ q
    | false => exact hb.mono _ _ _ _ k q
theorem w_t (h : EW X Tb e x) : ET X Tb e x := ⟨PW.pt h.pw, h.mono⟩
theorem t_not (ha : ET X Tb a x) : ET X Tb (.UnaryOp .Not a pos) (mNot x) :=
  ⟨pt_imp (pt_not ha.pt) fun σ H Q ⟨ι, env, S, s, er, h⟩ => ⟨ι, env, S, s, er, h⟩, fun env S Q Q' k h => ha.mono _ _ _ _ (fun c S1 q => k _ _ q) h⟩
/-- as values -/
def mAndV (ma mb : ME) : ME := fun env S Q => ma env S fun w S1 => match w with
  | .bl c => if c = true then mb env S1 Q else Q (.bl false) S1
  | _ => False
def mOrV (ma mb : ME) : ME := fun env S Q => ma env S fun w S1 => match w with
  | .bl c => if c = true then Q (.bl true) S1 else mb env S1 Q
  | _ => False
def mNotV (ma : ME) : ME := fun env S Q => ma env S fun w S1 => match w with
  | .bl c => Q (.bl (!c)) S1
  | _ => False
theorem e_one {op} (h : EE X Tb a ma) : EE X Tb (.BoolOp op [a] pos) ma := ⟨pe_one h.pe, h.mono⟩
theorem e_and (ha : EE X Tb a ma) (hb : EE X Tb (.BoolOp .And (b :: rest) pos) mb) : EE X Tb (.BoolOp .And (a :: b :: rest) pos) (mAndV ma mb) := by
  refine ⟨pe_imp (pe_and ha.pe hb.pe) fun σ H Q h => ?_, fun env S Q Q' k h => ha.mono _ _ _ _ (fun w S1 q => ?_) h⟩
  · obtain ⟨ι, env, S, s, er, h⟩ := h
    refine ⟨ι, env, S, s, er, ha.mono _ _ _ _ (fun w S1 q ι1 H1 v s1 g1 r1 => ?_) h⟩
    cases w with
    | bl c =>
      refine ⟨c, r1, ?_⟩
      cases c with
      | true => exact iteT ⟨ι1, env, S1, s1, er.grow g1, hb.mono _ _ _ _ (fun d S2 q2 ι2 H2 v2 s2 g2 r2 => q2 ι2 H2 v2 s2 (g1.trans g2) r2) q⟩
      | false => exact iteF (q ι1 H1 _ s1 g1 rfl)
    | _ => exact q.elim
  · cases w with
    | bl c =>
      cases c with
      | true => exact hb.mono _ _ _ _ k q
      | false => exact k _ _ q
    | _ => exact q.elim
theorem e_or (ha : EE X Tb a ma) (hb : EE X Tb (.BoolOp .Or (b :: rest) pos) mb) : EE X Tb (.BoolOp .Or (a :: b :: rest) pos) (mOrV ma mb) := by
  refine ⟨pe_imp (pe_or ha.pe hb.pe) fun σ H Q h => ?_, fun env S Q Q' k h => ha.mono _ _ _ _ (fun w S1 q => ?_) h⟩
  · obtain ⟨ι, env, S, s, er, h⟩ := h
    refine ⟨ι, env, S, s, er, ha.mono _ _ _ _ (fun w S1 q ι1 H1 v s1 g1 r1 => ?_) h⟩
    cases w with
    | bl c =>
      refine ⟨c, r1, ?_⟩
      cases c with
      | true => exact iteT (q ι1 H1 _ s1 g1 rfl)
      | false => exact iteF ⟨ι1, env, S1, s1, er.grow g1, hb.mono _ _ _ _ (fun d S2 q2 ι2 H2 v2 s2 g2 r2 => q2 ι2 H2 v2 s2 (g1.trans g2) r2) q⟩
    | _ => exact q.elim
  · cases w with
    | bl c =>
      cases c with
      | true => exact k _ _ q
      | false => exact hb.mono _ _ _ _ k q
    | _ => exact q.elim
theorem e_not (ha : EE X Tb a ma) : EE X Tb (.UnaryOp .Not a pos) (mNotV ma) := by
  refine ⟨pe_imp (pe_not ha.pe) fun σ H Q h => ?_, fun env S Q Q' k h => ha.mono _ _ _ _ (fun w S1 q => ?_) h⟩
  · obtain ⟨ι, env, S, s, er, h⟩ := h
    refine ⟨ι, env, S, s, er, ha.mono _ _ _ _ (fun w S1 q ι1 H1 v s1 g1 r1 => ?_) h⟩
    cases w with
    | bl c => exact ⟨c, r1, q ι1 H1 _ s1 g1 rfl⟩
    | _ => exact q.elim
  · cases w with
    | bl c => exact k _ _ q
    | _ => exact q.elim
/-- a if c else b -/
def mIf (c : MT) (ma mb : ME) : ME := fun env S Q => c env S fun k S1 => if k = true then ma env S1 Q else mb env S1 Q
theorem e_if {c : Expr} (hc : ET X Tb c x) (ha : EE X Tb a ma) (hb : EE X Tb b mb) : EE X Tb (.IfExp c a b pos) (mIf x ma mb) := by
  refine ⟨pe_imp (pe_ifExp hc.pt ha.pe hb.pe) fun σ H Q h => ?_, fun env S Q Q' k h => hc.mono _ _ _ _ (fun c S1 q => ?_) h⟩
  · obtain ⟨ι, env, S, s, er, h⟩ := h
    refine ⟨ι, env, S, s, er, hc.mono _ _ _ _ (fun c S1 q ι1 H1 s1 g1 => ?_) h⟩
    cases c with
    | true => exact iteT ⟨ι1, env, S1, s1, er.grow g1, ha.mono _ _ _ _ (fun d S2 q2 ι2 H2 v2 s2 g2 r2 => q2 ι2 H2 v2 s2 (g1.trans g2) r2) q⟩
    | false => exact iteF ⟨ι1, env, S1, s1, er.grow g1, hb.mono _ _ _ _ (fun d S2 q2 ι2 H2 v2 s2 g2 r2 => q2 ι2 H2 v2 s2 (g1.trans g2) r2) q⟩
  · cases c with
    | true => exact ha.mono _ _ _ _ k q
    | false => exact hb.mono _ _ _ _ k q
/-! ### lists of values, displays -/
def mNil : MA := fun _ S Q => Q [] S
def mCons (m : ME) (r : MA) : MA := fun env S Q => m env S fun w S1 => r env S1 fun ws S2 => Q (w :: ws) S2
variable {es : List Expr} {mr : MA} {m : ME}
theorem a_nil : EA X Tb [] mNil := ⟨pa_imp pa_nil fun σ H Q ⟨ι, env, S, s, er, h⟩ => h ι H [] s Grow.refl rfl, fun _ _ _ _ k h => k _ _ h⟩
theorem a_cons (ha : EE X Tb e m) (hr : EA X Tb es mr) (hs : starEach (e :: es) X.env = (false, eval e X.env) :: starEach es X.env := by rfl) : EA X Tb (e :: es) (mCons m mr) := by
  refine ⟨pa_imp (pa_cons ha.pe hr.pa hs) fun σ H Q h => ?_, fun env S Q Q' k h => ha.mono _ _ _ _ (fun w S1 q => hr.mono _ _ _ _ (fun ws S2 q2 => k _ _ q2) q) h⟩
  obtain ⟨ι, env, S, s, er, h⟩ := h
  refine ⟨ι, env, S, s, er, ha.mono _ _ _ _ (fun w S1 q ι1 H1 v s1 g1 r1 => ?_) h⟩
  refine ⟨ι1, env, S1, s1, er.grow g1, hr.mono _ _ _ _ (fun ws S2 q2 ι2 H2 vs s2 g2 r2 => ?_) q⟩
  exact q2 ι2 H2 (v :: vs) s2 (g1.trans g2) ⟨v, vs, rfl, VR.grow g2 w r1, r2⟩
def mTup (m : MA) : ME := fun env S Q => m env S fun ws S1 => ws.length ≤ sizeLine ∧ Q (.tup ws) S1
def mLst (m : MA) : ME := fun env S Q => m env S fun ws S1 => ws.length ≤ sizeLine ∧ Q (.ref S1.length) (S1 ++ [.lst ws])
theorem e_tup {x1} (h : EA X Tb es mr) : EE X Tb (.Tuple es x1 pos) (mTup mr) := by
  refine ⟨pe_imp (pe_tup h.pa) fun σ H Q q => ?_, fun env S Q Q' k q => h.mono _ _ _ _ (fun ws S1 z => ⟨z.1, k _ _ z.2⟩) q⟩
  obtain ⟨ι, env, S, s, er, q⟩ := q
  refine ⟨ι, env, S, s, er, h.mono _ _ _ _ (fun ws S1 z ι1 H1 vs s1 g1 r1 => ?_) q⟩
  refine ⟨by rw [r1.len]; exact z.1, fun p hp => ?_⟩
  obtain ⟨s2, g2⟩ := s1.tup (xs := vs) hp
  exact z.2 ι1 _ _ s2 (g1.trans g2) ⟨p, vs, rfl, SqT.of upd_same, r1.grow g2⟩
theorem newL {K : PySem.W.Frag} {Tb ι : List Addr} {S : Store} {H : Hp} {ws : List W} {vs : List V} {p : Addr} (s : Sim K Tb ι S H) (r : VRs K ι H ws vs) (hp : H p = none) :
    ∃ ι', Sim K Tb ι' (S ++ [.lst ws]) (upd H p (.lst vs)) ∧ Grow K ι H ι' (upd H p (.lst vs)) ∧ VR K ι' (upd H p (.lst vs)) (.ref S.length) (.ref p) := by
  obtain ⟨s2, g2⟩ := s.new (u := .lst vs) (o := .lst ws) hp fun ι' H' g e => ⟨vs, e, r.grow g⟩
  refine ⟨_, s2, g2, p, ?_, rfl⟩
  rw [← s.len, List.getElem?_append_right (Nat.le_refl _), Nat.sub_self]
  rfl
theorem e_lst (h : EA X Tb es mr) : EE X Tb (.List es pos) (mLst mr) := by
  refine ⟨pe_imp (pe_lst h.pa) fun σ H Q q => ?_, fun env S Q Q' k q => h.mono _ _ _ _ (fun ws S1 z => ⟨z.1, k _ _ z.2⟩) q⟩
  obtain ⟨ι, env, S, s, er, q⟩ := q
  refine ⟨ι, env, S, s, er, h.mono _ _ _ _ (fun ws S1 z ι1 H1 vs s1 g1 r1 => ?_) q⟩
  refine ⟨by rw [r1.len]; exact z.1, fun p hp => ?_⟩
  obtain ⟨ι2, s2, g2, r2⟩ := newL s1 r1 hp
  exact z.2 ι2 _ _ s2 (g1.trans g2) r2
/-! ### calls by values -/
abbrev RCW := List W → Store → WK → Prop
abbrev MonoC (op : RCW) : Prop := ∀ (x : List W) (S : Store) (Q Q' : WK), (∀ w S', Q w S' → Q' w S') → op x S Q → op x S Q'
def CL (K : PySem.W.Frag) (Tb : List Addr) (r : List V → Hp → VK → Prop) (op : RCW) : Prop :=
  ∀ (ι : List Addr) (S : Store) (H : Hp) (ws : List W) (vs : List V) (Q : WK) (Qv : VK), Sim K Tb ι S H → VRs K ι H ws vs → op ws S Q →
    (∀ ι' S' H' w v, Q w S' → Sim K Tb ι' S' H' → Grow K ι H ι' H' → VR K ι' H' w v → Qv v H') → r vs H Qv
def mCB (op : RCW) (m : MA) : ME := fun env S Q => m env S fun ws S1 => op ws S1 Q
theorem mCB_mono {op : RCW} (mo : MonoC op) (h : ∀ (env : EvS) (S : Store) (Q Q' : List W → Store → Prop), (∀ w S', Q w S' → Q' w S') → mr env S Q → mr env S Q') : MonoE (mCB op mr) := fun env S Q Q' k q => h _ _ _ _ (fun ws S1 z => mo _ _ _ _ k z) q
theorem liftC {r : List V → Hp → VK → Prop} {op : RCW} (hr : CL X.K Tb r op) (h : EA X Tb es mr) {σ : L2.St} {H : Hp} {Q : VK} (q : LE X.K Tb (mCB op mr) σ H Q) : tCB r (LA X.K Tb mr) σ H Q := by
  obtain ⟨ι, env, S, s, er, q⟩ := q
  refine ⟨ι, env, S, s, er, h.mono _ _ _ _ (fun ws S1 z ι1 H1 vs s1 g1 r1 => ?_) q⟩
  exact hr ι1 S1 H1 ws vs _ _ s1 r1 z fun ι2 S2 H2 w v q2 s2 g2 r2 => q2 ι2 H2 v s2 (g1.trans g2) r2
theorem e_callB {f : Str} {id : String} {r : List V → Hp → VK → Prop} {op : RCW} {p : Pos} (hc : CallR X (.builtin id) r) (hr : CL X.K Tb r op) (mo : MonoC op) (hg : Gl X f) (hm : X.mg f = none) (hv : bootBuiltins f = some (.builtin id)) (ha : EA X Tb (e :: es) mr) (hn : f ≠ "__name__" := by decide)
    (hdb : (f == ("__debug__" : Str)) = false := by decide) (he : starEach (e :: es) X.env = (false, eval e X.env) :: starEach es X.env := by rfl) (hpl : (backTo pos (starEach es X.env)).any (·.1) = false := by rfl) : EE X Tb (.Call (.Name f p) (e :: es) [] pos) (mCB op mr) :=
  ⟨pe_imp (pe_callB hc hg hm hv ha.pa hn hdb he hpl) fun σ H Q q => liftC hr ha q, mCB_mono mo ha.mono⟩
theorem e_callTy {f : Str} {id : String} {r : List V → Hp → VK → Prop} {op : RCW} {p : Pos} (hc : CallR X (.type id) r) (hr : CL X.K Tb r op) (mo : MonoC op) (hg : Gl X f) (hm : X.mg f = none) (hv : bootBuiltins f = some (.type id)) (ha : EA X Tb (e :: es) mr) (hn : f ≠ "__name__" := by decide)
    (hdb : (f == ("__debug__" : Str)) = false := by decide) (he : starEach (e :: es) X.env = (false, eval e X.env) :: starEach es X.env := by rfl) (hpl : (backTo pos (starEach es X.env)).any (·.1) = false := by rfl) : EE X Tb (.Call (.Name f p) (e :: es) [] pos) (mCB op mr) :=
  ⟨pe_imp (pe_callTy hc hg hm hv ha.pa hn hdb he hpl) fun σ H Q q => liftC hr ha q, mCB_mono mo ha.mono⟩
/-! ### own defs -/
structure Con where
  α : Type
  pre : α → List W → Store → Prop
  post : α → Store → W → Store → Prop
def conR (C : Con) : RCW := fun ws S Q => ∃ a, C.pre a ws S ∧ ∀ w S', C.post a S w S' → Q w S'
theorem conR_mono {C : Con} : MonoC (conR C) := fun x S Q Q' k ⟨a, p, h⟩ => ⟨a, p, fun w S' z => k _ _ (h w S' z)⟩
def spOf (K : PySem.W.Frag) (Tb : List Addr) (C : Con) : Sp := fun vs H Q _ => ∃ ι ws S a, Sim K Tb ι S H ∧ VRs K ι H ws vs ∧ C.pre a ws S ∧
  ∀ w S', C.post a S w S' → ∀ ι' H' v, Sim K Tb ι' S' H' → Grow K ι H ι' H' → VR K ι' H' w v → Q v H'
/-- a def that is known by its contract -/
structure Dn (P : Program) (w : World) (K : PySem.W.Frag) (mg : Str → Option Value) (base : Heap) (Tb : List Addr) (x : Str) (ps : List Str) (k : Nat) (C : Con) : Prop where
  ex : ∃ f fd, FnOk P w K mg base CX0 k f fd ps (spOf K Tb C) ∧ mg x = some (.ref f) ∧ PySem.W.keepIn K (.ref f) = true ∧ Binds K fd ps []
theorem e_call {f : Str} {ps : List Str} {k : Nat} {C : Con} {p : Pos} (D : Dn X.prog X.w X.K X.mg X.base Tb f ps k C) (hr : Room k X.A) (hg : Gl X f) (ha : EA X Tb (e :: es) mr)
    (hdb : (f == ("__debug__" : Str)) = false := by decide) (he : starEach (e :: es) X.env = (false, eval e X.env) :: starEach es X.env := by rfl) (hpl : (backTo pos (starEach es X.env)).any (·.1) = false := by rfl) : EE X Tb (.Call (.Name f p) (e :: es) [] pos) (mCB (conR C) mr) := by
  obtain ⟨fa, fd, F, gf, kf, bf⟩ := D.ex
  refine ⟨pe_imp (pe_call F hr hg gf kf bf .nil pass0 ha.pa hdb he hpl) fun σ H Q q => ?_, mCB_mono conR_mono ha.mono⟩
  obtain ⟨ι, env, S, s, er, q⟩ := q
  refine ⟨ι, env, S, s, er, ha.mono _ _ _ _ (fun ws S1 z ι1 H1 vs s1 g1 r1 => ?_) q⟩
  obtain ⟨a, hp, hq⟩ := z
  rw [List.append_nil]
  exact ⟨ι1, ws, S1, a, s1, r1, hp, fun w S' po ι2 H2 v s2 g2 r2 => hq w S' po ι2 H2 v s2 (g1.trans g2) r2⟩
/-! ### statements -/
def mNext : MS := fun D env S => D.nx env S
def mSeq (x y : MS) : MS := fun D env S => x { D with nx := fun e S' => y D e S' } env S
variable {st : Stmt} {sts : List Stmt} {mx my : MS}
theorem ss_nil : ESs X Tb [] mNext := ⟨pss_imp pss_nil fun D σ H ⟨ι, env, S, s, er, h⟩ => h ι H σ s Grow.refl er, fun _ _ _ _ l h => l.nx _ _ h⟩
theorem mSeq_mono (ha : ∀ (D D' : MD) (env : EvS) (S : Store), MD.le D D' → mx D env S → mx D' env S) (hb : ∀ (D D' : MD) (env : EvS) (S : Store), MD.le D D' → my D env S → my D' env S) (D D' : MD) (env : EvS) (S : Store) (l : MD.le D D') (h : mSeq mx my D env S) : mSeq mx my D' env S :=
  ha { D with nx := fun e S' => my D e S' } { D' with nx := fun e S' => my D' e S' } _ _ ⟨fun e S' q => hb _ _ _ _ l q, l.rt, l.bk, l.ct⟩ h
theorem ss_cons (ha : ES X Tb st mx) (hb : ESs X Tb sts my) : ESs X Tb (st :: sts) (mSeq mx my) := by
  refine ⟨pss_imp (pss_cons ha.ps hb.ps) fun D σ H h => ?_, mSeq_mono ha.mono hb.mono⟩
  obtain ⟨ι, env, S, s, er, h⟩ := h
  refine ⟨ι, env, S, s, er, ha.mono { dn X.K Tb ι H D with nx := fun e S' => my (dn X.K Tb ι H D) e S' } _ _ _ ⟨fun e S' q ι1 H1 σ1 s1 g1 r1 => ?_, fun _ _ q => q, fun _ _ q => q, fun _ _ q => q⟩ h⟩
  exact ⟨ι1, e, S', s1, r1, hb.mono _ _ _ _ (dn_le g1) q⟩
theorem ss_one (ha : ES X Tb st mx) : ESs X Tb [st] mx := ⟨pss_one ha.ps, ha.mono⟩
def mBreak : MS := fun D env S => D.bk env S
def mCont : MS := fun D env S => D.ct env S
theorem s_pass : ES X Tb (.Pass pos) mNext := ⟨ps_imp ps_pass fun D σ H ⟨ι, env, S, s, er, h⟩ => h ι H σ s Grow.refl er, fun _ _ _ _ l h => l.nx _ _ h⟩
theorem s_break : ES X Tb (.Break pos) mBreak := ⟨ps_imp ps_break fun D σ H ⟨ι, env, S, s, er, h⟩ => h ι H σ s Grow.refl er, fun _ _ _ _ l h => l.bk _ _ h⟩
theorem s_cont : ES X Tb (.Continue pos) mCont := ⟨ps_imp ps_continue fun D σ H ⟨ι, env, S, s, er, h⟩ => h ι H σ s Grow.refl er, fun _ _ _ _ l h => l.ct _ _ h⟩
theorem s_doc {x j p p'} : ES X Tb (.Expr (.Constant (.str x) j p) p') mNext := ⟨ps_imp ps_doc fun D σ H ⟨ι, env, S, s, er, h⟩ => h ι H σ s Grow.refl er, fun _ _ _ _ l h => l.nx _ _ h⟩
def mDrop (m : ME) : MS := fun D env S => m env S fun _ S' => D.nx env S'
theorem s_expr (he : EE X Tb e m) (hs : swapsWith e none pos.line X.env = pure false := by rfl) : ES X Tb (.Expr e pos) (mDrop m) := by
  refine ⟨ps_imp (ps_expr he.pe hs) fun D σ H h => ?_, fun _ _ _ _ l h => he.mono _ _ _ _ (fun w S' q => l.nx _ _ q) h⟩
  obtain ⟨ι, env, S, s, er, h⟩ := h
  exact ⟨ι, env, S, s, er, he.mono _ _ _ _ (fun w S' q ι' H' v s' g' r' => q ι' H' σ s' g' (er.grow g')) h⟩
def mRet (m : ME) : MS := fun D env S => m env S D.rt
theorem s_ret (he : EE X Tb e m) : ES X Tb (.Return (some e) pos) (mRet m) :=
  ⟨ps_imp (ps_ret he.pe) fun D σ H ⟨ι, env, S, s, er, h⟩ => ⟨ι, env, S, s, er, h⟩, fun _ _ _ _ l h => he.mono _ _ _ _ l.rt h⟩
def mRetN : MS := fun D env S => D.rt .non S
theorem s_retN : ES X Tb (.Return none pos) mRetN := ⟨ps_imp ps_retN fun D σ H ⟨ι, env, S, s, er, h⟩ => h ι H .non s Grow.refl rfl, fun _ _ _ _ l h => l.rt _ _ h⟩
def mIfS (c : MT) (x y : MS) : MS := fun D env S => c env S fun k S1 => if k = true then x D env S1 else y D env S1
theorem s_if {c : Expr} {mc : MT} {p q : List Stmt} (hc : ET X Tb c mc) (ha : ESs X Tb p mx) (hb : ESs X Tb q my) : ES X Tb (.If c p q pos) (mIfS mc mx my) := by
  refine ⟨ps_imp (ps_if hc.pt ha.ps hb.ps) fun D σ H h => ?_, fun D D' env S l h => hc.mono _ _ _ _ (fun k S1 q => ?_) h⟩
  · obtain ⟨ι, env, S, s, er, h⟩ := h
    refine ⟨ι, env, S, s, er, hc.mono _ _ _ _ (fun k S1 q ι1 H1 s1 g1 => ?_) h⟩
    cases k with
    | true => exact iteT ⟨ι1, env, S1, s1, er.grow g1, ha.mono _ _ _ _ (dn_le g1) q⟩
    | false => exact iteF ⟨ι1, env, S1, s1, er.grow g1, hb.mono _ _ _ _ (dn_le g1) q⟩
  · cases k with
    | true => exact ha.mono _ _ _ _ l q
    | false => exact hb.mono _ _ _ _ l q
/-! ### targets -/
def mgName (i : Nat) : MG := fun w env S Q => Q (env.set i (some w)) S
theorem g_name {i : Nat} {x : Str} (hN : X.N.Nodup) (hi : X.N[i]? = some x := by rfl) (hx : Loc X.env.scope x := by first | exact Or.inl rfl | exact Or.inr rfl) (hf : X.fn x = true ∨ X.env.scope.names.lookup x = some .local := by first | exact .inl rfl | exact .inr rfl | assumption) : EG X Tb (.Name x pos) (mgName i) := by
  refine ⟨pg_imp (pg_name hN hi hx hf) fun v σ H Q h => ?_, fun _ _ _ _ _ k h => k _ _ h⟩
  obtain ⟨ι, env, S, w, s, er, r, h⟩ := h
  exact h ι H _ s Grow.refl (er.set i r)
abbrev MGs := List W → EvS → Store → (EvS → Store → Prop) → Prop
def mgNil : MGs := fun ws env S Q => ws = [] ∧ Q env S
def mgCons (x : MG) (y : MGs) : MGs := fun ws env S Q => match ws with
  | w :: r => x w env S fun e S' => y r e S' Q
  | [] => False
variable {tg : MG} {tgs : MGs}
theorem gs_nil : EGs X Tb [] mgNil := by
  refine ⟨pgs_imp pgs_nil fun v σ H Q h => ?_, fun _ _ _ _ _ k h => ⟨h.1, k _ _ h.2⟩⟩
  obtain ⟨ι, env, S, ws, s, er, r, e, h⟩ := h
  subst e
  exact ⟨r, h ι H _ s Grow.refl er⟩
theorem gs_cons (h1 : EG X Tb e tg) (h2 : EGs X Tb es tgs) (hs : (assignEach (e :: es) X.env).map (·.2) = assign e X.env :: (assignEach es X.env).map (·.2) := by rfl) : EGs X Tb (e :: es) (mgCons tg tgs) := by
  refine ⟨pgs_imp (pgs_cons h1.pg h2.pg hs) fun v σ H Q h => ?_, fun ws env S Q Q' k h => ?_⟩
  · obtain ⟨ι, env, S, ws, s, er, r, h⟩ := h
    cases ws with
    | nil => exact h.elim
    | cons w ws =>
      obtain ⟨v, vr, rfl, rw, rr⟩ := r
      refine ⟨v, vr, rfl, ι, env, S, w, s, er, rw, h1.mono _ _ _ _ _ (fun e S' q ι1 H1 σ1 s1 g1 er1 => ?_) h⟩
      exact ⟨ι1, e, S', ws, s1, er1, rr.grow g1, h2.mono _ _ _ _ _ (fun e2 S2 q2 ι2 H2 σ2 s2 g2 er2 => q2 ι2 H2 σ2 s2 (g1.trans g2) er2) q⟩
  · cases ws with
    | nil => exact h.elim
    | cons w ws => exact h1.mono _ _ _ _ _ (fun e S' q => h2.mono _ _ _ _ _ k q) h
def mgTup (n : Nat) (t : MGs) : MG := fun w env S Q => match w with
  | .tup l => l.length = n ∧ t l env S Q
  | _ => False
theorem g_tup {k n : Nat} (hc : X.calm = true) (h : EGs X Tb es tgs) (hn : (assignEach es X.env).length = n := by rfl) (hst : (assignEach es X.env).findIdx? (·.1) = none := by rfl) : EG X Tb (.Tuple es k pos) (mgTup n tgs) := by
  refine ⟨pg_imp (pg_tup hc h.pg hn hst) fun v σ H Q q => ?_, fun w env S Q Q' k q => ?_⟩
  · obtain ⟨ι, env, S, w, s, er, r, q⟩ := q
    cases w with
    | tup l =>
      obtain ⟨a, vs, rfl, hq, rv⟩ := r
      exact ⟨a, vs, rfl, hq, by rw [rv.len]; exact q.1, ι, env, S, l, s, er, rv, q.2⟩
    | _ => exact q.elim
  · cases w with
    | tup l => exact ⟨q.1, h.mono _ _ _ _ _ k q.2⟩
    | _ => exact q.elim
def mAsg (m : ME) (g : MG) : MS := fun D env S => m env S fun w S1 => g w env S1 D.nx
theorem mAsg_mono (he : MonoE m) (hg : ∀ (w : W) (env : EvS) (S : Store) (Q Q' : EvS → Store → Prop), (∀ e S', Q e S' → Q' e S') → tg w env S Q → tg w env S Q') (D D' : MD) (env : EvS) (S : Store) (l : MD.le D D') (h : mAsg m tg D env S) : mAsg m tg D' env S :=
  he _ _ _ _ (fun w S1 q => hg _ _ _ _ _ l.nx q) h
theorem lift_asg (he : EE X Tb e m) {g : Expr} (hg : EG X Tb g tg) {D : Ends} {σ : L2.St} {H : Hp} (h : LS X.K Tb (mAsg m tg) D σ H) : tAsg (LE X.K Tb m) (LG X.K Tb tg) D σ H := by
  obtain ⟨ι, env, S, s, er, h⟩ := h
  refine ⟨ι, env, S, s, er, he.mono _ _ _ _ (fun w S1 q ι1 H1 v s1 g1 r1 => ?_) h⟩
  exact ⟨ι1, env, S1, w, s1, er.grow g1, r1, hg.mono _ _ _ _ _ (fun e S2 q2 ι2 H2 σ2 s2 g2 er2 => q2 ι2 H2 σ2 s2 (g1.trans g2) er2) q⟩
theorem s_asg {g : Expr} (he : EE X Tb e m) (hg : EG X Tb g tg) (hs : swapsWithSole [g] e pos.line X.env = pure false := by rfl) (hw : swappedStores [g] e X.env = pure none := by rfl) (h1 : (assignEach [g] X.env).map (·.2) = [assign g X.env] := by rfl) : ES X Tb (.Assign [g] e pos) (mAsg m tg) :=
  ⟨ps_imp (ps_asg he.pe hg.pg hs hw h1) fun D σ H h => lift_asg he hg h, mAsg_mono he.mono hg.mono⟩
theorem s_set {i : Nat} {x : Str} {p : Pos} (hN : X.N.Nodup) (he : EE X Tb e m) (hi : X.N[i]? = some x := by rfl) (hx : Loc X.env.scope x := by first | exact Or.inl rfl | exact Or.inr rfl) (hs : swapsWith e (some (.Name x p)) pos.line X.env = pure false := by rfl) (hf : X.fn x = true ∨ X.env.scope.names.lookup x = some .local := by first | exact .inl rfl | exact .inr rfl | assumption) :
    ES X Tb (.Assign [.Name x p] e pos) (mAsg m (mgName i)) := by
  refine ⟨ps_imp (ps_set hN hi hx he.pe hs hf) fun D σ H h => ?_, mAsg_mono he.mono fun _ _ _ _ _ k h => k _ _ h⟩
  obtain ⟨ι, env, S, s, er, h⟩ := h
  exact ⟨ι, env, S, s, er, he.mono _ _ _ _ (fun w S1 q ι1 H1 v s1 g1 r1 => q ι1 H1 _ s1 g1 ((er.grow g1).set i r1)) h⟩
/-- a, b = x, y: local names -/
def mPar (i j : Nat) (m : MA) : MS := fun D env S => m env S fun ws S1 => match ws with
  | [x, y] => D.nx ((env.set i (some x)).set j (some y)) S1
  | _ => False
theorem s_par {i j : Nat} {x y : Str} {px py pt : Pos} {kt k2 pt2} (hc : X.calm = true) (hN : X.N.Nodup) (ha : EA X Tb [a, b] mr) (hi : X.N[i]? = some x := by rfl) (hj : X.N[j]? = some y := by rfl) (hij : i ≠ j := by decide)
    (hx : X.env.scope.names.lookup x = some .local := by rfl) (hy : X.env.scope.names.lookup y = some .local := by rfl) 
    (hw : swappedStores [.Tuple [.Name x px, .Name y py] kt pt] (.Tuple [a, b] k2 pt2) X.env = pure (some [x, y]) := by rfl)
    (hs : swapsWithSole [.Tuple [.Name x px, .Name y py] kt pt] (.Tuple [a, b] k2 pt2) pos.line X.env = pure false := by rfl) :
    ES X Tb (.Assign [.Tuple [.Name x px, .Name y py] kt pt] (.Tuple [a, b] k2 pt2) pos) (mPar i j mr) := by
  refine ⟨ps_imp (ps_par hc hN hi hj hij hx hy ha.pa hw hs) fun D σ H h => ?_, fun D D' env S l h => ha.mono _ _ _ _ (fun ws S1 q => ?_) h⟩
  · obtain ⟨ι, env, S, s, er, h⟩ := h
    refine ⟨ι, env, S, s, er, ha.mono _ _ _ _ (fun ws S1 q ι1 H1 vs s1 g1 r1 => ?_) h⟩
    match ws, q with
    | [x, y], q =>
      obtain ⟨v, r, rfl, rv, u, r', rfl, ru, e⟩ := r1
      have e : r' = [] := e
      subst e
      exact ⟨v, u, rfl, q ι1 H1 _ s1 g1 (((er.grow g1).set i rv).set j ru)⟩
  · match ws, q with
    | [x, y], q => exact l.nx _ _ q
/-- x op= e -/
def mAug (i : Nat) (op : R2W) (m : ME) : MS := fun D env S => match lk env i with
  | some x => m env S fun y S1 => op x y S1 fun z S2 => D.nx (env.set i (some z)) S2
  | none => False
theorem s_aug {i : Nat} {x : Str} {op' : Operator} {r : R2} {op : R2W} {p : Pos} (hN : X.N.Nodup) (ho : OpR X (inplaceOp op') r) (hr : RL X.K Tb r op) (mo : MonoO op) (he : EE X Tb e m) (hi : X.N[i]? = some x := by rfl) (hx : Loc X.env.scope x := by first | exact Or.inl rfl | exact Or.inr rfl)
    (hf : X.fn x = true ∨ X.env.scope.names.lookup x = some .local := by first | exact .inl rfl | exact .inr rfl | assumption) : ES X Tb (.AugAssign (.Name x p) op' e pos) (mAug i op m) := by
  refine ⟨ps_imp (ps_aug hN hi hx he.pe (fun pins s σ H x y v u Q I r1 r2 h => ho pins s σ H x y v u Q I r1 r2 h) hf) fun D σ H h => ?_, fun D D' env S l h => ?_⟩
  · obtain ⟨ι, env, S, s, er, h⟩ := h
    unfold mAug at h
    cases el : lk env i with
    | none => rw [el] at h; exact h.elim
    | some w =>
      rw [el] at h
      obtain ⟨v, h1, h2⟩ := er.at_ i w (lk_at el)
      refine ⟨v, h1, ι, env, S, s, er, he.mono _ _ _ _ (fun y S1 q ι1 H1 u s1 g1 r1 => ?_) h⟩
      exact hr ι1 S1 H1 w y v u _ _ s1 (VR.grow g1 w h2) r1 q fun ι2 S2 H2 z zv q2 s2 g2 r2 => q2 ι2 H2 _ s2 (g1.trans g2) (((er.grow g1).grow g2).set i r2)
  · unfold mAug at h ⊢
    cases el : lk env i with
    | none => rw [el] at h; exact h.elim
    | some w =>
      rw [el] at h
      exact he.mono _ _ _ _ (fun y S1 q => mo _ _ _ _ _ (fun z S2 q2 => l.nx _ _ q2) q) h
end
end Ev

set_option Elab.async false
set_option linter.all false
set_option maxRecDepth 100000
set_option maxHeartbeats 4000000
/-! Loops, comprehensions, what they walk. -/
namespace Ev
open PySem PySem.Spec PyProof.Rows L2 Ow
abbrev MI := EvS → Store → ((Store → Prop) → List W → Store → Prop) → Prop
/-- the iterator J hands out ws, while chk holds of the store -/
def Feeds (K : PySem.W.Frag) (Tb : List Addr) (J : It) (chk : Store → Prop) (ws : List W) (ι0 : List Addr) (H0 : Hp) : Prop :=
  ∀ (ι : List Addr) (H : Hp) (S : Store) (i : Nat), Grow K ι0 H0 ι H → Sim K Tb ι S H → chk S →
    (∀ w, ws[i]? = some w → J.go i H ∧ ∀ x H', J.yld i H x H' → ∃ ι', Sim K Tb ι' S H' ∧ Grow K ι H ι' H' ∧ VR K ι' H' w x) ∧ (ws.length ≤ i → J.stop i H)
def LI (K : PySem.W.Frag) (Tb : List Addr) (mi : MI) (wi : TI) : Prop :=
  ∀ (σ : L2.St) (H : Hp) (R : It → Hp → Prop) (ι : List Addr) (env : EvS) (S : Store), Sim K Tb ι S H → ER K ι H env σ →
    mi env S (fun chk ws S1 => ∀ ι1 H1 J, Sim K Tb ι1 S1 H1 → Grow K ι H ι1 H1 → Feeds K Tb J chk ws ι1 H1 → R J H1) → wi σ H R
structure EI (X : Cx) (Tb : List Addr) (tg iter : Expr) (mi : MI) : Prop where
  ex : ∃ wi, PI X tg iter wi ∧ LI X.K Tb mi wi
  mono : ∀ (env : EvS) (S : Store) (R R' : (Store → Prop) → List W → Store → Prop), (∀ c w S', R c w S' → R' c w S') → mi env S R → mi env S R'
theorem pi_imp {X : Cx} {tg it : Expr} {t t' : TI} (h : PI X tg it t) (k : ∀ σ H R, t' σ H R → t σ H R) : PI X tg it t' := ⟨fun pins s σ H R I q => h.run pins s σ H R I (k σ H R q)⟩
/-! ### lists, tuples, texts -/
def signW (c : Nat) : W := .str ⟨#[c]⟩
/-- what a walk over w hands out -/
def oIt (n : Nat) (o : Option O) (S : Store) (R : (Store → Prop) → List W → Store → Prop) : Prop := match o with
  | some (.lst l) => R (fun S' => S'[n]? = some (.lst l)) l S
  | _ => False
def wIt (w : W) (S : Store) (R : (Store → Prop) → List W → Store → Prop) : Prop := match w with
  | .tup l => R (fun _ => True) l S
  | .cl l => R (fun _ => True) l S
  | .str z => R (fun _ => True) (z.cps.toList.map signW) S
  | .ref n => oIt n S[n]? S R
  | _ => False
def mIt (m : ME) : MI := fun env S R => m env S fun w S1 => wIt w S1 R
theorem wIt_mono {w : W} {S : Store} {R R' : (Store → Prop) → List W → Store → Prop} (k : ∀ c w S', R c w S' → R' c w S') (h : wIt w S R) : wIt w S R' := by
  cases w with
  | tup l => exact k _ _ _ h
  | cl l => exact k _ _ _ h
  | str z => exact k _ _ _ h
  | ref n =>
    have h : oIt n S[n]? S R := h
    show oIt n S[n]? S R'
    cases e : S[n]? with
    | none => rw [e] at h; exact h.elim
    | some o =>
      rw [e] at h
      cases o with
      | lst l => exact k _ _ _ h
      | _ => exact h.elim
  | _ => exact h.elim
def iSeq (K : PySem.W.Frag) (tl : TE) : TI := fun σ H R => tl σ H fun x H1 => (∃ a xs, x = .ref a ∧ SqL K H1 a xs ∧ R (Itl K a) H1) ∨ (∃ a xs, x = .ref a ∧ SqT K H1 a xs ∧ R (Itt K a) H1) ∨ ∃ z, x = .str z ∧ R (Its z) H1
theorem pi_seq {X : Cx} {tg l : Expr} {tl : TE} (hl : PE X l tl) : PI X tg l (iSeq X.K tl) := by
  refine ⟨fun pins s σ H R I h => ?_⟩
  refine thn (hl.run pins s σ H _ I h) fun val s1 ⟨xx, H1, I1, rx, alt⟩ => ?_
  rcases alt with ⟨a, xs, ex, hq, q⟩ | ⟨a, xs, ex, hq, q⟩ | ⟨z, ex, q⟩
  · subst ex
    obtain rfl : val = Value.ref a := rx
    obtain ⟨its, rv, pl, hz⟩ := I1.list hq
    exact wpAny_pyIter_list pl.isList (pi_one (tk := s1.toks) I1 _ (turn_list a _) ⟨_, Heap.get?_push_size _ rfl, rfl, rfl⟩ q)
  · subst ex
    obtain rfl : val = Value.ref a := rx
    obtain ⟨its, rv, pl, hz⟩ := I1.tuple hq
    exact wpAny_pyIter_tuple (show s1.heap.IsTuple a its.toArray from pl) (pi_one (tk := s1.toks) I1 _ (turn_tuple a _) ⟨_, Heap.get?_push_size _ rfl, rfl, rfl⟩ q)
  · subst ex
    obtain ⟨t, rfl⟩ := rx
    cases ha : z.cps.all (· < 128)
    · exact wpAny_pyIter_wide ha (pi_one (tk := s1.toks) I1 _ (turn_str _ z t "str_iterator" (.inr rfl)) ⟨_, Heap.get?_push_size _ rfl, rfl, rfl⟩ q)
    · exact wpAny_pyIter_ascii ha (pi_one (tk := s1.toks) I1 _ (turn_str _ z t "str_ascii_iterator" (.inl rfl)) ⟨_, Heap.get?_push_size _ rfl, rfl, rfl⟩ q)
section
variable {K : PySem.W.Frag} {Tb : List Addr} {ι : List Addr} {H : Hp}
theorem feeds_tup {a : Addr} {vs : List V} {l : List W} (h : SqT K H a vs) (r : VRs K ι H l vs) : Feeds K Tb (Itt K a) (fun _ => True) l ι H := by
  intro ι' H' S i g s _
  refine ⟨fun w hw => ?_, fun hi => ⟨vs, g.tup _ _ h, by rw [r.len]; exact hi⟩⟩
  obtain ⟨v, h1, h2⟩ := r.at hw
  refine ⟨⟨vs, v, g.tup _ _ h, h1⟩, fun x H2 y => ?_⟩
  obtain ⟨e, y⟩ := y
  subst e
  have := y vs (g.tup _ _ h)
  rw [h1] at this
  cases this
  exact ⟨ι', s, Grow.refl, VR.grow g w h2⟩
theorem feeds_cl {a : Addr} {vs : List V} {l : List W} (h : FzL K H a vs) (r : VRs K ι H l vs) : Feeds K Tb (Itl K a) (fun _ => True) l ι H := by
  intro ι' H' S i g s _
  refine ⟨fun w hw => ?_, fun hi => ⟨vs, (g.fz _ _ h).sq, by rw [r.len]; exact hi⟩⟩
  obtain ⟨v, h1, h2⟩ := r.at hw
  refine ⟨⟨vs, v, (g.fz _ _ h).sq, h1⟩, fun x H2 y => ?_⟩
  obtain ⟨e, y⟩ := y
  subst e
  have := y vs (g.fz _ _ h).sq
  rw [h1] at this
  cases this
  exact ⟨ι', s, Grow.refl, VR.grow g w h2⟩
theorem feeds_lst {a : Addr} {n : Nat} {l : List W} (h : ι[n]? = some a) : Feeds K Tb (Itl K a) (fun S' => S'[n]? = some (.lst l)) l ι H := by
  intro ι' H' S i g s hc
  obtain ⟨b, h1, vs, e, r⟩ := s.obj n _ hc
  rw [g.at h] at h1
  cases h1
  refine ⟨fun w hw => ?_, fun hi => ⟨vs, SqL.of e, by rw [r.len]; exact hi⟩⟩
  obtain ⟨v, h1, h2⟩ := r.at hw
  refine ⟨⟨vs, v, SqL.of e, h1⟩, fun x H2 y => ?_⟩
  obtain ⟨e2, y⟩ := y
  subst e2
  have := y vs (SqL.of e)
  rw [h1] at this
  cases this
  exact ⟨ι', s, Grow.refl, h2⟩
theorem feeds_str {z : Str} : Feeds K Tb (Its z) (fun _ => True) (z.cps.toList.map signW) ι H := by
  intro ι' H' S i g s _
  refine ⟨fun w hw => ?_, fun hi => ?_⟩
  · rw [List.getElem?_map] at hw
    cases e : z.cps.toList[i]? with
    | none => rw [e] at hw; cases hw
    | some c =>
      rw [e] at hw
      obtain rfl : signW c = w := Option.some.inj hw
      have hlt := (List.getElem?_eq_some_iff.mp e).1
      refine ⟨(by show i < z.cps.size; simpa using hlt), fun x H2 y => ?_⟩
      obtain ⟨e2, c', hc', ex⟩ := y
      subst e2
      subst ex
      rw [Array.getElem?_toList] at e
      rw [e] at hc'
      cases hc'
      exact ⟨ι', s, Grow.refl, rfl⟩
  · show z.cps.size ≤ i
    simpa using hi
theorem feeds_range {lo : Int} {n : Nat} : Feeds K Tb (Itr lo n) (fun _ => True) ((List.range n).map fun (j : Nat) => W.int (lo + j)) ι H := by
  intro ι' H' S i g s _
  refine ⟨fun w hw => ?_, fun hi => ?_⟩
  · rw [List.getElem?_map] at hw
    have hi : i < n := by
      by_cases hi : i < n
      · exact hi
      · rw [List.getElem?_eq_none (by rw [List.length_range]; omega)] at hw
        cases hw
    rw [List.getElem?_range hi] at hw
    obtain rfl : W.int (lo + (i : Int)) = w := Option.some.inj hw
    refine ⟨hi, fun x H2 y => ?_⟩
    obtain ⟨e2, ex⟩ := y
    subst e2
    subst ex
    exact ⟨ι', s, Grow.refl, rfl⟩
  · show n ≤ i
    simpa using hi
end
section
variable {X : Cx} {Tb : List Addr} {tg e a b : Expr} {m : ME} {p pos : Pos}
theorem i_seq (h : EE X Tb e m) : EI X Tb tg e (mIt m) := by
  refine ⟨⟨_, pi_seq h.pe, fun σ H R ι env S s er q => ?_⟩, fun env S R R' k q => h.mono _ _ _ _ (fun w S1 z => wIt_mono k z) q⟩
  refine ⟨ι, env, S, s, er, h.mono _ _ _ _ (fun w S1 z ι1 H1 v s1 g1 r1 => ?_) q⟩
  cases w with
  | tup l =>
    obtain ⟨a, vs, rfl, hq, rv⟩ := r1
    exact .inr (.inl ⟨a, vs, rfl, hq, z ι1 H1 _ s1 g1 (feeds_tup hq rv)⟩)
  | cl l =>
    obtain ⟨a, vs, rfl, hq, rv⟩ := r1
    exact .inl ⟨a, vs, rfl, hq.sq, z ι1 H1 _ s1 g1 (feeds_cl hq rv)⟩
  | str x =>
    obtain rfl : v = .str x := r1
    exact .inr (.inr ⟨x, rfl, z ι1 H1 _ s1 g1 feeds_str⟩)
  | ref n =>
    obtain ⟨a, ha, rfl⟩ := r1
    unfold wIt at z
    dsimp only at z
    obtain ⟨o, ho, q⟩ := s1.there ha
    rw [ho] at z
    cases o with
    | lst l =>
      obtain ⟨vs, e, rv⟩ := q
      exact .inl ⟨a, vs, rfl, SqL.of e, z ι1 H1 _ s1 g1 (feeds_lst ha)⟩
    | _ => exact z.elim
  | _ => exact z.elim
def rgW (lo : Int) (n : Nat) : List W := (List.range n).map fun (j : Nat) => W.int (lo + j)
def mRg1 (m : MA) : MI := fun env S R => m env S fun ws S1 => match ws with
  | [.int j] => (-(2 ^ 62) ≤ j ∧ j < 2 ^ 62) ∧ R (fun _ => True) (rgW 0 j.toNat) S1
  | _ => False
def mRg2 (m : MA) : MI := fun env S R => m env S fun ws S1 => match ws with
  | [.int i, .int j] => (-(2 ^ 62) ≤ i ∧ i < 2 ^ 62 ∧ -(2 ^ 62) ≤ j ∧ j < 2 ^ 62) ∧ R (fun _ => True) (rgW i (j - i).toNat) S1
  | _ => False
variable {ma : MA}
theorem i_range1 (hg : Gl X "range") (hm : X.mg "range" = none) (ha : EA X Tb [a] ma) (hs : starEach [a] X.env = [(false, eval a X.env)] := by rfl) : EI X Tb tg (.Call (.Name "range" p) [a] [] pos) (mRg1 ma) := by
  refine ⟨⟨_, pi_range1 hg hm ha.pa hs, fun σ H R ι env S s er q => ?_⟩, fun env S R R' k q => ha.mono _ _ _ _ (fun ws S1 z => ?_) q⟩
  · refine ⟨ι, env, S, s, er, ha.mono _ _ _ _ (fun ws S1 z ι1 H1 vs s1 g1 r1 => ?_) q⟩
    match ws, z with
    | [.int j], z =>
      obtain ⟨v, r, rfl, e1, e2⟩ := r1
      obtain rfl : v = .int j := e1
      obtain rfl : r = [] := e2
      exact ⟨j, rfl, z.1.1, z.1.2, z.2 ι1 H1 _ s1 g1 feeds_range⟩
  · match ws, z with
    | [.int j], z => exact ⟨z.1, k _ _ _ z.2⟩
theorem i_range2 (hg : Gl X "range") (hm : X.mg "range" = none) (ha : EA X Tb [a, b] ma) (hs : starEach [a, b] X.env = [(false, eval a X.env), (false, eval b X.env)] := by rfl) (hs2 : starEach [b] X.env = [(false, eval b X.env)] := by rfl) : EI X Tb tg (.Call (.Name "range" p) [a, b] [] pos) (mRg2 ma) := by
  refine ⟨⟨_, pi_range2 hg hm ha.pa hs hs2, fun σ H R ι env S s er q => ?_⟩, fun env S R R' k q => ha.mono _ _ _ _ (fun ws S1 z => ?_) q⟩
  · refine ⟨ι, env, S, s, er, ha.mono _ _ _ _ (fun ws S1 z ι1 H1 vs s1 g1 r1 => ?_) q⟩
    match ws, z with
    | [.int i, .int j], z =>
      obtain ⟨v, r, rfl, e1, u, r', rfl, e2, e3⟩ := r1
      obtain rfl : v = .int i := e1
      obtain rfl : u = .int j := e2
      obtain rfl : r' = [] := e3
      exact ⟨i, j, rfl, z.1, z.2 ι1 H1 _ s1 g1 feeds_range⟩
  · match ws, z with
    | [.int i, .int j], z => exact ⟨z.1, k _ _ _ z.2⟩
/-- reversed(list) -/
def oRev (n : Nat) (o : Option O) (S : Store) (R : (Store → Prop) → List W → Store → Prop) : Prop := match o with
  | some (.lst l) => R (fun S' => S'[n]? = some (.lst l)) l.reverse S
  | _ => False
def mRev (m : MA) : MI := fun env S R => m env S fun ws S1 => match ws with
  | [.ref n] => oRev n S1[n]? S1 R
  | _ => False
theorem feeds_rev {K : PySem.W.Frag} {ι : List Addr} {H : Hp} {a : Addr} {n : Nat} {l : List W} (h : ι[n]? = some a) : Feeds K Tb (Itv K a l.length) (fun S' => S'[n]? = some (.lst l)) l.reverse ι H := by
  intro ι' H' S i g s hc
  obtain ⟨b, h1, vs, e, r⟩ := s.obj n _ hc
  rw [g.at h] at h1
  cases h1
  refine ⟨fun w hw => ?_, fun hi => ?_⟩
  · have hi : i < l.length := by
      have := (List.getElem?_eq_some_iff.mp hw).1
      rwa [List.length_reverse] at this
    rw [List.getElem?_reverse hi] at hw
    obtain ⟨v, h1, h2⟩ := r.at hw
    refine ⟨⟨hi, vs, v, SqL.of e, h1⟩, fun x H2 y => ?_⟩
    obtain ⟨e2, y⟩ := y
    subst e2
    have := y vs (SqL.of e)
    rw [h1] at this
    cases this
    exact ⟨ι', s, Grow.refl, h2⟩
  · show l.length ≤ i
    simpa using hi
theorem i_rev (hg : Gl X "reversed") (hm : X.mg "reversed" = none) (ha : EA X Tb [e] ma) (hs : starEach [e] X.env = [(false, eval e X.env)] := by rfl) : EI X Tb tg (.Call (.Name "reversed" p) [e] [] pos) (mRev ma) := by
  refine ⟨⟨_, pi_reversed hg hm ha.pa hs, fun σ H R ι env S s er q => ?_⟩, fun env S R R' k q => ha.mono _ _ _ _ (fun ws S1 z => ?_) q⟩
  · refine ⟨ι, env, S, s, er, ha.mono _ _ _ _ (fun ws S1 z ι1 H1 vs s1 g1 r1 => ?_) q⟩
    match ws, z with
    | [.ref n], z =>
      obtain ⟨v, r, rfl, ⟨a, ha, rfl⟩, e2⟩ := r1
      obtain rfl : r = [] := e2
      change oRev n _ S1 _ at z
      obtain ⟨o, ho, q⟩ := s1.there ha
      rw [ho] at z
      cases o with
      | lst l =>
        obtain ⟨us, e, rv⟩ := q
        refine ⟨a, us, rfl, SqL.of e, ?_⟩
        rw [rv.len]
        exact z ι1 H1 _ s1 g1 (feeds_rev ha)
      | _ => exact z.elim
  · match ws, z with
    | [.ref n], z =>
      have z : oRev n S1[n]? S1 R := z
      show oRev n S1[n]? S1 R'
      cases e : S1[n]? with
      | none => rw [e] at z; exact z.elim
      | some o =>
        rw [e] at z
        cases o with
        | lst l => exact k _ _ _ z
        | _ => exact z.elim
/-- enumerate(list) -/
def oEnum (n : Nat) (o : Option O) (S : Store) (R : (Store → Prop) → List W → Store → Prop) : Prop := match o with
  | some (.lst l) => R (fun S' => S'[n]? = some (.lst l)) (l.zipIdx.map fun p => W.tup [.int p.2, p.1]) S
  | _ => False
def mEnum (m : MA) : MI := fun env S R => m env S fun ws S1 => match ws with
  | [.ref n] => oEnum n S1[n]? S1 R
  | _ => False
theorem feeds_enum {K : PySem.W.Frag} {ι : List Addr} {H : Hp} {a : Addr} {n : Nat} {l : List W} (h : ι[n]? = some a) : Feeds K Tb (Ite K a) (fun S' => S'[n]? = some (.lst l)) (l.zipIdx.map fun p => W.tup [.int p.2, p.1]) ι H := by
  intro ι' H' S i g s hc
  obtain ⟨b, h1, vs, e, r⟩ := s.obj n _ hc
  rw [g.at h] at h1
  cases h1
  refine ⟨fun w hw => ?_, fun hi => ⟨vs, SqL.of e, by rw [r.len]; simpa using hi⟩⟩
  rw [List.getElem?_map, List.getElem?_zipIdx] at hw
  cases el : l[i]? with
  | none => rw [el] at hw; cases hw
  | some u =>
    rw [el] at hw
    obtain rfl : W.tup [.int ((0 + i : Nat) : Int), u] = w := Option.some.inj hw
    obtain ⟨v, h1, h2⟩ := r.at el
    refine ⟨⟨vs, v, SqL.of e, h1⟩, fun x H2 y => ?_⟩
    obtain ⟨T, x', rfl, hT, rfl, y⟩ := y
    have := y vs (SqL.of e)
    rw [h1] at this
    cases this
    obtain ⟨s2, g2⟩ := s.tup (xs := [.int (i : Nat), v]) hT
    exact ⟨ι', s2, g2, T, _, rfl, SqT.of upd_same, _, _, rfl, (by rw [Nat.zero_add]; rfl), v, [], rfl, VR.grow g2 u h2, rfl⟩
theorem i_enum {tpos : Pos} {elts : List Expr} {kk : Nat} (hg : Gl X "enumerate") (hm : X.mg "enumerate" = none) (ha : EA X Tb [e] ma) (hs : starEach [e] X.env = [(false, eval e X.env)] := by rfl) : EI X Tb (.Tuple elts kk tpos) (.Call (.Name "enumerate" p) [e] [] pos) (mEnum ma) := by
  refine ⟨⟨_, pi_enum hg hm ha.pa hs, fun σ H R ι env S s er q => ?_⟩, fun env S R R' k q => ha.mono _ _ _ _ (fun ws S1 z => ?_) q⟩
  · refine ⟨ι, env, S, s, er, ha.mono _ _ _ _ (fun ws S1 z ι1 H1 vs s1 g1 r1 => ?_) q⟩
    match ws, z with
    | [.ref n], z =>
      obtain ⟨v, r, rfl, ⟨a, ha, rfl⟩, e2⟩ := r1
      obtain rfl : r = [] := e2
      change oEnum n _ S1 _ at z
      obtain ⟨o, ho, q⟩ := s1.there ha
      rw [ho] at z
      cases o with
      | lst l =>
        obtain ⟨us, e, rv⟩ := q
        exact ⟨a, us, rfl, SqL.of e, z ι1 H1 _ s1 g1 (feeds_enum ha)⟩
      | _ => exact z.elim
  · match ws, z with
    | [.ref n], z =>
      have z : oEnum n S1[n]? S1 R := z
      show oEnum n S1[n]? S1 R'
      cases e : S1[n]? with
      | none => rw [e] at z; exact z.elim
      | some o =>
        rw [e] at z
        cases o with
        | lst l => exact k _ _ _ z
        | _ => exact z.elim
end
/-! ### for -/
def forL (chk : Store → Prop) (g : MG) (body : MS) (D : MD) : List W → EvS → Store → Prop
  | [], env, S => chk S ∧ D.nx env S
  | w :: r, env, S => chk S ∧ g w env S fun e S' => body { nx := forL chk g body D r, rt := D.rt, bk := D.nx, ct := forL chk g body D r } e S'
def mFor (mi : MI) (g : MG) (body : MS) : MS := fun D env S => mi env S fun chk ws S1 => forL chk g body D ws env S1
section
variable {X : Cx} {Tb : List Addr} {tg iter : Expr} {mi : MI} {g : MG} {mb : MS} {body : List Stmt} {pos : Pos}
theorem forL_mono {chk : Store → Prop} (hg : ∀ (w : W) (env : EvS) (S : Store) (Q Q' : EvS → Store → Prop), (∀ e S', Q e S' → Q' e S') → g w env S Q → g w env S Q') (hb : ∀ (D D' : MD) (env : EvS) (S : Store), MD.le D D' → mb D env S → mb D' env S) (D D' : MD) (l : MD.le D D') :
    ∀ (ws : List W) (env : EvS) (S : Store), forL chk g mb D ws env S → forL chk g mb D' ws env S
  | [], env, S, h => ⟨h.1, l.nx _ _ h.2⟩
  | w :: r, env, S, h => ⟨h.1, hg _ _ _ _ _ (fun e S' q => hb { nx := forL chk g mb D r, rt := D.rt, bk := D.nx, ct := forL chk g mb D r } { nx := forL chk g mb D' r, rt := D'.rt, bk := D'.nx, ct := forL chk g mb D' r } _ _ ⟨forL_mono hg hb D D' l r, l.rt, l.nx, forL_mono hg hb D D' l r⟩ q) h.2⟩
theorem s_for (hi : EI X Tb tg iter mi) (hg : EG X Tb tg g) (hb : ESs X Tb body mb) (hp : PassesOwn (model X.prog X.w) X.A X.env X.xe := by exact PassesOwn.never) (hc : X.calm = true := by rfl) (hs : ∀ x, foldedSetIterable iter X.env x = pure x := by intro _; rfl) : ES X Tb (.For tg iter body [] pos) (mFor mi g mb) := by
  obtain ⟨wi, hpi, hl⟩ := hi.ex
  refine ⟨ps_imp (ps_for hp hc hpi hg.pg hb.ps hs) fun D σ H h => ?_, fun D D' env S l h => hi.mono _ _ _ _ (fun c ws S1 q => forL_mono hg.mono hb.mono D D' l ws _ _ q) h⟩
  obtain ⟨ι, env, S, s, er, h⟩ := h
  refine hl σ H _ ι env S s er (hi.mono _ _ _ _ (fun chk ws S1 q ι1 H1 J s1 g1 fd => ?_) h)
  refine ⟨fun i m σ' H' => m = ws.length - i ∧ i ≤ ws.length ∧ ∃ ι' env' S', Sim X.K Tb ι' S' H' ∧ Grow X.K ι1 H1 ι' H' ∧ ER X.K ι' H' env' σ' ∧ forL chk g mb (dn X.K Tb ι H D) (ws.drop i) env' S',
    ⟨ws.length, by simp, Nat.zero_le _, ι1, env, S1, s1, Grow.refl, er.grow g1, by rw [List.drop_zero]; exact q⟩, ?_⟩
  rintro i m σ' H' ⟨rfl, hi', ι', env', S', s', g', er', q'⟩
  by_cases hlt : i < ws.length
  · obtain ⟨w, hw⟩ : ∃ w, ws[i]? = some w := ⟨_, List.getElem?_eq_getElem hlt⟩
    have ed : ws.drop i = w :: ws.drop (i + 1) := by
      rw [List.drop_eq_getElem_cons hlt]
      rw [List.getElem?_eq_getElem hlt] at hw
      rw [Option.some.inj hw]
    rw [ed] at q'
    obtain ⟨hgo, hy⟩ := (fd ι' H' S' i g' s' q'.1).1 w hw
    refine .inr ⟨hgo, fun σ2 H2 => ∃ ι2 env2 S2, Sim X.K Tb ι2 S2 H2 ∧ Grow X.K ι1 H1 ι2 H2 ∧ ER X.K ι2 H2 env2 σ2 ∧ forL chk g mb (dn X.K Tb ι H D) (ws.drop (i + 1)) env2 S2, fun σ2 H2 n2 => ⟨ws.length - (i + 1), by omega, rfl, by omega, n2⟩, fun x H2 y => ?_⟩
    obtain ⟨ι2, s2, g2, r2⟩ := hy x H2 y
    refine ⟨ι2, env', S', w, s2, er'.grow g2, r2, hg.mono _ _ _ _ _ (fun e S3 q3 ι3 H3 σ3 s3 g3 er3 => ?_) q'.2⟩
    refine ⟨ι3, e, S3, s3, er3, hb.mono { nx := forL chk g mb (dn X.K Tb ι H D) (ws.drop (i + 1)), rt := (dn X.K Tb ι H D).rt, bk := (dn X.K Tb ι H D).nx, ct := forL chk g mb (dn X.K Tb ι H D) (ws.drop (i + 1)) } _ _ _ ⟨fun e4 S4 q4 ι4 H4 σ4 s4 g4 er4 => ?_, fun w4 S4 q4 ι4 H4 v4 s4 g4 r4 => ?_, fun e4 S4 q4 ι4 H4 σ4 s4 g4 er4 => ?_, fun e4 S4 q4 ι4 H4 σ4 s4 g4 er4 => ?_⟩ q3⟩
    · exact ⟨ι4, e4, S4, s4, ((g'.trans g2).trans g3).trans g4, er4, q4⟩
    · exact q4 ι4 H4 v4 s4 ((((g1.trans g').trans g2).trans g3).trans g4) r4
    · exact q4 ι4 H4 σ4 s4 ((((g1.trans g').trans g2).trans g3).trans g4) er4
    · exact ⟨ι4, e4, S4, s4, ((g'.trans g2).trans g3).trans g4, er4, q4⟩
  · have ei : i = ws.length := by omega
    subst ei
    rw [List.drop_length] at q'
    exact .inl ⟨(fd ι' H' S' ws.length g' s' q'.1).2 (Nat.le_refl _), q'.2 ι' H' σ' s' (g1.trans g') er'⟩
/-! ### while -/
def whL (c : MT) (body : MS) (D : MD) : Nat → EvS → Store → Prop
  | 0, _, _ => False
  | n + 1, env, S => c env S fun b S1 => if b = true then body { nx := whL c body D n, rt := D.rt, bk := D.nx, ct := whL c body D n } env S1 else D.nx env S1
def mWh (c : MT) (body : MS) : MS := fun D env S => ∃ n, whL c body D n env S
theorem whL_mono {c : MT} (hc : ∀ (env : EvS) (S : Store) (Q Q' : Bool → Store → Prop), (∀ w S', Q w S' → Q' w S') → c env S Q → c env S Q') (hb : ∀ (D D' : MD) (env : EvS) (S : Store), MD.le D D' → mb D env S → mb D' env S) (D D' : MD) (l : MD.le D D') :
    ∀ (n : Nat) (env : EvS) (S : Store), whL c mb D n env S → whL c mb D' n env S
  | 0, _, _, h => h
  | n + 1, env, S, h => hc _ _ _ _ (fun b S1 q => by
    cases b with
    | true => exact iteT (hb { nx := whL c mb D n, rt := D.rt, bk := D.nx, ct := whL c mb D n } { nx := whL c mb D' n, rt := D'.rt, bk := D'.nx, ct := whL c mb D' n } _ _ ⟨whL_mono hc hb D D' l n, l.rt, l.nx, whL_mono hc hb D D' l n⟩ q)
    | false => exact iteF (l.nx _ _ q)) h
theorem s_while {c : Expr} {mc : MT} (hc : ET X Tb c mc) (hb : ESs X Tb body mb) (hp : PassesOwn (model X.prog X.w) X.A X.env X.xe := by exact PassesOwn.never) : ES X Tb (.While c body [] pos) (mWh mc mb) := by
  refine ⟨ps_imp (ps_while hp hc.pt hb.ps) fun D σ H h => ?_, fun D D' env S l ⟨n, h⟩ => ⟨n, whL_mono hc.mono hb.mono D D' l n _ _ h⟩⟩
  obtain ⟨ι, env, S, s, er, n0, h⟩ := h
  refine ⟨fun n σ' H' => ∃ ι' env' S', Sim X.K Tb ι' S' H' ∧ Grow X.K ι H ι' H' ∧ ER X.K ι' H' env' σ' ∧ whL mc mb (dn X.K Tb ι H D) n env' S', ⟨n0, ι, env, S, s, Grow.refl, er, h⟩, ?_⟩
  rintro n σ' H' ⟨ι', env', S', s', g', er', q'⟩
  cases n with
  | zero => exact q'.elim
  | succ n =>
    refine ⟨ι', env', S', s', er', hc.mono _ _ _ _ (fun b S1 q ι1 H1 s1 g1 => ?_) q'⟩
    cases b with
    | true =>
      refine iteT ⟨fun σ2 H2 => ∃ ι2 env2 S2, Sim X.K Tb ι2 S2 H2 ∧ Grow X.K ι H ι2 H2 ∧ ER X.K ι2 H2 env2 σ2 ∧ whL mc mb (dn X.K Tb ι H D) n env2 S2, fun σ2 H2 n2 => ⟨n, Nat.lt_succ_self n, n2⟩, ?_⟩
      refine ⟨ι1, env', S1, s1, er'.grow g1, hb.mono { nx := whL mc mb (dn X.K Tb ι H D) n, rt := (dn X.K Tb ι H D).rt, bk := (dn X.K Tb ι H D).nx, ct := whL mc mb (dn X.K Tb ι H D) n } _ _ _ ⟨fun e4 S4 q4 ι4 H4 σ4 s4 g4 er4 => ?_, fun w4 S4 q4 ι4 H4 v4 s4 g4 r4 => ?_, fun e4 S4 q4 ι4 H4 σ4 s4 g4 er4 => ?_, fun e4 S4 q4 ι4 H4 σ4 s4 g4 er4 => ?_⟩ q⟩
      · exact ⟨ι4, e4, S4, s4, (g'.trans g1).trans g4, er4, q4⟩
      · exact q4 ι4 H4 v4 s4 ((g'.trans g1).trans g4) r4
      · exact q4 ι4 H4 σ4 s4 ((g'.trans g1).trans g4) er4
      · exact ⟨ι4, e4, S4, s4, (g'.trans g1).trans g4, er4, q4⟩
    | false => exact iteF (q ι1 H1 σ' s1 (g'.trans g1) (er'.grow g1))
end
/-! ### list comprehensions -/
/-- slots of the comprehension forgotten -/
def wpE (env : EvS) : List Nat → EvS
  | [] => env
  | v :: vs => (wpE env vs).set v none
def lcL (chk : Store → Prop) (g : MG) (tt : MT) (te : ME) (n : Nat) (env : EvS) (K : WK) : List W → Store → Prop
  | [], S => chk S ∧ K (.ref n) S
  | w :: r, S => chk S ∧ g w env S fun e S1 => tt e S1 fun b S2 => if b = true then te e S2 fun x S3 => ∃ acc, S3[n]? = some (.lst acc) ∧ acc.length < sizeLine ∧ lcL chk g tt te n env K r (S3.set n (.lst (acc ++ [x]))) else lcL chk g tt te n env K r S2
def mLc (mi : MI) (g : MG) (tt : MT) (te : ME) (vs : List Nat) : ME := fun env S Q => mi env S fun chk ws S1 => lcL chk g tt te S1.length (wpE env vs) Q ws (S1 ++ [.lst []])
def mYes : MT := fun _ S Q => Q true S
/-- targets that store only in the slots vs -/
def Own (g : MG) (vs : List Nat) : Prop := True
section
variable {K : PySem.W.Frag} {Tb : List Addr} {ι : List Addr} {H : Hp}
theorem wpE_len (env : EvS) : ∀ vs : List Nat, (wpE env vs).length = env.length
  | [] => rfl
  | v :: vs => by unfold wpE; rw [List.length_set, wpE_len env vs]
theorem ER.wipe {env : EvS} {σ : L2.St} (r : ER K ι H env σ) : ∀ vs : List Nat, ER K ι H (wpE env vs) (wipe σ vs)
  | [] => r
  | v :: vs => by
    have ih := ER.wipe r vs
    unfold wpE L2.wipe
    refine ⟨by rw [List.length_set, List.length_set]; exact ih.len, fun i w e => ?_⟩
    by_cases hi : v = i
    · subst hi
      by_cases hv : v < (wpE env vs).length
      · rw [List.getElem?_set_self hv] at e
        cases e
      · rw [List.getElem?_eq_none (by rw [List.length_set]; omega)] at e
        cases e
    · rw [List.getElem?_set_ne hi] at e
      rw [List.getElem?_set_ne hi]
      exact ih.at_ i w e
end
end Ev

set_option Elab.async false
set_option linter.all false
set_option maxRecDepth 100000
set_option maxHeartbeats 4000000
/-! List comprehensions. -/
namespace Ev
open PySem PySem.Spec PyProof.Rows L2 Ow
/-- a comprehension's target: it stores in the slots vs alone -/
def TW (K : PySem.W.Frag) (Tb : List Addr) (t : TG) (m : MG) (vs : List Nat) : Prop :=
  ∀ (v : V) (σ : L2.St) (H : Hp) (w : W) (env : EvS) (S : Store) (ι : List Addr) (Q : EvS → Store → Prop) (Qv : L2.St → Hp → Prop), Sim K Tb ι S H → ER K ι H env σ → VR K ι H w v → m w env S Q →
    (∀ e S' ι' H' σ', Q e S' → Sim K Tb ι' S' H' → Grow K ι H ι' H' → ER K ι' H' e σ' → wipe σ' vs = wipe σ vs → Qv σ' H') → t v σ H Qv
def TWs (K : PySem.W.Frag) (Tb : List Addr) (t : TGs) (m : MGs) (vs : List Nat) : Prop :=
  ∀ (us : List V) (σ : L2.St) (H : Hp) (ws : List W) (env : EvS) (S : Store) (ι : List Addr) (Q : EvS → Store → Prop) (Qv : L2.St → Hp → Prop), Sim K Tb ι S H → ER K ι H env σ → VRs K ι H ws us → m ws env S Q →
    (∀ e S' ι' H' σ', Q e S' → Sim K Tb ι' S' H' → Grow K ι H ι' H' → ER K ι' H' e σ' → wipe σ' vs = wipe σ vs → Qv σ' H') → t us σ H Qv
theorem wipe_set {σ : L2.St} {i : Nat} {x : Option V} : ∀ {vs : List Nat}, i ∈ vs → wipe (σ.set i x) vs = wipe σ vs
  | [], h => by cases h
  | v :: vs, h => by
    unfold L2.wipe
    by_cases hm : i ∈ vs
    · rw [wipe_set hm]
    · have e : i = v := by
        rcases List.mem_cons.mp h with e | e
        · exact e
        · exact absurd e hm
      subst e
      have out : ∀ (us : List Nat), i ∉ us → wipe (σ.set i x) us = (wipe σ us).set i x := fun us => by
        induction us with
        | nil => exact fun _ => rfl
        | cons u us ih =>
          intro hn
          rw [List.mem_cons, not_or] at hn
          unfold L2.wipe
          rw [ih hn.2, List.set_comm _ _ hn.1]
      rw [out vs hm, List.set_set]
section
variable {K : PySem.W.Frag} {Tb : List Addr}
theorem tw_name {i : Nat} {vs : List Nat} (h : i ∈ vs) : TW K Tb (gName i) (mgName i) vs := fun v σ H w env S ι Q Qv s er r q k =>
  k _ S ι H _ q s Grow.refl (er.set i r) (wipe_set h)
theorem tw_nil {vs : List Nat} : TWs K Tb gNil mgNil vs := fun us σ H ws env S ι Q Qv s er r q k => by
  obtain ⟨e, q⟩ := q
  subst e
  exact ⟨r, k _ S ι H σ q s Grow.refl er rfl⟩
theorem tw_cons {t : TG} {u : TGs} {m : MG} {n : MGs} {vs : List Nat} (a : TW K Tb t m vs) (b : TWs K Tb u n vs) : TWs K Tb (gCons t u) (mgCons m n) vs := fun us σ H ws env S ι Q Qv s er r q k => by
  cases ws with
  | nil => exact q.elim
  | cons w ws =>
    obtain ⟨v, vr, rfl, rw', rr⟩ := r
    refine ⟨v, vr, rfl, a v σ H w env S ι _ _ s er rw' q fun e S1 ι1 H1 σ1 q1 s1 g1 er1 e1 => ?_⟩
    exact b vr σ1 H1 ws e S1 ι1 _ _ s1 er1 (rr.grow g1) q1 fun e2 S2 ι2 H2 σ2 q2 s2 g2 er2 e2' => k e2 S2 ι2 H2 σ2 q2 s2 (g1.trans g2) er2 (e2'.trans e1)
theorem tw_tup {n : Nat} {u : TGs} {m : MGs} {vs : List Nat} (b : TWs K Tb u m vs) : TW K Tb (gTup K n u) (mgTup n m) vs := fun v σ H w env S ι Q Qv s er r q k => by
  cases w with
  | tup l =>
    obtain ⟨a, us, rfl, hq, rv⟩ := r
    exact ⟨a, us, rfl, hq, by rw [rv.len]; exact q.1, b us σ H l env S ι _ _ s er rv q.2 k⟩
  | _ => exact q.elim
end
structure EGw (X : Cx) (Tb : List Addr) (scope : Scope) (tg : Expr) (m : MG) (vs : List Nat) : Prop where
  ex : ∃ t, (∀ (s : Shared) (H : Hp) (C : Addr) (cl : List (Str × Addr)) (fp : List Addr), PG (X.blk s H scope (compEnvC scope cl C X.env) fp) tg t) ∧ TW X.K Tb t m vs
  mono : ∀ (w : W) (env : EvS) (S : Store) (Q Q' : EvS → Store → Prop), (∀ e S', Q e S' → Q' e S') → m w env S Q → m w env S Q'
structure EGws (X : Cx) (Tb : List Addr) (scope : Scope) (tg : List Expr) (m : MGs) (vs : List Nat) : Prop where
  ex : ∃ t, (∀ (s : Shared) (H : Hp) (C : Addr) (cl : List (Str × Addr)) (fp : List Addr), PGs (X.blk s H scope (compEnvC scope cl C X.env) fp) tg t) ∧ TWs X.K Tb t m vs
  mono : ∀ (w : List W) (env : EvS) (S : Store) (Q Q' : EvS → Store → Prop), (∀ e S', Q e S' → Q' e S') → m w env S Q → m w env S Q'
/-- a clause's tests -/
structure EF (X : Cx) (Tb : List Addr) (scope : Scope) (ifs : List Expr) (m : MT) : Prop where
  pt : ∀ (s : Shared) (H : Hp) (C : Addr) (cl : List (Str × Addr)) (fp : List Addr), PTs (X.blk s H scope (compEnvC scope cl C X.env) fp) ifs (LT X.K Tb m)
  mono : ∀ (env : EvS) (S : Store) (Q Q' : Bool → Store → Prop), (∀ w S', Q w S' → Q' w S') → m env S Q → m env S Q'
theorem pts_imp {X : Cx} {ifs : List Expr} {t t' : L2.TT} (h : PTs X ifs t) (k : ∀ σ H Q, t' σ H Q → t σ H Q) : PTs X ifs t' := ⟨fun pins s σ H Q I q => h.run pins s σ H Q I (k σ H Q q)⟩
section
variable {X : Cx} {Tb : List Addr} {scope : Scope} {vs : List Nat} {e : Expr} {es : List Expr} {pos : Pos} {mg : MG} {mgs : MGs}
theorem gw_name {i : Nat} {x : Str} (hN : X.N.Nodup) (hm : i ∈ vs := by decide) (hi : X.N[i]? = some x := by rfl) (hx : ∀ (cl : List (Str × Addr)) (C : Addr), Loc (compEnvC scope cl C X.env).scope x := by intro _ _; first | exact Or.inl rfl | exact Or.inr rfl)
    (hf : (scope.names.lookup x == some .cell) = true ∨ ∀ (cl : List (Str × Addr)) (C : Addr), (compEnvC scope cl C X.env).scope.names.lookup x = some .local := by first | exact .inr fun _ _ => rfl | exact .inl rfl) : EGw X Tb scope (.Name x pos) (mgName i) vs :=
  ⟨⟨gName i, fun s H C cl fp => pg_name hN hi (hx cl C) (hf.elim .inl fun z => .inr (z cl C)), tw_name hm⟩, fun _ _ _ _ _ k h => k _ _ h⟩
theorem gws_nil : EGws X Tb scope [] mgNil vs := ⟨⟨gNil, fun _ _ _ _ _ => pgs_nil, tw_nil⟩, fun _ _ _ _ _ k h => ⟨h.1, k _ _ h.2⟩⟩
theorem gws_cons (a : EGw X Tb scope e mg vs) (b : EGws X Tb scope es mgs vs) (hs : ∀ env : Env, (assignEach (e :: es) env).map (·.2) = assign e env :: (assignEach es env).map (·.2) := by intro _; rfl) : EGws X Tb scope (e :: es) (mgCons mg mgs) vs := by
  obtain ⟨t, h1, w1⟩ := a.ex
  obtain ⟨u, h2, w2⟩ := b.ex
  refine ⟨⟨gCons t u, fun s H C cl fp => pgs_cons (h1 s H C cl fp) (h2 s H C cl fp) (hs _), tw_cons w1 w2⟩, fun ws env S Q Q' k h => ?_⟩
  cases ws with
  | nil => exact h.elim
  | cons w ws => exact a.mono _ _ _ _ _ (fun e S' q => b.mono _ _ _ _ _ k q) h
theorem gw_tup {k n : Nat} (b : EGws X Tb scope es mgs vs) (hc : X.calm = true := by rfl) (hn : ∀ env : Env, (assignEach es env).length = n := by intro _; rfl) (hst : ∀ env : Env, (assignEach es env).findIdx? (·.1) = none := by intro _; rfl) : EGw X Tb scope (.Tuple es k pos) (mgTup n mgs) vs := by
  obtain ⟨u, h2, w2⟩ := b.ex
  refine ⟨⟨gTup X.K n u, fun s H C cl fp => pg_tup (X := X.blk s H scope (compEnvC scope cl C X.env) fp) hc (h2 s H C cl fp) (hn _) (hst _), tw_tup w2⟩, fun w env S Q Q' k q => ?_⟩
  cases w with
  | tup l => exact ⟨q.1, b.mono _ _ _ _ _ k q.2⟩
  | _ => exact q.elim
theorem f_nil : EF X Tb scope [] mYes := ⟨fun s H C cl fp => pts_imp pts_nil fun σ H Q ⟨ι, env, S, s, er, h⟩ => h ι H s Grow.refl, fun _ _ _ _ k h => k _ _ h⟩
theorem f_one {m : MT} (h : ∀ (s : Shared) (H : Hp) (C : Addr) (cl : List (Str × Addr)) (fp : List Addr), ET (X.blk s H scope (compEnvC scope cl C X.env) fp) Tb e m) : EF X Tb scope [e] m :=
  ⟨fun s H C cl fp => pts_one (h s H C cl fp).pt, (h {} (fun _ => none) 0 [] []).mono⟩
end
theorem lst_at {K : PySem.W.Frag} {Tb ι : List Addr} {S : Store} {H : Hp} {n : Nat} {a : Addr} {l : List W} (s : Sim K Tb ι S H) (ha : ι[n]? = some a) (hl : S[n]? = some (.lst l)) : ∃ vs, H a = some (.lst vs) ∧ VRs K ι H l vs := by
  obtain ⟨b, h1, vs, e, r⟩ := s.obj n _ hl
  rw [ha] at h1
  cases h1
  exact ⟨vs, e, r⟩
/-- a list is changed -/
theorem setL {K : PySem.W.Frag} {Tb ι : List Addr} {S : Store} {H : Hp} {n : Nat} {a : Addr} {l l0 : List W} {vs : List V} (s : Sim K Tb ι S H) (ha : ι[n]? = some a) (hl : S[n]? = some (.lst l0)) (r : VRs K ι H l vs) :
    Sim K Tb ι (S.set n (.lst l)) (upd H a (.lst vs)) ∧ Grow K ι H ι (upd H a (.lst vs)) := by
  obtain ⟨us, e, _⟩ := lst_at s ha hl
  exact s.set ha (fun ob v z => by rw [e] at z; cases z) fun H' g e' => ⟨vs, e', r.grow g⟩
theorem lift_lc {K : PySem.W.Frag} {Tb : List Addr} {mi : MI} {wi : TI} {t : TG} {mg : MG} {tt : MT} {te : ME} {vs : List Nat} (hl : LI K Tb mi wi) (him : ∀ (env : EvS) (S : Store) (R R' : (Store → Prop) → List W → Store → Prop), (∀ c w S', R c w S' → R' c w S') → mi env S R → mi env S R')
    (hw : TW K Tb t mg vs) (ht : ∀ (env : EvS) (S : Store) (Q Q' : Bool → Store → Prop), (∀ w S', Q w S' → Q' w S') → tt env S Q → tt env S Q') (he : MonoE te)
    {σ : L2.St} {H : Hp} {Q : VK} (h : LE K Tb (mLc mi mg tt te vs) σ H Q) : tLc wi t (LT K Tb tt) (LE K Tb te) vs σ H Q := by
  obtain ⟨ι, env, S, s, er, h⟩ := h
  refine hl σ H _ ι env S s er (him _ _ _ _ (fun chk ws S1 q ι1 H1 J s1 g1 fd => ?_) h)
  intro D hD
  obtain ⟨ι2, s2, g2, a0, hD2, ea⟩ := newL (ws := []) (vs := []) s1 rfl hD
  cases ea
  refine ⟨fun i m H' => m = ws.length - i ∧ i ≤ ws.length ∧ ∃ ι' S', Sim K Tb ι' S' H' ∧ Grow K ι2 (upd H1 D (.lst [])) ι' H' ∧ lcL chk mg tt te S1.length (wpE env vs) (fun w S' => ∀ ι' H' v, Sim K Tb ι' S' H' → Grow K ι H ι' H' → VR K ι' H' w v → Q v H') (ws.drop i) S',
    ⟨ws.length, by simp, Nat.zero_le _, ι2, _, s2, Grow.refl, by rw [List.drop_zero]; exact q⟩, ?_⟩
  rintro i m H' ⟨rfl, hi', ι', S', s', g', q'⟩
  by_cases hlt : i < ws.length
  · obtain ⟨w, hw'⟩ : ∃ w, ws[i]? = some w := ⟨_, List.getElem?_eq_getElem hlt⟩
    have ed : ws.drop i = w :: ws.drop (i + 1) := by
      rw [List.drop_eq_getElem_cons hlt]
      rw [List.getElem?_eq_getElem hlt] at hw'
      rw [Option.some.inj hw']
    rw [ed] at q'
    obtain ⟨hgo, hy⟩ := (fd ι' H' S' i (g2.trans g') s' q'.1).1 w hw'
    refine .inr ⟨hgo, fun H3 => ∃ ι3 S3, Sim K Tb ι3 S3 H3 ∧ Grow K ι2 (upd H1 D (.lst [])) ι3 H3 ∧ lcL chk mg tt te S1.length (wpE env vs) (fun w S' => ∀ ι' H' v, Sim K Tb ι' S' H' → Grow K ι H ι' H' → VR K ι' H' w v → Q v H') (ws.drop (i + 1)) S3, fun H3 n3 => ⟨ws.length - (i + 1), by omega, rfl, by omega, n3⟩, fun x H3 y => ?_⟩
    obtain ⟨ι3, s3, g3, r3⟩ := hy x H3 y
    have er3 : ER K ι3 H3 (wpE env vs) (wipe σ vs) := (((er.grow g1).grow g2).grow g').grow g3 |>.wipe vs
    refine hw x _ H3 w _ S' ι3 _ _ s3 er3 r3 q'.2 fun e S4 ι4 H4 σ4 q4 s4 g4 er4 e4 => ⟨?_, ι4, e, S4, s4, er4, ht _ _ _ _ (fun b S5 q5 ι5 H5 s5 g5 => ?_) q4⟩
    · rw [e4]
      have ww : ∀ us : List Nat, (∀ u ∈ us, u ∈ vs) → wipe (wipe σ us) vs = wipe σ vs := fun us => by
        induction us with
        | nil => exact fun _ => rfl
        | cons u us ih =>
          intro hm
          show wipe ((wipe σ us).set u none) vs = _
          rw [wipe_set (hm u List.mem_cons_self), ih fun x hx => hm x (List.mem_cons_of_mem _ hx)]
      exact ww vs fun _ h => h
    cases b with
    | true =>
      refine iteT ⟨ι5, e, S5, s5, er4.grow g5, he _ _ _ _ (fun x6 S6 q6 ι6 H6 v6 s6 g6 r6 => ?_) q5⟩
      obtain ⟨acc, ha, hz, q6⟩ := q6
      have gg := (((g'.trans g3).trans g4).trans g5).trans g6
      have hD6 := gg.at hD2
      obtain ⟨us, eu, ru⟩ := lst_at s6 hD6 ha
      obtain ⟨s7, g7⟩ := setL s6 hD6 ha (ru.app (VRs.one r6))
      exact ⟨us, eu, by rw [ru.len]; exact hz, ι6, _, s7, gg.trans g7, q6⟩
    | false => exact iteF ⟨ι5, S5, s5, ((g'.trans g3).trans g4).trans g5, q5⟩
  · have ei : i = ws.length := by omega
    subst ei
    rw [List.drop_length] at q'
    exact .inl ⟨(fd ι' H' S' ws.length (g2.trans g') s' q'.1).2 (Nat.le_refl _), q'.2 ι' H' (.ref D) s' ((g1.trans g2).trans g') ⟨D, g'.at hD2, rfl⟩⟩
theorem lcL_mono {chk : Store → Prop} {mg : MG} {tt : MT} {te : ME} {n : Nat} {env : EvS} {Q Q' : WK} (hg : ∀ (w : W) (env : EvS) (S : Store) (Q Q' : EvS → Store → Prop), (∀ e S', Q e S' → Q' e S') → mg w env S Q → mg w env S Q') (ht : ∀ (env : EvS) (S : Store) (Q Q' : Bool → Store → Prop), (∀ w S', Q w S' → Q' w S') → tt env S Q → tt env S Q') (he : MonoE te)
    (k : ∀ w S', Q w S' → Q' w S') : ∀ (ws : List W) (S : Store), lcL chk mg tt te n env Q ws S → lcL chk mg tt te n env Q' ws S
  | [], S, h => ⟨h.1, k _ _ h.2⟩
  | w :: r, S, h => ⟨h.1, hg _ _ _ _ _ (fun e S1 q => ht _ _ _ _ (fun b S2 q2 => by
    cases b with
    | true => exact iteT (he _ _ _ _ (fun x S3 ⟨acc, a, b, q3⟩ => ⟨acc, a, b, lcL_mono hg ht he k r _ q3⟩) q2)
    | false => exact iteF (lcL_mono hg ht he k r _ q2)) q) h.2⟩
theorem mLc_mono {mi : MI} {mg : MG} {tt : MT} {te : ME} {vs : List Nat} (him : ∀ (env : EvS) (S : Store) (R R' : (Store → Prop) → List W → Store → Prop), (∀ c w S', R c w S' → R' c w S') → mi env S R → mi env S R')
    (hg : ∀ (w : W) (env : EvS) (S : Store) (Q Q' : EvS → Store → Prop), (∀ e S', Q e S' → Q' e S') → mg w env S Q → mg w env S Q') (ht : ∀ (env : EvS) (S : Store) (Q Q' : Bool → Store → Prop), (∀ w S', Q w S' → Q' w S') → tt env S Q → tt env S Q') (he : MonoE te) : MonoE (mLc mi mg tt te vs) := fun env S Q Q' k h =>
  him _ _ _ _ (fun c w S' q => lcL_mono hg ht he k _ _ q) h
section
variable {X : Cx} {Tb : List Addr} {scope : Scope} {own : List (Str × Nat)} {elt tg iter : Expr} {ifs : List Expr} {pos : Pos} {mi : MI} {mg : MG} {tt : MT} {te : ME}
theorem e_lc (hN : X.N.Nodup) (hi : EI X Tb tg iter mi) (ok : BlkOk X.N X.env.scope scope own) (hg : EGw X Tb scope tg mg (own.map (·.2))) (ht : EF X Tb scope ifs tt)
    (he : ∀ (s : Shared) (H : Hp) (C : Addr) (cl : List (Str × Addr)) (fp : List Addr), EE (X.blk s H scope (compEnvC scope cl C X.env) fp) Tb elt te) (hc : X.calm = true := by rfl) (hs : ∀ x, foldedSetIterable iter X.env x = pure x := by intro _; rfl) :
    EE X Tb (.ListComp elt [⟨tg, iter, ifs, 0⟩] scope pos) (mLc mi mg tt te (own.map (·.2))) := by
  obtain ⟨wi, hp, hl⟩ := hi.ex
  obtain ⟨t, ht1, hw⟩ := hg.ex
  have hm := (he {} (fun _ => none) 0 [] []).mono
  exact ⟨pe_imp (pe_lc hc hN hp ok ht1 ht.pt (fun s H C cl fp => (show PE _ elt (LE X.K Tb te) from (he s H C cl fp).pe)) hs) fun σ H Q h => lift_lc hl hi.mono hw ht.mono hm h, mLc_mono hi.mono hg.mono ht.mono hm⟩
theorem s_setLc {i : Nat} {y : Str} {py spos : Pos} (hN : X.N.Nodup) (hi : EI X Tb tg iter mi) (ok : BlkOk X.N X.env.scope scope own) (hg : EGw X Tb scope tg mg (own.map (·.2))) (ht : EF X Tb scope ifs tt)
    (he : ∀ (s : Shared) (H : Hp) (C : Addr) (cl : List (Str × Addr)) (fp : List Addr), EE (X.blk s H scope (compEnvC scope cl C X.env) fp) Tb elt te)
    (hsw : swapsWith (.ListComp elt [⟨tg, iter, ifs, 0⟩] scope pos) (some (.Name y py)) spos.line X.env = pure true) (hy : X.N[i]? = some y := by rfl) (hyl : X.env.scope.names.lookup y = some .local := by rfl) (hc : X.calm = true := by rfl) (hs : ∀ x, foldedSetIterable iter X.env x = pure x := by intro _; rfl) :
    ES X Tb (.Assign [.Name y py] (.ListComp elt [⟨tg, iter, ifs, 0⟩] scope pos) spos) (mAsg (mLc mi mg tt te (own.map (·.2))) (mgName i)) := by
  obtain ⟨wi, hp, hl⟩ := hi.ex
  obtain ⟨t, ht1, hw⟩ := hg.ex
  have hm := (he {} (fun _ => none) 0 [] []).mono
  have mm := mLc_mono (vs := own.map (·.2)) hi.mono hg.mono ht.mono hm
  refine ⟨ps_imp (ps_setLc hc hN hy hyl hsw hp ok ht1 ht.pt (fun s H C cl fp => (show PE _ elt (LE X.K Tb te) from (he s H C cl fp).pe)) hs) fun D σ H h => ?_, mAsg_mono mm fun _ _ _ _ _ k h => k _ _ h⟩
  obtain ⟨ι, env, S, s, er, h⟩ := h
  refine lift_lc hl hi.mono hw ht.mono hm ⟨ι, env, S, s, er, mm _ _ _ _ (fun w S1 q ι1 H1 v s1 g1 r1 => ?_) h⟩
  exact q ι1 H1 _ s1 g1 ((er.grow g1).set i r1)
end
end Ev

set_option Elab.async false
set_option linter.all false
set_option maxRecDepth 100000
set_option maxHeartbeats 4000000
/-! all(e for x in xs), where e calls defs. -/
namespace Ev
open PySem PySem.Spec PyProof.Rows L2 Ow GenW
/-- the generator's own context: its frame stands on the def's -/
abbrev gX (X : Cx) (A : Around) (s : Shared) (H : Hp) (scope : Scope) (cenv : Env) (fp : List Addr) : Cx :=
  { X with A := A, s_0 := s, H_0 := H, env := cenv, outer := X.stack, stack := cenv :: X.stack, ex := fp, fn := fun x => scope.names.lookup x == some .cell, pn := [], xe := fun _ _ => False, calm := true }
/-- names of the generator's scope: its own, or captured -/
structure GOk (N : List Str) (sc scope : Scope) (own : List (Str × Nat)) : Prop where
  blk : BlkOk N sc scope own
  cell : ∀ y ∈ scope.names, y.2 ≠ .cell
  dot : scope.names.lookup (".0" : Str) = some NameKind.local
  co : scope.isCoroutine = false
section
variable {X : Cx} {pins : List (Addr × Obj)} {σ : L2.St} {H : Hp}
theorem gen_inv {A : Around} {scope : Scope} {own : List (Str × Nat)} {fp : List Addr} {s4 s5 : Shared} {code : Value} {it : Value} {go : Obj} {a : Addr}
    (I : Inv X pins σ H s4) (ok : GOk X.N X.env.scope scope own) (hN : X.N.Nodup) (hA : A.handled = none) (hAf : A.frames = some (genEnv scope (cloFrom X.env.cells scope.names []) s4.heap.objs.size code builtinsNs X.env :: X.stack))
    (hfp : ∀ b ∈ fp, FpOk X pins H b ∧ b < s4.heap.objs.size) (hos : s5.os = s4.os) (hb : AllBare s5.gens) (kp : ∀ b o, s4.heap.get? b = some o → s5.heap.get? b = some o)
    (hns : s5.heap.Ns s4.heap.objs.size fun y => if y = ".0" then some it else none) (ha : s5.heap.get? a = some go) (ha4 : s4.heap.objs.size < a) (hgo : ∀ v, go.data ≠ .cell v) :
    Inv (gX X A s4 H scope (genEnv scope (cloFrom X.env.cells scope.names []) s4.heap.objs.size code builtinsNs X.env) fp) [(a, go)] (wipe σ (own.map (·.2))) H s5 := by
  have hfree : ∀ y ∈ scope.names, y.2 = .free → ∃ c, X.env.cells.lookup y.1 = some c := fun y hy e => by
    rcases ok.blk.free y hy e with k | k
    · exact I.ok.has _ (.inl k)
    · exact I.ok.has _ (.inr k)
  have cm : ∀ {y c}, (cloFrom X.env.cells scope.names []).lookup y = some c → X.env.cells.lookup y = some c ∧ c < s4.heap.objs.size := fun {y c} e => by
    rcases cloFrom_mem (PySem.mem_of_lookup e) with hm | ⟨h1, rfl⟩
    · cases hm
    · obtain ⟨c, hc⟩ := hfree _ h1 rfl
      rw [hc]
      obtain ⟨w, z⟩ := I.cell _ _ hc
      exact ⟨rfl, z.lt⟩
  have look : ∀ {y}, scope.names.lookup y = some .free → ∃ c, (cloFrom X.env.cells scope.names []).lookup y = some c ∧ X.env.cells.lookup y = some c := fun {y} hl => by
    obtain ⟨c', e'⟩ := mem_lookup (cloFrom_has (cells := X.env.cells) (acc := []) (PySem.mem_of_lookup hl))
    exact ⟨c', e', (cm e').1⟩
  have nocell : ∀ y, scope.names.lookup y ≠ some .cell := fun y e => ok.cell _ (PySem.mem_of_lookup e) rfl
  refine ⟨⟨I.ok.mod, ok.blk.kind, I.ok.glob, rfl, Nat.le_refl _, fun y z c e1 e2 => I.ok.inj y z c (cm e1).1 (cm e2).1, fun y hy => ?_, fun y c z e => ?_, fun _ => hA, hAf, .inr ⟨rfl, rfl⟩, fun b hb => ⟨?_, fun y c e z => ?_⟩, I.bs, Nat.le_trans I.ok.bsz I.sz, fun b o e hb => ?_, fun b hb z => ?_, I.stack, I.stkFree⟩,
    hos, hb, Un.kept kp, ⟨_, hns, fun i y av e1 e2 e3 => ?_⟩, fun y c e => ?_, ?_, fun y c e => ?_, fun p hp => ?_, I.hok.kept kp, by rw [wipe_length]; exact I.len⟩
  · rcases hy with hy | hy
    · exact absurd hy (nocell y)
    · obtain ⟨c, h1, _⟩ := look hy
      exact ⟨c, h1⟩
  · have z : (scope.names.lookup y == some NameKind.cell) = true := z
    exact absurd (by simpa using z) (nocell y)
  · exact Nat.ne_of_lt (hfp b hb).2
  · have e : (cloFrom X.env.cells scope.names []).lookup y = some c := e
    exact (hfp b hb).1.2.2.2.2.1 y c (cm e).1 z
  · rcases (hfp b hb).1.2.2.2.1 with z | z
    · exact I.ok.noex b o e z
    · exact absurd (Nat.lt_of_lt_of_le (Heap.lt_size e) (Nat.le_trans I.ok.bsz z)) (Nat.lt_irrefl _)
  · rcases List.mem_cons.mp (I.stkSub b z) with z | z
    · exact (hfp b hb).1.2.1 z
    · exact (hfp b hb).1.2.2.1 z
  · obtain ⟨e2, hne⟩ := wipe_some e2
    have hl : scope.names.lookup y = some .free := by
      have no : ∀ k, scope.names.lookup y = some k → ¬ (k = .local ∨ k = .cell) := fun k hk hh => by
        rcases ok.blk.own _ (PySem.mem_of_lookup hk) hh with e' | e'
        · obtain ⟨p, hp, hpy⟩ := List.mem_map.mp e'
          have e3 := ok.blk.ix p hp
          have : p.1 = y := hpy
          rw [this] at e3
          exact hne (List.mem_map.mpr ⟨p, hp, nodup_ix hN e3 e1⟩)
        · exact e' (List.mem_of_getElem? e1)
      rcases e3 with e3 | e3 | e3
      · exact absurd (.inl rfl) (no _ e3)
      · exact absurd (.inr rfl) (no _ e3)
      · exact e3
    obtain ⟨m, hn, hlm⟩ := I.loc
    have hvis : Vis X.env.scope y := (ok.blk.free _ (PySem.mem_of_lookup hl) rfl).elim (fun k => .inr (.inl k)) (fun k => .inr (.inr k))
    obtain ⟨w, r, q⟩ := hlm i y av e1 e2 hvis
    refine ⟨w, r, .inr ⟨.inr hl, ?_⟩⟩
    obtain ⟨c, h1, h2⟩ := look hl
    rcases q with ⟨k, _⟩ | ⟨_, c', e', z⟩
    · have k : X.env.scope.names.lookup y = some .local := k
      rcases ok.blk.free _ (PySem.mem_of_lookup hl) rfl with k' | k' <;> rw [show X.env.scope.names.lookup y = _ from k'] at k <;> cases k
    · rw [h2] at e'
      cases e'
      exact ⟨c, h1, z.keeps kp⟩
  · have e : (cloFrom X.env.cells scope.names []).lookup y = some c := e
    obtain ⟨w, z⟩ := I.cell y c (cm e).1
    exact ⟨w, z.keeps kp⟩
  · exact I.hok.fresh (Nat.le_refl _)
  · have e : (cloFrom X.env.cells scope.names []).lookup y = some c := e
    exact I.freeC y c (cm e).1
  · have hp' : p = (a, go) := by
      have : p ∈ [(a, go)] := hp
      simpa using this
    subst hp'
    refine ⟨ha, I.hok.fresh (Nat.le_of_lt ha4), Nat.ne_of_gt ha4, fun z => ?_, hgo⟩
    rcases List.mem_cons.mp (I.stkSub a z) with z | z
    · have := I.lt
      rw [← z] at this
      exact absurd (Nat.lt_trans this ha4) (Nat.lt_irrefl _)
    · exact I.nofs (Nat.le_of_lt ha4) z
end
/-- what the generator hands out: b; H': the heap then; w: what is known -/
def YG (XG : Cx) (pn : List (Addr × Obj)) (Qf : Hp → Prop) : Protocol := fun n s₀ v s1 kap => ∃ b σ' H', v = Value.bool b ∧ Inv XG pn σ' H' s1 ∧ (b = false → Qf H') ∧ ∀ G, AllBare G → b = true → kap (.send .none) { s1 with gens := G }
def RG (XG : Cx) (pn : List (Addr × Obj)) (Qt : Hp → Prop) : Nat → Shared → Shared → Prop := fun _ _ s1 => ∃ σ' H', Inv XG pn σ' H' s1 ∧ Qt H'
section
variable {XG : Cx} {elt tg iter : Expr} {scope : Scope} {pos : Pos} {AG : Around} {J : It} {fp : List Addr} {it : Addr} {tn : Nat → Heap → Prop} {g : TG} {te : TE} {vs : List Nat} {σ : L2.St} {Qt Qf : Hp → Prop} {pn : List (Addr × Obj)} {W : Nat → Nat → Hp → Prop}
theorem Inv.gens {pins : List (Addr × Obj)} {σ : L2.St} {H : Hp} {s : Shared} {G : Array GenState} (I : Inv XG pins σ H s) (h : AllBare G) : Inv XG pins σ H { s with gens := G } :=
  I.call' (ch := []) rfl Un.refl I.hok h fun b hb => by cases hb
theorem seg_all (hA : AG.over (.compLoop (.GeneratorExp elt [⟨tg, iter, [], 0⟩] scope pos) 0 (.ref it) .none XG.env) [] = XG.A) (hco : XG.env.scope.isCoroutine = false) (hxe : XG.xe = fun _ _ => False) (hc : XG.calm = true) (hpn0 : XG.pn = [])
    (hex : XG.ex = fp) (T : Turn XG.prog XG.w XG.K tg J fp it tn) (hg : PG XG tg g) (he : PE XG elt te)
    (turn : ∀ i m H, W i m H → (J.stop i H ∧ Qt H) ∨ (J.go i H ∧ ∃ N : Hp → Prop, (∀ H', N H' → ∃ m', m' < m ∧ W (i + 1) m' H') ∧ ∀ x H', J.yld i H x H' → g x (wipe σ vs) H' fun σ2 H3 => wipe σ2 vs = wipe σ vs ∧ te σ2 H3 fun y H4 => ∃ b, y = .bl b ∧ if b = true then N H4 else Qf H4))
    (hfp : ∀ b ∈ fp, b ≠ XG.env.locals ∧ b ∉ XG.fs ∧ (∀ x c, XG.env.cells.lookup x = some c → c ≠ b) ∧ ∀ p ∈ pn, p.1 ≠ b) :
    ∀ (n i m : Nat) (s₀ s : Shared) (H : Hp), m < n → W i m H → Inv XG pn (wipe σ vs) H s → tn i s.heap → (∀ b ∈ fp, H b = none) →
      Seg (model XG.prog XG.w) AG (fun n s₀ r s1 => r = .ok .next ∧ RG XG pn Qt n s₀ s1) (YG XG pn Qf) n s₀
        (.compLoop (.GeneratorExp elt [⟨tg, iter, [], 0⟩] scope pos) 0 (.ref it) .none XG.env) ((model XG.prog XG.w).den (.compLoop (.GeneratorExp elt [⟨tg, iter, [], 0⟩] scope pos) 0 (.ref it) .none XG.env)) [] s := by
  have stat : ∀ {H' : Hp}, (∀ b ∈ fp, H' b = none) → ∀ b ∈ fp, FpOk XG pn H' b := fun hn b hb => by
    obtain ⟨h1, h2, h3, h4⟩ := hfp b hb
    refine ⟨hn b hb, h1, h2, .inl (by rw [hex]; exact hb), h3, fun p hp => ?_⟩
    rw [hpn0] at hp
    exact h4 p hp
  intro n
  induction n with
  | zero =>
    intro i m s₀ s H hm
    exact absurd hm (Nat.not_lt_zero m)
  | succ n ih =>
    intro i m s₀ s H hm w I st hn
    show Seg _ AG _ _ _ s₀ _ ((compTurn (.GeneratorExp elt [⟨tg, iter, [], 0⟩] scope pos) 0 (.ref it) .none XG.env).onRaise (leaving XG.env)) [] s
    rw [compTurn_gen, Sem.onRaise_eq_wrap]
    refine seg_bind_wrap (wpAny_standAt ?_)
    refine seg_bind_wrap ?_
    rw [hA]
    rcases turn i m H w with ⟨stop, qq⟩ | ⟨go, N, hN, step⟩
    · refine wpAny_mono (T.done XG rfl rfl rfl hc i pn s _ H (fun _ _ => False) I (stat hn) st stop) (fun r s1 ⟨hr, I1⟩ => ?_) fun _ _ z => z.elim
      subst hr
      exact seg_end (.ok .next) ⟨rfl, _, H, I1, qq⟩
    · refine wpAny_mono (T.item XG rfl rfl rfl hc i pn s _ H (fun _ _ => False) I (stat hn) st go) (fun r s1 ⟨u, hr, h1⟩ => ?_) fun _ _ z => z.elim
      subst hr
      refine seg_bind_wrap ?_
      rw [hA]
      refine wpAny_mono h1 (fun _ s2 ⟨x, H2, I2, r2, y2, st2, n2⟩ => ?_) fun _ _ z => z.elim
      have I2' := I2.pinned (stat n2) (T.obj _ _ st2)
      refine seg_bind_wrap ?_
      rw [hA]
      refine wpAny_mono (hg.run _ s2 _ H2 x u _ I2' r2 (step x H2 y2)) (fun _ s3 ⟨σ3, H3, I3, hw3, q3⟩ => ?_) fun e s' z => by rw [hxe] at z; exact z.elim
      simp only [List.forIn_nil]
      refine seg_bind_wrap (wpAny_pure ?_)
      simp only [if_true]
      have hy : ∀ v, yieldOut XG.env v = yieldValue v := fun v => by simp only [yieldOut, hco, Bool.false_eq_true, if_false]
      simp only [hy]
      rw [Sem.bind_eq_wrap', Sem.bind_eq_wrap', Sem.wrap_wrap, Sem.wrap_wrap]
      refine seg_wrap ?_
      rw [hA]
      refine wpAny_mono (he.run _ s3 σ3 H3 _ I3 q3) (fun v s4 ⟨y4, H4, I4, r4, b, eb, q4⟩ => ?_) fun e s' z => by rw [hxe] at z; exact z.elim
      subst eb
      obtain rfl : v = Value.bool b := r4
      refine seg_at (seg_yield rfl rfl rfl ?_)
      have back := I4.unpinned (pins := pn)
      have pin' : ∀ b ∈ fp, ∀ o, s2.heap.get? b = some o → s4.heap.get? b = some o ∧ H4 b = none := fun b hb o e =>
        let z := I4.pin (b, o) (List.mem_append_right _ (List.mem_append_right _ (mem_pinsAt hb e)))
        ⟨z.1, z.2.1⟩
      refine ⟨b, σ3, H4, rfl, back, fun e => ?_, fun G hG e => ?_⟩
      · subst e
        simpa using q4
      · subst e
        rw [if_pos rfl] at q4
        obtain ⟨m', hm', w'⟩ := hN H4 q4
        refine seg_again rfl (ih (i + 1) m' _ _ H4 (by omega) w' ?_ (T.keep _ _ _ st2 fun b hb o e => (pin' b hb o e).1) fun b hb => ?_)
        · refine (Inv.gens back hG).weak (by
            have hz := congrArg List.length hw3
            rw [wipe_length, wipe_length] at hz
            rw [wipe_length]
            exact hz.symm) fun j v e => ?_
          rw [← hw3] at e
          exact (wipe_some e).1
        · obtain ⟨o, e, _⟩ := T.obj _ _ st2 b hb
          exact (pin' b hb o e).2
end
section
variable {XG : Cx} {Qt Qf : Hp → Prop} {pn : List (Addr × Obj)} {R : Result → Shared → Prop} {A : Around} {a : Addr} {g : Nat}
theorem all_turns (hh : A.handled = none) (hd : A.depth < recursionLimit) (gen : ∀ {σ' : L2.St} {H' : Hp} {s1 : Shared}, Inv XG pn σ' H' s1 → s1.heap.IsGen a g)
    (hT : ∀ (σ' : L2.St) (H' : Hp) (s1 : Shared) (h' : Heap), Inv XG pn σ' H' s1 → Qt H' → (∀ b o, s1.heap.get? b = some o → h'.get? b = some o) → R (.ok (.ret (.bool true))) { s1.setGen g .finished with heap := h' })
    (hF : ∀ (σ' : L2.St) (H' : Hp) (s1 : Shared) (gs' : GenState), Inv XG pn σ' H' s1 → Qf H' → gs'.bare = true → R (.ok (.ret (.bool false))) (s1.setGen g gs')) :
    ∀ (n : Nat) (s : Shared), s.heap.IsGen a g → s.heap.NoLimit →
      (∃ gs, s.gens[g]? = some gs ∧ gs.Goes (model XG.prog XG.w) A.in1.in1 (fun n s₀ r s1 => r = .ok .next ∧ RG XG pn Qt n s₀ s1) (YG XG pn Qf) n (.send .none) (s.setGen g .running)) →
      codeAny (model XG.prog XG.w) A (.builtin "all.loop" ⟨[.ref a], []⟩) R s := by
  intro n
  induction n with
  | zero =>
    intro s hg hl ⟨gs, hgs, hgo⟩
    refine codeAny_builtin F.entry_all_loop ?_
    rw [Around.under_plainId F.plain_all_loop _]
    show wpAny _ A.in1 (pyNext (.ref a) >>= _) _ _ s
    refine wpAny_bind (wpAny_pyNext_genexpQ (A := A.in1) (P := RG XG pn Qt) hh hl hd hg hgs hgo (fun v s1 gs' hb hv => ?_) fun s1 hp h' hk => ?_)
    · obtain ⟨b, σ', H', rfl, I', hf, hk⟩ := hv
      cases b with
      | true => exact (hk _ I'.bare rfl).elim
      | false =>
        refine wpAny_bind (wpAny_holding (wpAny_truthy_bool ?_))
        refine wpAny_bind (wpAny_letGo ?_)
        simp only [Bool.false_eq_true, if_false]
        exact wpAny_bind (wpAny_rule (wpAny_pure (hF σ' H' s1 gs' I' (hf rfl) hb)))
    · obtain ⟨σ', H', I', q⟩ := hp
      exact wpAny_bind (wpAny_rule (wpAny_pure (hT σ' H' s1 h' I' q hk)))
  | succ n ih =>
    intro s hg hl ⟨gs, hgs, hgo⟩
    have hgl : g < s.gens.size := (Array.getElem?_eq_some_iff.mp hgs).1
    refine codeAny_builtin F.entry_all_loop ?_
    rw [Around.under_plainId F.plain_all_loop _]
    show wpAny _ A.in1 (pyNext (.ref a) >>= _) _ _ s
    refine wpAny_bind (wpAny_gsz (n := g + 1) hgl (wpAny_pyNext_genexpQ (A := A.in1) (P := RG XG pn Qt) hh hl hd hg hgs hgo (fun v s1 gs' hb hv => ?_) fun s1 hp h' hk => ?_))
    · intro hsz
      obtain ⟨b, σ', H', rfl, I', hf, hk⟩ := hv
      refine wpAny_bind (wpAny_holding (wpAny_truthy_bool ?_))
      refine wpAny_bind (wpAny_letGo ?_)
      cases b with
      | true =>
        simp only [if_true]
        refine wpAny_pure ⟨plainId_quiet F.plain_all_loop _, ih (s1.setGen g gs') (show s1.heap.IsGen a g from gen I') I'.nolimit ⟨gs', setGen_at ?_, ?_⟩⟩
        · have q : (s1.setGen g gs').gens.size = s1.gens.size := setGen_size _ _ _
          have q2 : g + 1 ≤ (s1.setGen g gs').gens.size := hsz
          omega
        · exact hk _ (allBare_setGen (s := s1.setGen g gs') (allBare_setGen I'.bare hb) rfl) rfl
      | false =>
        simp only [Bool.false_eq_true, if_false]
        exact wpAny_bind (wpAny_rule (wpAny_pure (hF σ' H' s1 gs' I' (hf rfl) hb)))
    · intro _
      obtain ⟨σ', H', I', q⟩ := hp
      exact wpAny_bind (wpAny_rule (wpAny_pure (hT σ' H' s1 h' I' q hk)))
end
def tAllG (P : Addr) (wi : TI) (g : TG) (te : TE) (vs : List Nat) : TE := fun σ H Q => wi σ H fun J H1 => GxR.TabG H1 P ∧ ∀ H2, GxR.Tabbed P H1 H2 → ∃ W : Nat → Nat → Hp → Prop, (∃ m, W 0 m H2) ∧ ∀ i m H, W i m H →
  (J.stop i H ∧ Q (.bl true) H) ∨ (J.go i H ∧ ∃ N : Hp → Prop, (∀ H', N H' → ∃ m', m' < m ∧ W (i + 1) m' H') ∧ ∀ x H', J.yld i H x H' → g x (wipe σ vs) H' fun σ2 H3 => wipe σ2 vs = wipe σ vs ∧ te σ2 H3 fun y H4 => ∃ b, y = .bl b ∧ if b = true then N H4 else Q (.bl false) H4)
theorem boot_allF : bootBuiltins "all" = some (.builtin "all") := by decide +kernel
theorem over_room {k : Nat} {A : Around} {elt tg iter : Expr} {scope : Scope} {pos : Pos} {it : Value} {cenv : Env} (hr : Room (k + 1) A) : Room k (A.in1.in1.over (.compLoop (.GeneratorExp elt [⟨tg, iter, [], 0⟩] scope pos) 0 it .none cenv) []) := by
  refine ⟨hr.hd, ?_, ?_⟩
  · have := hr.dp
    show A.depth + 0 + 1 + 3 * k + 5 < _
    omega
  · have := hr.un
    show A.units + 1 + 1 + 0 + 3 + 16 * k + 200 < _
    omega
section
variable {X : Cx} {c P : Addr} {elt tg iter : Expr} {scope : Scope} {own : List (Str × Nat)} {p pos gpos : Pos} {wi : TI} {g : TG} {te : TE} {k : Nat}
theorem pe_allG (hr : Room (k + 1) X.A) (hgl : Gl X "all") (hm : X.mg "all" = none) (TB : GxR.TabB X.base X.mg c P) (hcode : X.env.code = .ref c) (hN : X.N.Nodup) (ok : GOk X.N X.env.scope scope own) (hi : PI X tg iter wi)
    (hg : ∀ (A : Around) (s : Shared) (H : Hp) (cl : List (Str × Addr)) (C : Addr) (code : Value) (fp : List Addr), PG (gX X A s H scope (genEnv scope cl C code builtinsNs X.env) fp) tg g)
    (he : ∀ (A : Around) (s : Shared) (H : Hp) (cl : List (Str × Addr)) (C : Addr) (code : Value) (fp : List Addr), Room k A → PE (gX X A s H scope (genEnv scope cl C code builtinsNs X.env) fp) elt te)
    (hs : ∀ v, genFold iter X.env v = pure v)
    (hst : starEach [.GeneratorExp elt [⟨tg, iter, [], 0⟩] scope gpos] X.env = (false, eval (.GeneratorExp elt [⟨tg, iter, [], 0⟩] scope gpos) X.env) :: starEach [] X.env := by rfl) :
    PE X (.Call (.Name "all" p) [.GeneratorExp elt [⟨tg, iter, [], 0⟩] scope gpos] [] pos) (tAllG P wi g te (own.map (·.2))) := by
  refine ⟨fun pins s σ H Q I h => ?_⟩
  have hfree : ∀ y ∈ scope.names, y.2 = .free → ∃ c, X.env.cells.lookup y.1 = some c := fun y hy e => by
    rcases ok.blk.free y hy e with q | q
    · exact I.ok.has _ (.inl q)
    · exact I.ok.has _ (.inr q)
  refine wpAny_Call_Name_kw (ld_blt I hgl hm boot_allF ?_)
  refine PyProof.Rows.callWith_builtin1 ?_ hst (by rfl)
  rw [hst]
  show wpAny _ _ (spliced ((false, eval (.GeneratorExp elt [⟨tg, iter, [], 0⟩] scope gpos) X.env) :: backTo pos (starEach [] X.env))) _ _ s
  refine Calls.spliced_cons ?_
  refine wpAny_GeneratorExp_make ok.co (closure_ok hfree) ok.cell ok.dot ok.blk.kind (by have := hr.dp; omega) (thn (hi.run pins s σ H _ I h) fun xv s1 h1 => thn h1 fun itv s2 h2 => ?_) hs
  obtain ⟨it, fp, tn, J, H2, rfl, I2, T, st2, f2, ⟨ps, hP, ht⟩, q⟩ := h2
  have hPs : s2.heap.get? P = some { cls := .none, data := .fields ps } := I2.hok P _ hP
  have cd : PySem.W.CodeHd s2.heap c P := TB.code.keeps fun b u e => I2.bk b u e
  have fpP : ∀ b ∈ fp, b ≠ P := fun b hb z => by
    have := (f2 b hb).1
    rw [z, hP] at this
    cases this
  have fps : ∀ b ∈ fp, b < s2.heap.objs.size := fun b hb => by
    obtain ⟨o, e, _⟩ := T.obj _ _ st2 b hb
    exact Heap.lt_size e
  refine ⟨I2.nolimit, ?_⟩
  have main : ∀ (code : Value) (h3 : Heap) (tk : Nat) (more : Array Value), Heap.ExtBut P s2.heap h3 → s2.heap.objs.size ≤ h3.objs.size → h3.get? P = some { cls := .none, data := .fields (ps ++ more) } → TriplesOk (ps ++ more).toList →
      wpAny (model X.prog X.w) X.A (builtinsFor X.env.globals X.env.builtins) (fun bi s₄ =>
        ∀ h', h'.Ns s₄.heap.objs.size (fun y => if y = ".0" then some (Value.ref it) else none) → Heap.SameBut s₄.heap.objs.size (s₄.heap.push { cls := .type "frame", data := .dict #[] }) h' →
          wpAny (model X.prog X.w) X.A (spliced (backTo pos (starEach [] X.env))) (fun vs s' => wpAny (model X.prog X.w) X.A (call (.builtin "all") (Value.ref h'.objs.size :: vs)) (EP X pins σ Q) X.xe s') X.xe
            { s₄ with gens := s₄.gens.push (.fresh (.compStart (.GeneratorExp elt [⟨tg, iter, [], 0⟩] scope gpos) 0 (.ref it) .none (genEnv scope (cloFrom X.env.cells scope.names []) s₄.heap.objs.size code bi X.env))), toks := s₄.toks + 1 + 1 + 1,
                      heap := h'.push { cls := .type "generator", data := .fields #[.int s₄.gens.size 0, .str "<genexpr>" (s₄.toks + 1), .str (X.env.qual ++ "<genexpr>") (s₄.toks + 1 + 1)] } }) X.xe { s2 with heap := h3, toks := tk } := by
    intro code h3 tk more hx hsz hP3 ht3
    obtain ⟨bm, ob, e1, e2, e3, e4, e5, e6, e7, e8⟩ := TB.bm
    have keep3 : ∀ b u, b ≠ P → s2.heap.get? b = some u → h3.get? b = some u := fun b u hb e => hx b u hb e
    have I3 : Inv X pins σ (upd H2 P (.tbl (ps ++ more))) { s2 with heap := h3, toks := tk } :=
      GxR.inv_tab (more := more) (h' := h3) (g' := s2.gens) (d' := s2.drawn) (t' := tk) I2 hP (fun b o hb e => hx b o hb e) hP3 I2.bare
    have tb3 : GxR.Tabbed P H2 (upd H2 P (.tbl (ps ++ more))) := ⟨⟨ps ++ more, upd_same, ht3⟩, fun b hb => upd_ne hb⟩
    generalize upd H2 P (.tbl (ps ++ more)) = H3 at I3 tb3
    have st3 : tn 0 h3 := T.keep _ _ _ st2 fun b hb o e => keep3 b o (fpP b hb) e
    have f3 : ∀ b ∈ fp, FpOk X pins H3 b := fun b hb => by
      obtain ⟨n0, rest⟩ := f2 b hb
      exact ⟨by rw [tb3.2 b (fpP b hb)]; exact n0, rest⟩
    have fps3 : ∀ b ∈ fp, b < h3.objs.size := fun b hb => Nat.lt_of_lt_of_le (fps b hb) hsz
    refine wpAny_builtinsFor (m := X.mg) (by rw [I2.ok.glob]; exact (I2.mod.glob.keeps I2.bk).extBut hx TB.gP) e1 e2 (keep3 _ _ e4 (I2.bk _ _ e5)) e6 e7 e8 ?_
    intro h' hns hsame
    obtain ⟨W, ⟨m0, w0⟩, turn⟩ := q H3 tb3
    refine Calls.spliced_nil ?_
    have fr : X.A.frames = some X.stack := I2.ok.frames
    have hh : X.A.handled = none := hr.hd
    have k5 : ∀ b o, h3.get? b = some o → (h'.push { cls := .type "generator", data := .fields #[.int s2.gens.size 0, .str "<genexpr>" (tk + 1), .str (X.env.qual ++ "<genexpr>") (tk + 1 + 1)] }).get? b = some o := fun b o e => by
      refine Heap.get?_push_of_some _ ?_
      rw [hsame.2 b (Nat.ne_of_lt (Heap.lt_size e))]
      exact Heap.get?_push_of_some _ e
    have szh : h'.objs.size = h3.objs.size + 1 := hsame.1.trans (Heap.size_push ..)
    have ga : (h'.push { cls := .type "generator", data := .fields #[.int s2.gens.size 0, .str "<genexpr>" (tk + 1), .str (X.env.qual ++ "<genexpr>") (tk + 1 + 1)] }).get? h'.objs.size = some { cls := .type "generator", data := .fields #[.int s2.gens.size 0, .str "<genexpr>" (tk + 1), .str (X.env.qual ++ "<genexpr>") (tk + 1 + 1)] } := Heap.get?_push_size _ rfl
    have I5 := gen_inv (s4 := { s2 with heap := h3, toks := tk })
      (s5 := { s2 with gens := s2.gens.push (.fresh (.compStart (.GeneratorExp elt [⟨tg, iter, [], 0⟩] scope gpos) 0 (.ref it) .none (genEnv scope (cloFrom X.env.cells scope.names []) h3.objs.size code builtinsNs X.env))), toks := tk + 1 + 1 + 1, heap := h'.push { cls := .type "generator", data := .fields #[.int s2.gens.size 0, .str "<genexpr>" (tk + 1), .str (X.env.qual ++ "<genexpr>") (tk + 1 + 1)] } })
      (A := X.A.in1.in1.over (.compLoop (.GeneratorExp elt [⟨tg, iter, [], 0⟩] scope gpos) 0 (.ref it) .none (genEnv scope (cloFrom X.env.cells scope.names []) h3.objs.size code builtinsNs X.env)) []) (code := code) (it := .ref it) (a := h'.objs.size) (fp := fp)
      I3 ok hN hh (by
        show (X.A.frames).map _ = _
        rw [fr]
        rfl) (fun b hb => ⟨f3 b hb, fps3 b hb⟩) rfl (AllBare.push I2.bare rfl) k5 (hns.keeps fun b o e => Heap.get?_push_of_some _ e) ga (by show h3.objs.size < _; omega) (fun v z => by cases z)
    have seg := fun (s₀ s : Shared) (I : _) (st : tn 0 s.heap) => seg_all (XG := gX X (X.A.in1.in1.over (.compLoop (.GeneratorExp elt [⟨tg, iter, [], 0⟩] scope gpos) 0 (.ref it) .none (genEnv scope (cloFrom X.env.cells scope.names []) h3.objs.size code builtinsNs X.env)) []) { s2 with heap := h3, toks := tk } H3 scope (genEnv scope (cloFrom X.env.cells scope.names []) h3.objs.size code builtinsNs X.env) fp)
      (AG := X.A.in1.in1) (Qt := Q (.bl true)) (Qf := Q (.bl false)) (vs := own.map (·.2)) (σ := σ) (W := W) (pn := [(h'.objs.size, { cls := .type "generator", data := .fields #[.int s2.gens.size 0, .str "<genexpr>" (tk + 1), .str (X.env.qual ++ "<genexpr>") (tk + 1 + 1)] })])
      rfl ok.co rfl rfl rfl rfl T (hg _ _ _ (cloFrom X.env.cells scope.names []) h3.objs.size code fp) (he _ _ _ (cloFrom X.env.cells scope.names []) h3.objs.size code fp (over_room hr)) turn
      (fun b hb => ⟨(I5.ok.exf b hb).1, I5.ok.exfs b hb, (I5.ok.exf b hb).2, fun p hp => by
        have hp' := List.mem_singleton.mp hp
        subst hp'
        intro z
        have q9 : (b : Nat) < h3.objs.size := fps3 b hb
        have z : (h'.objs.size : Nat) = b := z
        exact Nat.lt_asymm q9 (Nat.lt_of_lt_of_eq (Nat.lt_succ_self _) (szh.symm.trans z))⟩) (m0 + 1) 0 m0 s₀ s H3 (Nat.lt_succ_self _) w0 I st (fun b hb => (f3 b hb).1)
    have back : ∀ (σ' : L2.St) (H' : Hp) (s1 s9 : Shared) (b : Bool), Inv (gX X (X.A.in1.in1.over (.compLoop (.GeneratorExp elt [⟨tg, iter, [], 0⟩] scope gpos) 0 (.ref it) .none (genEnv scope (cloFrom X.env.cells scope.names []) h3.objs.size code builtinsNs X.env)) []) { s2 with heap := h3, toks := tk } H3 scope (genEnv scope (cloFrom X.env.cells scope.names []) h3.objs.size code builtinsNs X.env) fp) [(h'.objs.size, { cls := .type "generator", data := .fields #[.int s2.gens.size 0, .str "<genexpr>" (tk + 1), .str (X.env.qual ++ "<genexpr>") (tk + 1 + 1)] })] σ' H' s1 →
        Q (.bl b) H' → s9.os = s1.os → AllBare s9.gens → (∀ b o, s1.heap.get? b = some o → s9.heap.get? b = some o) → EP X pins σ Q (.bool b) s9 := fun σ' H' s1 s9 b I' hq os9 b9 k9 =>
      ⟨.bl b, H', I3.call' (ch := fp) (os9.trans I'.os) (I'.base.trans (Un.kept k9)) (I'.hok.kept k9) b9 (fun b hb => ⟨(f3 b hb).2.2.2.1, (f3 b hb).2.1, (f3 b hb).2.2.2.2.1, (f3 b hb).2.2.2.2.2⟩), rfl, hq⟩
    refine call_function_tree F.kind_all F.plain_all F.entry_all (F.args_all1 _) ?_
    unfold Builtin.«all»
    refine wpAny_bind (m := oneArg "all" _) (wpAny_pure ?_)
    refine wpAny_bind (wpAny_pyIter_gen (g := s2.gens.size) ⟨_, _, _, ga, rfl, rfl, rfl⟩ ?_)
    refine wpAny_pure ⟨plainId_quiet F.plain_all_loop _, all_turns (A := X.A) (Qt := Q (.bl true)) (Qf := Q (.bl false)) hh (by have := hr.dp; omega) (fun I' => ⟨_, _, _, (I'.pin _ (List.mem_append_right _ (List.mem_singleton.mpr rfl))).1, rfl, rfl, rfl⟩)
      (fun σ' H' s1 h9 I' hq k9 => back σ' H' s1 { s1.setGen s2.gens.size .finished with heap := h9 } true I' hq rfl (allBare_setGen I'.bare rfl) k9) (fun σ' H' s1 gs' I' hq hb => back σ' H' s1 (s1.setGen s2.gens.size gs') false I' hq rfl (allBare_setGen I'.bare hb) fun _ _ e => e)
      (m0 + 1) _ ⟨_, _, _, ga, rfl, rfl, rfl⟩ I5.nolimit ⟨.fresh (.compStart (.GeneratorExp elt [⟨tg, iter, [], 0⟩] scope gpos) 0 (.ref it) .none (genEnv scope (cloFrom X.env.cells scope.names []) h3.objs.size code builtinsNs X.env)), by simp, ?_⟩⟩
    refine ⟨rfl, ?_⟩
    have st5 := T.keep _ _ _ st3 fun b hb o e => k5 b o e
    have loop := fun s₀ => seg s₀ _ (Inv.gens I5 (allBare_setGen (g := s2.gens.size) (x := .running) I5.bare rfl)) st5
    show Seg _ X.A.in1.in1 _ _ _ _ _ ((compStart (.GeneratorExp elt [⟨tg, iter, [], 0⟩] scope gpos) 0 (.ref it) .none (genEnv scope (cloFrom X.env.cells scope.names []) h3.objs.size code builtinsNs X.env)).onRaise (leaving (genEnv scope (cloFrom X.env.cells scope.names []) h3.objs.size code builtinsNs X.env))) [] _
    unfold compStart
    rw [Sem.onRaise_eq_wrap]
    refine seg_bind_wrap (wpAny_askSetting ?_)
    split
    · exact seg_again rfl (loop _)
    · refine seg_bind_wrap (wpAny_rule ?_)
      show Seg _ _ _ _ _ _ _ ((standAt iter.pos >>= _).wrap _ _ _ _) [] _
      exact seg_bind_wrap (wpAny_standAt (seg_bind_wrap (T.self _ 0 _ _ _ st5 (seg_again rfl (loop _)))))
  cases hf : codeAmong gpos ps.toList with
  | none =>
    refine wpAny_genexprCodeX hcode (cd.code hPs ht) (cd.tab hPs) hf fun c' h' tk hx hge hlt hco' _ htab' _ => ?_
    obtain ⟨o1, vs, f1, tf, fl, tg', inF, tx, tt, op, _, _, _, _, _, _, _, _, _, htr, _⟩ := hco'
    exact main _ h' tk _ hx (Nat.le_trans hge (Nat.le_of_lt hlt)) htab'.2 htr
  | some cv =>
    refine wpAny_genexprCode_hit hcode (cd.code hPs ht) hf ?_
    exact main cv s2.heap s2.toks #[] (Heap.ExtBut.refl _ _) (Nat.le_refl _) (by simpa using hPs) (by simpa using ht)
end
end Ev

set_option Elab.async false
set_option linter.all false
set_option maxRecDepth 100000
set_option maxHeartbeats 4000000
/-! Operators. -/
namespace Ev
open PySem PySem.Spec PyProof.Rows L2 Ow
section
variable {X : Cx} {Tb : List Addr}
/-- text * n -/
def strRep (z : Str) (n : Int) : Str := if n < 1 then Str.empty else ⟨(List.replicate n.toNat z.cps).foldl (· ++ ·) #[]⟩
theorem rep_len (a : Array Nat) : ∀ (k : Nat) (acc : Array Nat), ((List.replicate k a).foldl (· ++ ·) acc).size = acc.size + k * a.size
  | 0, acc => by simp
  | k + 1, acc => by
    rw [List.replicate_succ, List.foldl_cons, rep_len a k, Array.size_append, Nat.succ_mul]
    omega
theorem strRep_len (z : Str) (n : Int) : (strRep z n).length = n.toNat * z.length := by
  unfold strRep
  split
  · have : n.toNat = 0 := by omega
    rw [this, Nat.zero_mul]
    rfl
  · show ((List.replicate n.toNat z.cps).foldl (· ++ ·) #[]).size = _
    rw [rep_len]
    show 0 + _ = _
    rw [Nat.zero_add]
    rfl
theorem op_mulS : OpR X (binaryOp .Mult) (fun x y H Q => ∃ (z : Str) (n : Int), x = .str z ∧ y = .int n ∧ n ≤ 10000 ∧ 0 ≤ n ∧ z.length ≤ 1000 ∧ Q (.str (strRep z n)) H) := by
  intro pins s σ H x y v u Q I rx ry h
  obtain ⟨z, n, rfl, rfl, h1, h0, hz, q⟩ := h
  obtain ⟨t, rfl⟩ := rx
  obtain ⟨t', rfl⟩ := ry
  have line : (10000000 : Nat) ≤ sizeLine := by decide
  have small : z.length * n.toNat ≤ sizeLine := by
    have : z.length * n.toNat ≤ 1000 * 10000 := Nat.mul_le_mul hz (by omega)
    omega
  refine PySem.P.mul_str ?_ (fun h2 _ => ?_) (fun _ _ => decide_eq_false (by show ¬ (z.length * n.toNat > sizeLine); omega)) ?_
  · rw [decide_eq_false (by omega), decide_eq_false (by omega)]
    rfl
  · intro hh
    have h3 : (1000 : Int) ≤ (2 ^ 63 - 1) / n := by
      rw [Int.le_ediv_iff_mul_le (by omega)]
      have : ((2 : Int) ^ 63 - 1) = 9223372036854775807 := by decide
      omega
    omega
  · unfold strRep at q
    by_cases hn : n < 1
    · rw [if_pos hn] at q ⊢
      exact ⟨by decide, .str Str.empty, H, I.tok _, ⟨_, rfl⟩, q⟩
    · rw [if_neg hn] at q ⊢
      by_cases e : (n == 1 || z.length == 0) = true
      · rw [if_pos e]
        have e2 : (⟨(List.replicate n.toNat z.cps).foldl (· ++ ·) #[]⟩ : Str) = z := by
          by_cases e1 : n = 1
          · subst e1
            obtain ⟨c⟩ := z
            show (⟨#[] ++ c⟩ : Str) = ⟨c⟩
            rw [Array.empty_append]
          · have e0 : z.length = 0 := by
              rcases Bool.or_eq_true_iff.mp e with k | k
              · exact absurd (by simpa using k) e1
              · simpa using k
            obtain ⟨c⟩ := z
            have ec : c = #[] := Array.eq_empty_of_size_eq_zero e0
            subst ec
            have : ((List.replicate n.toNat (#[] : Array Nat)).foldl (· ++ ·) #[]) = #[] := by
              refine Array.eq_empty_of_size_eq_zero ?_
              rw [rep_len]
              rfl
            show (⟨(List.replicate n.toNat (#[] : Array Nat)).foldl (· ++ ·) #[]⟩ : Str) = ⟨#[]⟩
            rw [this]
        rw [e2] at q
        exact ⟨.str z, H, I, ⟨_, rfl⟩, q⟩
      · rw [if_neg e]
        refine ⟨?_, .str _, H, I.tok _, ⟨_, rfl⟩, q⟩
        show ((List.replicate n.toNat z.cps).foldl (· ++ ·) #[]).size ≤ sizeLine
        rw [rep_len]
        show 0 + n.toNat * z.length ≤ sizeLine
        rw [Nat.mul_comm n.toNat]
        omega
/-- two places of the store that hold lists -/
def o2 (o p : Option O) (k : List W → List W → Prop) : Prop := match o, p with
  | some (.lst a), some (.lst b) => k a b
  | _, _ => False
def wAdd : R2W := fun x y S Q => match x, y with
  | .int i, .int j => Q (.int (i + j)) S
  | .str a, .str b => a.length + b.length ≤ sizeLine ∧ Q (.str (a ++ b)) S
  | .tup a, .tup b => a.length + b.length ≤ sizeLine ∧ Q (.tup (a ++ b)) S
  | .ref m, .ref n => o2 S[m]? S[n]? fun a b => a.length + b.length ≤ sizeLine ∧ Q (.ref S.length) (S ++ [.lst (a ++ b)])
  | _, _ => False
def rAdd (K : PySem.W.Frag) : R2 := fun x y H Q => rI0 (fun i j => .int (i + j)) x y H Q ∨ (∃ i j, x = .str i ∧ y = .str j ∧ i.length + j.length ≤ sizeLine ∧ Q (.str (i ++ j)) H) ∨ rCatA K x y H Q ∨ rCat x y H Q
theorem op_addW : OpR X (binaryOp .Add) (rAdd X.K) := OpR.or op_add (OpR.or op_add_str (OpR.or op_catA op_cat))
theorem o2_mono {o p : Option O} {k k' : List W → List W → Prop} (h : ∀ a b, k a b → k' a b) (q : o2 o p k) : o2 o p k' := by
  unfold o2 at q ⊢
  split at q
  · exact h _ _ q
  · exact q.elim
theorem o2_some {o p : Option O} {k : List W → List W → Prop} (q : o2 o p k) : ∃ a b, o = some (.lst a) ∧ p = some (.lst b) ∧ k a b := by
  unfold o2 at q
  split at q
  · exact ⟨_, _, rfl, rfl, q⟩
  · exact q.elim
theorem mo_add : MonoO wAdd := fun x y S Q Q' k h => by
  unfold wAdd at h ⊢
  split at h
  · exact k _ _ h
  · exact ⟨h.1, k _ _ h.2⟩
  · exact ⟨h.1, k _ _ h.2⟩
  · exact o2_mono (fun a b z => ⟨z.1, k _ _ z.2⟩) h
  · exact h.elim
theorem rl_add {K : PySem.W.Frag} : RL K Tb (rAdd K) wAdd := fun ι S H w1 w2 v1 v2 Q Qv s r1 r2 h k => by
  unfold wAdd at h
  split at h
  · obtain rfl : v1 = _ := r1
    obtain rfl : v2 = _ := r2
    exact .inl ⟨_, _, rfl, rfl, k ι S H _ _ h s Grow.refl rfl⟩
  · obtain rfl : v1 = _ := r1
    obtain rfl : v2 = _ := r2
    exact .inr (.inl ⟨_, _, rfl, rfl, h.1, k ι S H _ _ h.2 s Grow.refl rfl⟩)
  · obtain ⟨a, xs, rfl, ha, ra⟩ := r1
    obtain ⟨b, ys, rfl, hb, rb⟩ := r2
    refine .inr (.inr (.inl ⟨a, b, xs, ys, rfl, rfl, ha, hb, by rw [ra.len, rb.len]; exact h.1, fun e => ?_, fun e1 e2 => ?_, fun e1 e2 p np => ?_⟩))
    · subst e
      exact k ι S H _ _ h.2 s Grow.refl ⟨b, _, rfl, hb, ra.app rb⟩
    · subst e2
      refine k ι S H _ _ h.2 s Grow.refl ⟨a, xs ++ [], rfl, by rw [List.append_nil]; exact ha, ra.app rb⟩
    · obtain ⟨s2, g2⟩ := s.tup (xs := xs ++ ys) np
      exact k ι S _ _ _ h.2 s2 g2 ⟨p, _, rfl, SqT.of upd_same, (ra.app rb).grow g2⟩
  · obtain ⟨a, b, ea, eb, h1, h2⟩ := o2_some h
    obtain ⟨p, hp, rfl⟩ := r1
    obtain ⟨q, hq, rfl⟩ := r2
    obtain ⟨xs, e1, ra⟩ := lst_at s hp ea
    obtain ⟨ys, e2, rb⟩ := lst_at s hq eb
    refine .inr (.inr (.inr ⟨p, q, xs, ys, rfl, rfl, e1, e2, by rw [ra.len, rb.len]; exact h1, fun c nc => ?_⟩))
    obtain ⟨ι2, s2, g2, r2⟩ := newL s (ra.app rb) nc
    exact k ι2 _ _ _ _ h2 s2 g2 r2
  · exact h.elim
def wInt (f : Int → Int → Int) (C : Int → Int → Prop) : R2W := fun x y S Q => match x, y with
  | .int i, .int j => C i j ∧ Q (.int (f i j)) S
  | _, _ => False
theorem mo_int {f : Int → Int → Int} {C : Int → Int → Prop} : MonoO (wInt f C) := fun x y S Q Q' k h => by
  unfold wInt at h ⊢
  split at h
  · exact ⟨h.1, k _ _ h.2⟩
  · exact h.elim
theorem rl_int {K : PySem.W.Frag} {f : Int → Int → Int} {C : Int → Int → Prop} : RL K Tb (rI C fun i j => .int (f i j)) (wInt f C) := fun ι S H w1 w2 v1 v2 Q Qv s r1 r2 h k => by
  unfold wInt at h
  split at h
  · obtain rfl : v1 = _ := r1
    obtain rfl : v2 = _ := r2
    exact ⟨_, _, rfl, rfl, h.1, k ι S H _ _ h.2 s Grow.refl rfl⟩
  · exact h.elim
theorem opr_true {f : Value → Value → Sem Value} {g : Int → Int → V} (h : OpR X f (rI0 g)) : OpR X f (rI (fun _ _ => True) g) := fun pins s σ H x y v u Q I rx ry ⟨i, j, e1, e2, _, q⟩ => h pins s σ H x y v u Q I rx ry ⟨i, j, e1, e2, q⟩
abbrev wSub : R2W := wInt (fun i j => i - j) fun _ _ => True
abbrev wMod : R2W := wInt (fun i j => i % j) fun _ j => 0 < j
abbrev wFdiv : R2W := wInt (fun i j => i / j) CDiv
abbrev wPow : R2W := wInt (fun i j => i ^ j.toNat) CPow
def wMul : R2W := fun x y S Q => match x, y with
  | .int i, .int j => CMul i j ∧ Q (.int (i * j)) S
  | .str z, .int n => (n ≤ 10000 ∧ 0 ≤ n ∧ z.length ≤ 1000) ∧ Q (.str (strRep z n)) S
  | _, _ => False
def rMul : R2 := fun x y H Q => rI CMul (fun i j => .int (i * j)) x y H Q ∨ (∃ (z : Str) (n : Int), x = .str z ∧ y = .int n ∧ n ≤ 10000 ∧ 0 ≤ n ∧ z.length ≤ 1000 ∧ Q (.str (strRep z n)) H)
theorem mo_mul : MonoO wMul := fun x y S Q Q' k h => by
  unfold wMul at h ⊢
  split at h
  · exact ⟨h.1, k _ _ h.2⟩
  · exact ⟨h.1, k _ _ h.2⟩
  · exact h.elim
theorem rl_mul {K : PySem.W.Frag} : RL K Tb rMul wMul := fun ι S H w1 w2 v1 v2 Q Qv s r1 r2 h k => by
  unfold wMul at h
  split at h
  · obtain rfl : v1 = _ := r1
    obtain rfl : v2 = _ := r2
    exact .inl ⟨_, _, rfl, rfl, h.1, k ι S H _ _ h.2 s Grow.refl rfl⟩
  · obtain rfl : v1 = _ := r1
    obtain rfl : v2 = _ := r2
    exact .inr ⟨_, _, rfl, rfl, h.1.1, h.1.2.1, h.1.2.2, k ι S H _ _ h.2 s Grow.refl rfl⟩
  · exact h.elim
variable {a b e : Expr} {ma mb m : ME} {pos : Pos}
theorem e_add (ha : EE X Tb a ma) (hb : EE X Tb b mb) : EE X Tb (.BinOp a .Add b pos) (mBin wAdd ma mb) := e_op op_addW rl_add mo_add ha hb
theorem e_sub (ha : EE X Tb a ma) (hb : EE X Tb b mb) : EE X Tb (.BinOp a .Sub b pos) (mBin wSub ma mb) := e_op (opr_true op_sub) rl_int mo_int ha hb
theorem e_mod (ha : EE X Tb a ma) (hb : EE X Tb b mb) : EE X Tb (.BinOp a .Mod b pos) (mBin wMod ma mb) := e_op op_mod rl_int mo_int ha hb
theorem e_fdiv (ha : EE X Tb a ma) (hb : EE X Tb b mb) : EE X Tb (.BinOp a .FloorDiv b pos) (mBin wFdiv ma mb) := e_op op_fdiv rl_int mo_int ha hb
theorem e_pow (ha : EE X Tb a ma) (hb : EE X Tb b mb) : EE X Tb (.BinOp a .Pow b pos) (mBin wPow ma mb) := e_op op_pow rl_int mo_int ha hb
theorem e_mul (ha : EE X Tb a ma) (hb : EE X Tb b mb) : EE X Tb (.BinOp a .Mult b pos) (mBin wMul ma mb) := e_op (OpR.or op_mul op_mulS) rl_mul mo_mul ha hb
theorem s_addI {i : Nat} {x : Str} {p : Pos} (hN : X.N.Nodup) (he : EE X Tb e m) (hi : X.N[i]? = some x := by rfl) (hx : Loc X.env.scope x := by first | exact Or.inl rfl | exact Or.inr rfl)
    (hf : X.fn x = true ∨ X.env.scope.names.lookup x = some .local := by first | exact .inl rfl | exact .inr rfl | assumption) : ES X Tb (.AugAssign (.Name x p) .Add e pos) (mAug i (wInt (fun i j => i + j) fun _ _ => True) m) := s_aug hN (opr_true iop_add) rl_int mo_int he hi hx hf
/-! ### comparisons -/
def wCmpI (f : Int → Int → Bool) (g : List Nat → List Nat → Bool) : R2W := fun x y S Q => match x, y with
  | .int i, .int j => Q (.bl (f i j)) S
  | .str a, .str b => Q (.bl (g a.cps.toList b.cps.toList)) S
  | _, _ => False
def rCmpI (f : Int → Int → Bool) (g : List Nat → List Nat → Bool) : R2 := fun x y H Q => rI0 (fun i j => .bl (f i j)) x y H Q ∨ ∃ i j, x = .str i ∧ y = .str j ∧ Q (.bl (g i.cps.toList j.cps.toList)) H
theorem mo_cmpI {f : Int → Int → Bool} {g : List Nat → List Nat → Bool} : MonoO (wCmpI f g) := fun x y S Q Q' k h => by
  unfold wCmpI at h ⊢
  split at h
  · exact k _ _ h
  · exact k _ _ h
  · exact h.elim
theorem rl_cmpI {K : PySem.W.Frag} {f : Int → Int → Bool} {g : List Nat → List Nat → Bool} : RL K Tb (rCmpI f g) (wCmpI f g) := fun ι S H w1 w2 v1 v2 Q Qv s r1 r2 h k => by
  unfold wCmpI at h
  split at h
  · obtain rfl : v1 = _ := r1
    obtain rfl : v2 = _ := r2
    exact .inl ⟨_, _, rfl, rfl, k ι S H _ _ h s Grow.refl rfl⟩
  · obtain rfl : v1 = _ := r1
    obtain rfl : v2 = _ := r2
    exact .inr ⟨_, _, rfl, rfl, k ι S H _ _ h s Grow.refl rfl⟩
  · exact h.elim
abbrev wLt : R2W := wCmpI (fun i j => decide (i < j)) fun a b => decide (a < b)
abbrev wGt : R2W := wCmpI (fun i j => decide (j < i)) fun a b => decide (b < a)
abbrev wLe : R2W := wCmpI (fun i j => decide (i ≤ j)) fun a b => !decide (b < a)
abbrev wGe : R2W := wCmpI (fun i j => decide (j ≤ i)) fun a b => !decide (a < b)
theorem op_ltW : OpR X (compareOp .Lt) (rCmpI (fun i j => decide (i < j)) fun a b => decide (a < b)) := OpR.or op_lt op_lt_str
theorem op_gtW : OpR X (compareOp .Gt) (rCmpI (fun i j => decide (j < i)) fun a b => decide (b < a)) := OpR.or op_gt op_gt_str
theorem op_leW : OpR X (compareOp .LtE) (rCmpI (fun i j => decide (i ≤ j)) fun a b => !decide (b < a)) := OpR.or op_le op_le_str
theorem op_geW : OpR X (compareOp .GtE) (rCmpI (fun i j => decide (j ≤ i)) fun a b => !decide (a < b)) := OpR.or op_ge op_ge_str
end
end Ev

set_option Elab.async false
set_option linter.all false
set_option maxRecDepth 100000
set_option maxHeartbeats 4000000
/-! Equality, in, subscripts, slices. -/
namespace Ev
open PySem PySem.Spec PyProof.Rows L2 Ow
/-! ### data -/
mutual
inductive DW (S : Store) : W → PyData → Prop
  | non : DW S .non .none
  | bl (b : Bool) : DW S (.bl b) (.bool b)
  | int (i : Int) : DW S (.int i) (.int i)
  | str (x : Str) : DW S (.str x) (.str x)
  | tup {l : List W} {ds : List PyData} : DWs S l ds → DW S (.tup l) (.tuple ds)
  | cl {l : List W} {ds : List PyData} : DWs S l ds → DW S (.cl l) (.list ds)
  | lst {n : Nat} {l : List W} {ds : List PyData} : S[n]? = some (.lst l) → DWs S l ds → DW S (.ref n) (.list ds)
inductive DWs (S : Store) : List W → List PyData → Prop
  | nil : DWs S [] []
  | cons {w : W} {l : List W} {d : PyData} {ds : List PyData} : DW S w d → DWs S l ds → DWs S (w :: l) (d :: ds)
end
section
variable {K : PySem.W.Frag} {Tb : List Addr} {ι : List Addr} {S : Store} {H : Hp}
mutual
theorem DW.dp (s : Sim K Tb ι S H) : ∀ {w : W} {d : PyData} {v : V}, DW S w d → VR K ι H w v → Dp K H v d
  | _, _, _, .non, r => by obtain rfl := r; exact .non
  | _, _, _, .bl b, r => by obtain rfl := r; exact .bl b
  | _, _, _, .int b, r => by obtain rfl := r; exact .int b
  | _, _, _, .str b, r => by obtain rfl := r; exact .str b
  | _, _, _, .tup h, r => by
    obtain ⟨a, vs, rfl, hq, rv⟩ := r
    exact .tup hq (DWs.dp s h rv)
  | _, _, _, .cl h, r => by
    obtain ⟨a, vs, rfl, hq, rv⟩ := r
    exact .lst hq.sq (DWs.dp s h rv)
  | _, _, _, .lst e h, r => by
    obtain ⟨a, ha, rfl⟩ := r
    obtain ⟨vs, e1, rv⟩ := lst_at s ha e
    exact .lst (SqL.of e1) (DWs.dp s h rv)
theorem DWs.dp (s : Sim K Tb ι S H) : ∀ {l : List W} {ds : List PyData} {vs : List V}, DWs S l ds → VRs K ι H l vs → DpAll K H vs ds
  | _, _, _, .nil, r => by obtain rfl := r; exact .nil
  | _, _, _, .cons h t, r => by
    obtain ⟨v, vs, rfl, r1, r2⟩ := r
    exact .cons (DW.dp s h r1) (DWs.dp s t r2)
end
end
def dEq (x y : W) (S : Store) (k : Bool → Prop) : Prop := ∃ d e, DW S x d ∧ DW S y e ∧ SeqAt.shaped d = true ∧ SeqAt.shaped e = true ∧ k (PyData.eqv d e)
def wEqN (neg : Bool) : R2W := fun x y S Q => match x, y with
  | .int i, .int j => Q (.bl (neg ^^ decide (i = j))) S
  | .str a, .str b => Q (.bl (neg ^^ decide (a = b))) S
  | .bl a, .bl b => Q (.bl (neg ^^ decide (a = b))) S
  | .non, .int _ => Q (.bl neg) S
  | .int _, .non => Q (.bl neg) S
  | .non, .str _ => Q (.bl neg) S
  | .str _, .non => Q (.bl neg) S
  | .int _, .str _ => Q (.bl neg) S
  | .str _, .int _ => Q (.bl neg) S
  | x, y => dEq x y S fun b => Q (.bl (neg ^^ b)) S
abbrev wEq : R2W := wEqN false
abbrev wNe : R2W := wEqN true
def rEqN (K : PySem.W.Frag) (neg : Bool) : R2 := fun x y H Q => (scal x y = true ∧ Q (.bl (neg ^^ decide (x = y))) H) ∨ ∃ d e, Dp K H x d ∧ Dp K H y e ∧ SeqAt.shaped d = true ∧ SeqAt.shaped e = true ∧ Q (.bl (neg ^^ PyData.eqv d e)) H
section
variable {X : Cx} {Tb : List Addr}
theorem op_eqW (hu : X.A.units + 64 < cLine) : OpR X (compareOp .Eq) (rEqN X.K false) := fun pins s σ H x y v u Q I rx ry h => by
  rcases h with ⟨h1, h2⟩ | ⟨d, e, h1, h2, h3, h4, h5⟩
  · exact op_eq pins s σ H x y v u Q I rx ry ⟨h1, by rwa [Bool.false_xor] at h2⟩
  · exact op_eqD hu pins s σ H x y v u Q I rx ry ⟨d, e, h1, h2, h3, h4, by rwa [Bool.false_xor] at h5⟩
theorem op_neW (hu : X.A.units + 64 < cLine) : OpR X (compareOp .NotEq) (rEqN X.K true) := fun pins s σ H x y v u Q I rx ry h => by
  rcases h with ⟨h1, h2⟩ | ⟨d, e, h1, h2, h3, h4, h5⟩
  · exact op_ne pins s σ H x y v u Q I rx ry ⟨h1, by rwa [Bool.true_xor] at h2⟩
  · exact op_neD hu pins s σ H x y v u Q I rx ry ⟨d, e, h1, h2, h3, h4, by rwa [Bool.true_xor] at h5⟩
theorem dEq_mono {x y : W} {S : Store} {k k' : Bool → Prop} (h : ∀ b, k b → k' b) (q : dEq x y S k) : dEq x y S k' := by
  obtain ⟨d, e, h1, h2, h3, h4, h5⟩ := q
  exact ⟨d, e, h1, h2, h3, h4, h _ h5⟩
theorem mo_eq {neg : Bool} : MonoO (wEqN neg) := fun x y S Q Q' k h => by
  unfold wEqN at h ⊢
  split at h
  case h_10 => exact dEq_mono (fun b z => k _ _ z) h
  all_goals exact k _ _ h
theorem dec_ne {x y : V} (h : x ≠ y) {neg : Bool} : (neg ^^ decide (x = y)) = neg := by rw [decide_eq_false h, Bool.xor_false]
theorem rl_eq {K : PySem.W.Frag} {neg : Bool} : RL K Tb (rEqN K neg) (wEqN neg) := fun ι S H w1 w2 v1 v2 Q Qv s r1 r2 h k => by
  unfold wEqN at h
  split at h
  case h_10 =>
    obtain ⟨d, e, h1, h2, h3, h4, h5⟩ := h
    exact .inr ⟨d, e, h1.dp s r1, h2.dp s r2, h3, h4, k ι S H _ _ h5 s Grow.refl rfl⟩
  case h_1 =>
    obtain rfl : v1 = _ := r1
    obtain rfl : v2 = _ := r2
    refine .inl ⟨rfl, k ι S H _ _ h s Grow.refl ?_⟩
    show V.bl _ = V.bl _
    rw [show decide (V.int _ = V.int _) = decide (_ = _) from decide_eq_decide.mpr ⟨fun e => by injection e, fun e => by rw [e]⟩]
  case h_2 =>
    obtain rfl : v1 = _ := r1
    obtain rfl : v2 = _ := r2
    refine .inl ⟨rfl, k ι S H _ _ h s Grow.refl ?_⟩
    show V.bl _ = V.bl _
    rw [show decide (V.str _ = V.str _) = decide (_ = _) from decide_eq_decide.mpr ⟨fun e => by injection e, fun e => by rw [e]⟩]
  case h_3 =>
    obtain rfl : v1 = _ := r1
    obtain rfl : v2 = _ := r2
    refine .inl ⟨rfl, k ι S H _ _ h s Grow.refl ?_⟩
    show V.bl _ = V.bl _
    rw [show decide (V.bl _ = V.bl _) = decide (_ = _) from decide_eq_decide.mpr ⟨fun e => by injection e, fun e => by rw [e]⟩]
  all_goals
    obtain rfl : v1 = _ := r1
    obtain rfl : v2 = _ := r2
    refine .inl ⟨rfl, k ι S H _ _ h s Grow.refl ?_⟩
    show V.bl _ = V.bl _
    rw [dec_ne (by intro z; cases z)]
variable {a b e : Expr} {ma mb m : ME} {pos : Pos}
/-! ### is None, is True -/
def wIsN (neg : Bool) : R2W := fun x y S Q => match x, y with
  | .non, .non => Q (.bl (!neg)) S
  | _, .non => Q (.bl neg) S
  | .bl a, .bl b => Q (.bl (neg ^^ decide (a = b))) S
  | _, _ => False
def rIsN (neg : Bool) : R2 := fun x y H Q => (y = .non ∧ Q (.bl (neg ^^ decide (x = .non))) H) ∨ ∃ a b : Bool, x = .bl a ∧ y = .bl b ∧ Q (.bl (neg ^^ decide (a = b))) H
theorem op_isW : OpR X (compareOp .Is) (rIsN false) := fun pins s σ H x y v u Q I rx ry h => by
  rcases h with ⟨h1, h2⟩ | ⟨a, b, h1, h2, h3⟩
  · exact op_isN pins s σ H x y v u Q I rx ry ⟨h1, by rwa [Bool.false_xor] at h2⟩
  · exact op_isBl pins s σ H x y v u Q I rx ry ⟨a, b, h1, h2, by rwa [Bool.false_xor] at h3⟩
theorem op_isnotW : OpR X (compareOp .IsNot) (rIsN true) := fun pins s σ H x y v u Q I rx ry h => by
  rcases h with ⟨h1, h2⟩ | ⟨a, b, h1, h2, h3⟩
  · exact op_notN pins s σ H x y v u Q I rx ry ⟨h1, by rwa [Bool.true_xor] at h2⟩
  · exact op_notBl pins s σ H x y v u Q I rx ry ⟨a, b, h1, h2, by rwa [Bool.true_xor] at h3⟩
theorem mo_isN {neg : Bool} : MonoO (wIsN neg) := fun x y S Q Q' k h => by
  unfold wIsN at h ⊢
  split at h
  case h_4 => exact h.elim
  all_goals exact k _ _ h
theorem VR.non {K : PySem.W.Frag} {ι : List Addr} {H : Hp} {w : W} (r : VR K ι H w .non) : w = .non := by
  cases w with
  | non => rfl
  | bl b => cases r
  | int b => cases r
  | str b => cases r
  | ty b => cases r
  | adr b => cases r
  | ref n => obtain ⟨_, _, e⟩ := r; cases e
  | tup n => obtain ⟨_, _, e, _⟩ := r; cases e
  | cl n => obtain ⟨_, _, e, _⟩ := r; cases e
theorem rl_isN {K : PySem.W.Frag} {neg : Bool} : RL K Tb (rIsN neg) (wIsN neg) := fun ι S H w1 w2 v1 v2 Q Qv s r1 r2 h k => by
  unfold wIsN at h
  split at h
  · obtain rfl : v1 = _ := r1
    obtain rfl : v2 = _ := r2
    refine .inl ⟨rfl, k ι S H _ _ h s Grow.refl ?_⟩
    show V.bl _ = V.bl _
    rw [decide_eq_true rfl, Bool.xor_true]
  · rename_i hn
    obtain rfl : v2 = _ := r2
    have ne : v1 ≠ .non := fun e => by
      subst e
      exact hn (VR.non r1)
    refine .inl ⟨rfl, k ι S H _ _ h s Grow.refl ?_⟩
    show V.bl _ = V.bl _
    rw [dec_ne ne]
  · obtain rfl : v1 = _ := r1
    obtain rfl : v2 = _ := r2
    exact .inr ⟨_, _, rfl, rfl, k ι S H _ _ h s Grow.refl rfl⟩
  · exact h.elim
/-! ### in -/
def flatW : W → Bool
  | .non => true
  | .bl _ => true
  | .int _ => true
  | .str _ => true
  | _ => false
def toV : W → V
  | .bl b => .bl b
  | .int i => .int i
  | .str x => .str x
  | _ => .non
theorem VR.flat {K : PySem.W.Frag} {ι : List Addr} {H : Hp} {w : W} {v : V} (r : VR K ι H w v) (f : flatW w = true) : v = toV w ∧ flatV v = true := by
  cases w with
  | non => obtain rfl : v = _ := r; exact ⟨rfl, rfl⟩
  | bl b => obtain rfl : v = _ := r; exact ⟨rfl, rfl⟩
  | int b => obtain rfl : v = _ := r; exact ⟨rfl, rfl⟩
  | str b => obtain rfl : v = _ := r; exact ⟨rfl, rfl⟩
  | _ => cases f
theorem VRs.flat {K : PySem.W.Frag} {ι : List Addr} {H : Hp} : ∀ {l : List W} {vs : List V}, VRs K ι H l vs → l.all flatW = true → vs = l.map toV ∧ vs.all flatV = true
  | [], _, h, _ => by rw [h]; exact ⟨rfl, rfl⟩
  | w :: l, _, ⟨v, r, e, h, t⟩, f => by
    rw [List.all_cons, Bool.and_eq_true] at f
    obtain ⟨e1, f1⟩ := VR.flat h f.1
    obtain ⟨e2, f2⟩ := t.flat f.2
    rw [e, List.all_cons, f1, f2]
    exact ⟨by rw [List.map_cons, e1, ← e2], rfl⟩
def valW {κ : Type} [DecidableEq κ] (l : List (κ × W)) (k : κ) : Option W := (l.find? fun kv => decide (kv.1 = k)).map (·.2)
def putW {κ : Type} [DecidableEq κ] (l : List (κ × W)) (k : κ) (v : W) : List (κ × W) :=
  if (l.any fun kv => decide (kv.1 = k)) = true then l.map (fun kv => if kv.1 = k then (kv.1, v) else kv) else l ++ [(k, v)]
/-- a value as a key -/
def keyW : W → Option Key
  | .int i => some (.inl i)
  | .str x => some (.inr x)
  | _ => none
def keysW : List W → Option (List Key)
  | [] => some []
  | w :: l => match keyW w, keysW l with
    | some k, some r => some (k :: r)
    | _, _ => none
/-- x in the object o -/
def oIn (x : W) (o : Option O) (k : Bool → Prop) : Prop := match o with
  | some (.lst l) => (flatW x = true ∧ l.all flatW = true) ∧ k (inV (toV x) (l.map toV))
  | some (.dK l) => match keyW x with
    | some y => k (valW l y).isSome
    | none => False
  | some (.fK l) => match keyW x with
    | some y => k (valW l y).isSome
    | none => False
  | _ => False
def inStr (x z : Str) : Bool := if x.length = 1 then decide (x.cps.toList.getD 0 0 ∈ z.cps.toList) else !(Builtin.Str.occurrences z x 0 z.length 1).isEmpty
def wInN (neg : Bool) : R2W := fun x y S Q => match y with
  | .tup l => (flatW x = true ∧ l.all flatW = true) ∧ Q (.bl (neg ^^ inV (toV x) (l.map toV))) S
  | .cl l => (flatW x = true ∧ l.all flatW = true) ∧ Q (.bl (neg ^^ inV (toV x) (l.map toV))) S
  | .str z => match x with
    | .str u => Q (.bl (neg ^^ inStr u z)) S
    | _ => False
  | .ref n => oIn x S[n]? fun b => Q (.bl (neg ^^ b)) S
  | _ => False
abbrev wIn : R2W := wInN false
abbrev wNotIn : R2W := wInN true
def rInN (K : PySem.W.Frag) (neg : Bool) : R2 := fun x y H Q => (∃ p xs, y = .ref p ∧ (SqL K H p xs ∨ SqT K H p xs) ∧ flatV x = true ∧ xs.all flatV = true ∧ Q (.bl (neg ^^ inV x xs)) H) ∨
  (∃ i j, x = .str i ∧ y = .str j ∧ Q (.bl (neg ^^ inStr i j)) H) ∨ ∃ a o, y = .ref a ∧ DGet H a x o ∧ Q (.bl (neg ^^ o.isSome)) H
theorem inStr_one {i j : Str} (h : i.length = 1) : ∃ c, i = ⟨#[c]⟩ ∧ inStr i j = decide (c ∈ j.cps.toList) := by
  obtain ⟨⟨l⟩⟩ := i
  match l, h with
  | [c], _ => exact ⟨c, rfl, rfl⟩
theorem inStr_any {i j : Str} (h : ¬ i.length = 1) : inStr i j = !(Builtin.Str.occurrences j i 0 j.length 1).isEmpty := if_neg h
theorem op_inW (hu : X.A.units + 1 < cLine) : OpR X (compareOp .In) (rInN X.K false) := fun pins s σ H x y v u Q I rx ry h => by
  rcases h with ⟨p, xs, e, h1, h2, h3, q⟩ | ⟨i, j, e1, e2, q⟩ | ⟨a, o, e, g, q⟩
  · exact op_in_seq pins s σ H x y v u Q I rx ry ⟨p, xs, e, h1, h2, h3, by rw [Bool.false_xor] at q; exact q⟩
  · rw [Bool.false_xor] at q
    by_cases hl : i.length = 1
    · obtain ⟨c, ec, ei⟩ := inStr_one (j := j) hl
      subst ec
      rw [ei] at q
      exact op_in_sign pins s σ H x y v u Q I rx ry ⟨c, j, e1, e2, q⟩
    · rw [inStr_any hl] at q
      exact op_in_str pins s σ H x y v u Q I rx ry ⟨i, j, e1, e2, q⟩
  · subst e
    obtain rfl : u = Value.ref a := ry
    exact d_in hu I g rx fun s' I' => ⟨.bl o.isSome, H, I', rfl, by rw [Bool.false_xor] at q; exact q⟩
theorem op_notInW (hu : X.A.units + 1 < cLine) : OpR X (compareOp .NotIn) (rInN X.K true) := fun pins s σ H x y v u Q I rx ry h => by
  rcases h with ⟨p, xs, e, h1, h2, h3, q⟩ | ⟨i, j, e1, e2, q⟩ | ⟨a, o, e, g, q⟩
  · exact op_notIn_seq pins s σ H x y v u Q I rx ry ⟨p, xs, e, h1, h2, h3, by rw [Bool.true_xor] at q; exact q⟩
  · rw [Bool.true_xor] at q
    by_cases hl : i.length = 1
    · obtain ⟨c, ec, ei⟩ := inStr_one (j := j) hl
      subst ec
      rw [ei] at q
      exact op_notIn_sign pins s σ H x y v u Q I rx ry ⟨c, j, e1, e2, q⟩
    · rw [inStr_any hl] at q
      exact op_notIn_str pins s σ H x y v u Q I rx ry ⟨i, j, e1, e2, q⟩
  · subst e
    obtain rfl : u = Value.ref a := ry
    exact d_notIn hu I g rx fun s' I' => ⟨.bl !o.isSome, H, I', rfl, by rw [Bool.true_xor] at q; exact q⟩
theorem oIn_mono {x : W} {o : Option O} {k k' : Bool → Prop} (h : ∀ b, k b → k' b) (q : oIn x o k) : oIn x o k' := by
  unfold oIn at q ⊢
  repeat' split at q
  all_goals first
    | exact q.elim
    | exact ⟨q.1, h _ q.2⟩
    | (first | exact h _ q | (simp only [*]; exact h _ q))
theorem mo_in {neg : Bool} : MonoO (wInN neg) := fun x y S Q Q' k h => by
  unfold wInN at h ⊢
  cases y with
  | tup l => exact ⟨h.1, k _ _ h.2⟩
  | cl l => exact ⟨h.1, k _ _ h.2⟩
  | str z =>
    cases x with
    | str u => exact k _ _ h
    | _ => exact h.elim
  | ref n => exact oIn_mono (fun b z => k _ _ z) h
  | _ => exact h.elim
theorem valW_map {κ : Type} [DecidableEq κ] {K : PySem.W.Frag} {ι : List Addr} {H : Hp} : ∀ {l : List (κ × W)} {kvs : List (κ × V)}, kvs.map (·.1) = l.map (·.1) → VRs K ι H (l.map (·.2)) (kvs.map (·.2)) → ∀ k : κ,
    (valW l k = none ∧ valV kvs k = none) ∨ ∃ w v, valW l k = some w ∧ valV kvs k = some v ∧ VR K ι H w v
  | [], [], _, _, _ => .inl ⟨rfl, rfl⟩
  | [], _ :: _, h, _, _ => by cases h
  | _ :: _, [], h, _, _ => by cases h
  | p :: l, q :: kvs, h, r, k => by
    rw [List.map_cons, List.map_cons] at h r
    injection h with h1 h2
    obtain ⟨v, vs, e, r1, r2⟩ := r
    injection e with e1 e2
    subst e1
    subst e2
    by_cases c : p.1 = k
    · refine .inr ⟨p.2, q.2, by simp [valW, List.find?_cons, c], by simp [valV, List.find?_cons, h1, c], r1⟩
    · have a1 : valW (p :: l) k = valW l k := by simp [valW, List.find?_cons, c]
      have a2 : valV (q :: kvs) k = valV kvs k := by simp [valV, List.find?_cons, h1, c]
      rw [a1, a2]
      exact valW_map h2 r2 k
theorem valW_some {κ : Type} [DecidableEq κ] {K : PySem.W.Frag} {ι : List Addr} {H : Hp} {l : List (κ × W)} {kvs : List (κ × V)} (h : kvs.map (·.1) = l.map (·.1)) (r : VRs K ι H (l.map (·.2)) (kvs.map (·.2))) (k : κ) : (valV kvs k).isSome = (valW l k).isSome := by
  rcases valW_map h r k with ⟨a, b⟩ | ⟨w, v, a, b, _⟩
  · rw [a, b]
    rfl
  · rw [a, b]
    rfl
theorem keyW_v {K : PySem.W.Frag} {ι : List Addr} {H : Hp} {w : W} {v : V} {k : Key} (r : VR K ι H w v) (h : keyW w = some k) : v = kV k := by
  cases w with
  | int i => obtain rfl : v = _ := r; cases h; rfl
  | str i => obtain rfl : v = _ := r; cases h; rfl
  | _ => cases h
theorem keysW_v {K : PySem.W.Frag} {ι : List Addr} {H : Hp} : ∀ {l : List W} {vs : List V} {ks : List Key}, VRs K ι H l vs → keysW l = some ks → vs = ks.map kV
  | [], _, _, r, h => by
    obtain rfl := r
    cases h
    rfl
  | w :: l, _, ks, ⟨v, vs, e, r1, r2⟩, h => by
    unfold keysW at h
    split at h
    · rename_i k r hk hr
      cases h
      rw [e, List.map_cons, keyW_v r1 hk, keysW_v r2 hr]
    · cases h
theorem dget_of {K : PySem.W.Frag} {ι : List Addr} {H : Hp} {x : W} {v : V} {a : Addr} {kvs : List (Key × V)} {k : Key} (e : Rd H a (.dK kvs)) (r : VR K ι H x v) (hk : keyW x = some k) : DGet H a v (valV kvs k) :=
  .inl ⟨kvs, k, e, keyW_v r hk, rfl⟩
theorem keyW_match {x : W} {k : Key → Prop} (h : match keyW x with
    | some y => k y
    | none => False) : ∃ y, keyW x = some y ∧ k y := by
  split at h
  · exact ⟨_, by assumption, h⟩
  · exact h.elim
theorem rl_in {K : PySem.W.Frag} {neg : Bool} : RL K Tb (rInN K neg) (wInN neg) := fun ι S H w1 w2 v1 v2 Q Qv s r1 r2 h k => by
  unfold wInN at h
  cases w2 with
  | tup l =>
    obtain ⟨a, vs, rfl, hq, rv⟩ := r2
    obtain ⟨e1, f1⟩ := VR.flat r1 h.1.1
    obtain ⟨e2, f2⟩ := rv.flat h.1.2
    refine .inl ⟨a, vs, rfl, .inr hq, f1, f2, k ι S H _ _ h.2 s Grow.refl ?_⟩
    rw [e1, e2]
    rfl
  | cl l =>
    obtain ⟨a, vs, rfl, hq, rv⟩ := r2
    obtain ⟨e1, f1⟩ := VR.flat r1 h.1.1
    obtain ⟨e2, f2⟩ := rv.flat h.1.2
    refine .inl ⟨a, vs, rfl, .inl hq.sq, f1, f2, k ι S H _ _ h.2 s Grow.refl ?_⟩
    rw [e1, e2]
    rfl
  | str z =>
    cases w1 with
    | str u =>
      obtain rfl : v1 = _ := r1
      obtain rfl : v2 = _ := r2
      exact .inr (.inl ⟨u, z, rfl, rfl, k ι S H _ _ h s Grow.refl rfl⟩)
    | _ => exact h.elim
  | ref n =>
    obtain ⟨a, ha, rfl⟩ := r2
    obtain ⟨o, ho, q⟩ := s.there ha
    dsimp only at h
    rw [ho] at h
    cases o with
    | lst l =>
      obtain ⟨vs, e, rv⟩ := q
      obtain ⟨e1, f1⟩ := VR.flat r1 h.1.1
      obtain ⟨e2, f2⟩ := rv.flat h.1.2
      refine .inl ⟨a, vs, rfl, .inl (SqL.of e), f1, f2, k ι S H _ _ h.2 s Grow.refl ?_⟩
      rw [e1, e2]
      rfl
    | dK l =>
      obtain ⟨kvs, e, e1, rv⟩ := q
      obtain ⟨y, hy, h⟩ := keyW_match h
      refine .inr (.inr ⟨a, _, rfl, dget_of (.inl e) r1 hy, k ι S H _ _ h s Grow.refl ?_⟩)
      show V.bl _ = V.bl _
      rw [valW_some e1 rv]
    | fK l =>
      obtain ⟨ob, kvs, e, e1, rv⟩ := q
      obtain ⟨y, hy, h⟩ := keyW_match h
      refine .inr (.inr ⟨a, _, rfl, dget_of (.inr ⟨ob, e⟩) r1 hy, k ι S H _ _ h s Grow.refl ?_⟩)
      show V.bl _ = V.bl _
      rw [valW_some e1 rv]
    | dT l => exact h.elim
    | ins C fs => exact h.elim
  | _ => exact h.elim
theorem e_lt (ha : EE X Tb a ma) (hb : EE X Tb b mb) : EE X Tb (.Compare a [.Lt] [b] pos) (mBin wLt ma mb) := e_cmp op_ltW rl_cmpI mo_cmpI ha hb
theorem e_gt (ha : EE X Tb a ma) (hb : EE X Tb b mb) : EE X Tb (.Compare a [.Gt] [b] pos) (mBin wGt ma mb) := e_cmp op_gtW rl_cmpI mo_cmpI ha hb
theorem e_le (ha : EE X Tb a ma) (hb : EE X Tb b mb) : EE X Tb (.Compare a [.LtE] [b] pos) (mBin wLe ma mb) := e_cmp op_leW rl_cmpI mo_cmpI ha hb
theorem e_ge (ha : EE X Tb a ma) (hb : EE X Tb b mb) : EE X Tb (.Compare a [.GtE] [b] pos) (mBin wGe ma mb) := e_cmp op_geW rl_cmpI mo_cmpI ha hb
theorem e_eq (hu : X.A.units + 64 < cLine) (ha : EE X Tb a ma) (hb : EE X Tb b mb) : EE X Tb (.Compare a [.Eq] [b] pos) (mBin wEq ma mb) := e_cmp (op_eqW hu) rl_eq mo_eq ha hb
theorem e_ne (hu : X.A.units + 64 < cLine) (ha : EE X Tb a ma) (hb : EE X Tb b mb) : EE X Tb (.Compare a [.NotEq] [b] pos) (mBin wNe ma mb) := e_cmp (op_neW hu) rl_eq mo_eq ha hb
theorem e_is (ha : EE X Tb a ma) (hb : EE X Tb b mb) : EE X Tb (.Compare a [.Is] [b] pos) (mBin (wIsN false) ma mb) := e_cmp op_isW rl_isN mo_isN ha hb
theorem e_isnot (ha : EE X Tb a ma) (hb : EE X Tb b mb) : EE X Tb (.Compare a [.IsNot] [b] pos) (mBin (wIsN true) ma mb) := e_cmp op_isnotW rl_isN mo_isN ha hb
theorem e_in (hu : X.A.units + 1 < cLine) (ha : EE X Tb a ma) (hb : EE X Tb b mb) (hm : behindInMarks .In b = false := by rfl) : EE X Tb (.Compare a [.In] [b] pos) (mBin wIn ma mb) := e_cmp (op_inW hu) rl_in mo_in ha hb hm
theorem e_notin (hu : X.A.units + 1 < cLine) (ha : EE X Tb a ma) (hb : EE X Tb b mb) (hm : behindInMarks .NotIn b = false := by rfl) : EE X Tb (.Compare a [.NotIn] [b] pos) (mBin wNotIn ma mb) := e_cmp (op_notInW hu) rl_in mo_in ha hb hm
theorem t_lt (ha : EE X Tb a ma) (hb : EE X Tb b mb) : ET X Tb (.Compare a [.Lt] [b] pos) (mTest (mBin wLt ma mb)) := t_cmp op_ltW rl_cmpI mo_cmpI ha hb
theorem t_gt (ha : EE X Tb a ma) (hb : EE X Tb b mb) : ET X Tb (.Compare a [.Gt] [b] pos) (mTest (mBin wGt ma mb)) := t_cmp op_gtW rl_cmpI mo_cmpI ha hb
theorem t_le (ha : EE X Tb a ma) (hb : EE X Tb b mb) : ET X Tb (.Compare a [.LtE] [b] pos) (mTest (mBin wLe ma mb)) := t_cmp op_leW rl_cmpI mo_cmpI ha hb
theorem t_ge (ha : EE X Tb a ma) (hb : EE X Tb b mb) : ET X Tb (.Compare a [.GtE] [b] pos) (mTest (mBin wGe ma mb)) := t_cmp op_geW rl_cmpI mo_cmpI ha hb
theorem t_eq (hu : X.A.units + 64 < cLine) (ha : EE X Tb a ma) (hb : EE X Tb b mb) : ET X Tb (.Compare a [.Eq] [b] pos) (mTest (mBin wEq ma mb)) := t_cmp (op_eqW hu) rl_eq mo_eq ha hb
theorem t_ne (hu : X.A.units + 64 < cLine) (ha : EE X Tb a ma) (hb : EE X Tb b mb) : ET X Tb (.Compare a [.NotEq] [b] pos) (mTest (mBin wNe ma mb)) := t_cmp (op_neW hu) rl_eq mo_eq ha hb
theorem t_is (ha : EE X Tb a ma) (hb : EE X Tb b mb) : ET X Tb (.Compare a [.Is] [b] pos) (mTest (mBin (wIsN false) ma mb)) := t_cmp op_isW rl_isN mo_isN ha hb
theorem t_isnot (ha : EE X Tb a ma) (hb : EE X Tb b mb) : ET X Tb (.Compare a [.IsNot] [b] pos) (mTest (mBin (wIsN true) ma mb)) := t_cmp op_isnotW rl_isN mo_isN ha hb
theorem t_in (hu : X.A.units + 1 < cLine) (ha : EE X Tb a ma) (hb : EE X Tb b mb) (hm : behindInMarks .In b = false := by rfl) : ET X Tb (.Compare a [.In] [b] pos) (mTest (mBin wIn ma mb)) := t_cmp (op_inW hu) rl_in mo_in ha hb hm
theorem t_notin (hu : X.A.units + 1 < cLine) (ha : EE X Tb a ma) (hb : EE X Tb b mb) (hm : behindInMarks .NotIn b = false := by rfl) : ET X Tb (.Compare a [.NotIn] [b] pos) (mTest (mBin wNotIn ma mb)) := t_cmp (op_notInW hu) rl_in mo_in ha hb hm
end
end Ev

set_option Elab.async false
set_option linter.all false
set_option maxRecDepth 100000
set_option maxHeartbeats 4000000
/-! Subscripts, slices, methods, built-ins. -/
namespace Ev
open PySem PySem.Spec PyProof.Rows L2 Ow
def oW {α : Type} (o : Option α) (k : α → Prop) : Prop := match o with
  | some w => k w
  | none => False
def oL (o : Option O) (k : List W → Prop) : Prop := match o with
  | some (.lst l) => k l
  | _ => False
def oD (o : Option O) (k : List (Key × W) → Prop) : Prop := match o with
  | some (.dK l) => k l
  | _ => False
theorem oW_some {α : Type} {o : Option α} {k : α → Prop} (h : oW o k) : ∃ w, o = some w ∧ k w := by
  cases o with
  | none => exact h.elim
  | some w => exact ⟨w, rfl, h⟩
theorem oW_mono {α : Type} {o : Option α} {k k' : α → Prop} (f : ∀ w, k w → k' w) (h : oW o k) : oW o k' := by
  cases o with
  | none => exact h.elim
  | some w => exact f _ h
theorem oL_some {o : Option O} {k : List W → Prop} (h : oL o k) : ∃ l, o = some (.lst l) ∧ k l := by
  unfold oL at h
  split at h
  · exact ⟨_, rfl, h⟩
  · exact h.elim
theorem oL_mono {o : Option O} {k k' : List W → Prop} (f : ∀ w, k w → k' w) (h : oL o k) : oL o k' := by
  obtain ⟨l, e, q⟩ := oL_some h
  subst e
  exact f _ q
theorem oD_some {o : Option O} {k : List (Key × W) → Prop} (h : oD o k) : ∃ l, o = some (.dK l) ∧ k l := by
  unfold oD at h
  split at h
  · exact ⟨_, rfl, h⟩
  · exact h.elim
theorem oD_mono {o : Option O} {k k' : List (Key × W) → Prop} (f : ∀ w, k w → k' w) (h : oD o k) : oD o k' := by
  obtain ⟨l, e, q⟩ := oD_some h
  subst e
  exact f _ q
/-- the item at i, from the end below 0 -/
def wAt {α : Type} (l : List α) (i : Int) : Option α := if 0 ≤ i then l[i.toNat]? else if -(l.length : Int) ≤ i then l[(i + l.length).toNat]? else none
theorem wAt_nat {α : Type} {l : List α} {i : Int} (h : 0 ≤ i) : wAt l i = l[i.toNat]? := if_pos h
theorem wAt_atI {α : Type} (l : List α) (i : Int) : wAt l i = atI l i := by
  unfold wAt atI ixN
  by_cases h0 : 0 ≤ i
  · rw [if_pos h0, if_pos h0]
    by_cases h1 : i < (l.length : Int)
    · rw [if_pos h1]
      rfl
    · rw [if_neg h1, List.getElem?_eq_none (by omega)]
      rfl
  · rw [if_neg h0, if_neg h0]
    by_cases h1 : -(l.length : Int) ≤ i
    · rw [if_pos h1, if_pos h1]
      rfl
    · rw [if_neg h1, if_neg h1]
      rfl
theorem VRs.atI {K : PySem.W.Frag} {ι : List Addr} {H : Hp} {l : List W} {vs : List V} {i : Int} {w : W} (r : VRs K ι H l vs) (h : wAt l i = some w) : ∃ v, L2.atI vs i = some v ∧ VR K ι H w v := by
  rw [wAt_atI] at h
  unfold L2.atI at h ⊢
  rw [r.len]
  cases e : ixN l.length i with
  | none => rw [e] at h; cases h
  | some j =>
    rw [e] at h
    exact r.at h
/-- o[y] -/
def oIx (y : W) (o : Option O) (k : W → Prop) : Prop := match o with
  | some (.lst l) => match y with
    | .int i => oW (wAt l i) k
    | _ => False
  | some (.dK l) => oW (keyW y) fun c => oW (valW l c) k
  | some (.fK l) => oW (keyW y) fun c => oW (valW l c) k
  | _ => False
def wIx : R2W := fun x y S Q => match x with
  | .tup l => match y with
    | .int i => oW (wAt l i) fun w => Q w S
    | _ => False
  | .cl l => match y with
    | .int i => oW (wAt l i) fun w => Q w S
    | _ => False
  | .str z => match y with
    | .int i => z.length ≤ sizeLine ∧ oW (wAt z.cps.toList i) fun c => Q (signW c) S
    | _ => False
  | .ref n => oIx y S[n]? fun w => Q w S
  | _ => False
def rIxW (K : PySem.W.Frag) : R2 := fun x y H Q => rIx K x y H Q ∨ ∃ a v, x = .ref a ∧ DGet H a y (some v) ∧ Q v H
theorem oIx_mono {y : W} {o : Option O} {k k' : W → Prop} (f : ∀ w, k w → k' w) (h : oIx y o k) : oIx y o k' := by
  unfold oIx at h ⊢
  split at h
  · cases y with
    | int i => exact oW_mono f h
    | _ => exact h.elim
  · exact oW_mono (fun c z => oW_mono f z) h
  · exact oW_mono (fun c z => oW_mono f z) h
  · exact h.elim
theorem mo_ix : MonoO wIx := fun x y S Q Q' k h => by
  unfold wIx at h ⊢
  cases x with
  | tup l =>
    cases y with
    | int i => exact oW_mono (fun w z => k _ _ z) h
    | _ => exact h.elim
  | cl l =>
    cases y with
    | int i => exact oW_mono (fun w z => k _ _ z) h
    | _ => exact h.elim
  | str z =>
    cases y with
    | int i => exact ⟨h.1, oW_mono (fun w z => k _ _ z) h.2⟩
    | _ => exact h.elim
  | ref n => exact oIx_mono (fun w z => k _ _ z) h
  | _ => exact h.elim
section
variable {X : Cx} {Tb : List Addr}
theorem ix_dgetW (hu : X.A.units + 1 < cLine) : IxR X (fun x y H Q => ∃ a v, x = .ref a ∧ DGet H a y (some v) ∧ Q v H) := by
  intro value slice pins s σ H x y v u Q I rx ry h hs
  obtain ⟨a, r, rfl, g, q⟩ := h
  obtain rfl : v = Value.ref a := rx
  exact tail_any (dict_typeIs I g) PySem.F.slot_dict_getitem.lookup (d_getItem hu I g ry fun w' s3 I3 rw' => ⟨r, H, I3, rw', q⟩) hs
theorem rl_ix {K : PySem.W.Frag} : RL K Tb (rIxW K) wIx := fun ι S H w1 w2 v1 v2 Q Qv s r1 r2 h k => by
  unfold wIx at h
  cases w1 with
  | tup l =>
    cases w2 with
    | int i =>
      obtain ⟨w, e, h⟩ := oW_some h
      obtain ⟨a, vs, rfl, hq, rv⟩ := r1
      obtain rfl : v2 = _ := r2
      obtain ⟨v, e1, r⟩ := rv.atI e
      exact .inl (.inr (.inl ⟨a, vs, i, v, rfl, rfl, hq, e1, k ι S H _ _ h s Grow.refl r⟩))
    | _ => exact h.elim
  | cl l =>
    cases w2 with
    | int i =>
      obtain ⟨w, e, h⟩ := oW_some h
      obtain ⟨a, vs, rfl, hq, rv⟩ := r1
      obtain rfl : v2 = _ := r2
      obtain ⟨v, e1, r⟩ := rv.atI e
      exact .inl (.inl ⟨a, vs, i, v, rfl, rfl, hq.sq, e1, k ι S H _ _ h s Grow.refl r⟩)
    | _ => exact h.elim
  | str z =>
    cases w2 with
    | int i =>
      obtain ⟨hz, h⟩ := h
      obtain ⟨c, e, h⟩ := oW_some h
      obtain rfl : v1 = _ := r1
      obtain rfl : v2 = _ := r2
      rw [wAt_atI] at e
      exact .inl (.inr (.inr ⟨z, i, c, rfl, rfl, hz, e, k ι S H _ _ h s Grow.refl rfl⟩))
    | _ => exact h.elim
  | ref n =>
    obtain ⟨a, ha, rfl⟩ := r1
    obtain ⟨o, ho, q⟩ := s.there ha
    dsimp only at h
    rw [ho] at h
    cases o with
    | lst l =>
      obtain ⟨vs, e, rv⟩ := q
      cases w2 with
      | int i =>
        obtain ⟨w, ew, h⟩ := oW_some h
        obtain rfl : v2 = _ := r2
        obtain ⟨v, e1, r⟩ := rv.atI ew
        exact .inl (.inl ⟨a, vs, i, v, rfl, rfl, SqL.of e, e1, k ι S H _ _ h s Grow.refl r⟩)
      | _ => exact h.elim
    | dK l =>
      obtain ⟨kvs, e, e1, rv⟩ := q
      obtain ⟨c, ec, h⟩ := oW_some h
      obtain ⟨w, ew, h⟩ := oW_some h
      rcases valW_map e1 rv c with ⟨z, _⟩ | ⟨w', v, z1, z2, r⟩
      · rw [z] at ew
        cases ew
      · rw [z1] at ew
        cases ew
        have g := dget_of (.inl e) r2 ec
        rw [z2] at g
        exact .inr ⟨a, v, rfl, g, k ι S H _ _ h s Grow.refl r⟩
    | fK l =>
      obtain ⟨ob, kvs, e, e1, rv⟩ := q
      obtain ⟨c, ec, h⟩ := oW_some h
      obtain ⟨w, ew, h⟩ := oW_some h
      rcases valW_map e1 rv c with ⟨z, _⟩ | ⟨w', v, z1, z2, r⟩
      · rw [z] at ew
        cases ew
      · rw [z1] at ew
        cases ew
        have g := dget_of (.inr ⟨ob, e⟩) r2 ec
        rw [z2] at g
        exact .inr ⟨a, v, rfl, g, k ι S H _ _ h s Grow.refl r⟩
    | dT l => exact h.elim
    | ins C fs => exact h.elim
  | _ => exact h.elim
variable {a b e o i : Expr} {es : List Expr} {ma mb m mo mi : ME} {mr : MA} {pos : Pos}
theorem e_ix (hu : X.A.units + 1 < cLine) (ha : EE X Tb a ma) (hb : EE X Tb b mb) (hs : PlainIx b := by exact fun _ _ => rfl) : EE X Tb (.Subscript a b pos) (mBin wIx ma mb) :=
  ⟨pe_imp (pe_ix (IxR.or ix_seq (ix_dgetW hu)) ha.pe hb.pe hs) fun σ H Q h => lift2 rl_ix mo_ix ha hb h, mBin_mono mo_ix ha.mono hb.mono⟩
/-! ### slices -/
abbrev MO := EvS → Store → (Option Int → Store → Prop) → Prop
structure EO (X : Cx) (Tb : List Addr) (e : Option Expr) (m : MO) : Prop where
  po : PO X e (fun σ H Q => ∃ ι env S, Sim X.K Tb ι S H ∧ ER X.K ι H env σ ∧ m env S fun z S' => ∀ ι' H', Sim X.K Tb ι' S' H' → Grow X.K ι H ι' H' → Q z H')
  mono : ∀ (env : EvS) (S : Store) (Q Q' : Option Int → Store → Prop), (∀ w S', Q w S' → Q' w S') → m env S Q → m env S Q'
def mNoP : MO := fun _ S Q => Q none S
def mP (m : ME) : MO := fun env S Q => m env S fun w S1 => match w with
  | .int i => Q (some i) S1
  | _ => False
theorem po_imp {e : Option Expr} {t t' : TO} (h : PO X e t) (k : ∀ σ H Q, t' σ H Q → t σ H Q) : PO X e t' := ⟨fun pins s σ H Q I q => h.run pins s σ H Q I (k σ H Q q)⟩
theorem o_none : EO X Tb none mNoP := ⟨po_imp po_none fun σ H Q ⟨ι, env, S, s, er, h⟩ => h ι H s Grow.refl, fun _ _ _ _ k h => k _ _ h⟩
theorem o_some (h : EE X Tb e m) : EO X Tb (some e) (mP m) := by
  refine ⟨po_imp (po_some h.pe) fun σ H Q q => ?_, fun env S Q Q' k q => h.mono _ _ _ _ (fun w S1 z => ?_) q⟩
  · obtain ⟨ι, env, S, s, er, q⟩ := q
    refine ⟨ι, env, S, s, er, h.mono _ _ _ _ (fun w S1 z ι1 H1 v s1 g1 r1 => ?_) q⟩
    cases w with
    | int i =>
      obtain rfl : v = _ := r1
      exact ⟨i, rfl, z ι1 H1 s1 g1⟩
    | _ => exact z.elim
  · cases w with
    | int i => exact k _ _ z
    | _ => exact z.elim
def cutG {α : Type} (xs : List α) (lo hi : Option Int) : List α := (xs.drop (HT.sIx xs.length 0 lo)).take (HT.sIx xs.length xs.length hi - HT.sIx xs.length 0 lo)
theorem cutG_v (xs : List V) (lo hi : Option Int) : cutG xs lo hi = cutV xs lo hi := rfl
theorem VRs.cut {K : PySem.W.Frag} {ι : List Addr} {H : Hp} {l : List W} {vs : List V} (r : VRs K ι H l vs) (lo hi : Option Int) : VRs K ι H (cutG l lo hi) (cutV vs lo hi) := by
  unfold cutG cutV
  rw [r.len]
  exact (r.drop _).take _
def wSl (x : W) (lo hi : Option Int) (S : Store) (Q : WK) : Prop := match x with
  | .tup l => Q (.tup (cutG l lo hi)) S
  | .cl l => Q (.ref S.length) (S ++ [.lst (cutG l lo hi)])
  | .str z => z.length ≤ sizeLine ∧ Q (.str (cutS z lo hi)) S
  | .ref n => oL S[n]? fun l => Q (.ref S.length) (S ++ [.lst (cutG l lo hi)])
  | _ => False
def mSl (m : ME) (x y : MO) : ME := fun env S Q => m env S fun w S1 => x env S1 fun lo S2 => y env S2 fun hi S3 => wSl w lo hi S3 Q
theorem wSl_mono {x : W} {lo hi : Option Int} {S : Store} {Q Q' : WK} (k : ∀ w S', Q w S' → Q' w S') (h : wSl x lo hi S Q) : wSl x lo hi S Q' := by
  unfold wSl at h ⊢
  cases x with
  | tup l => exact k _ _ h
  | cl l => exact k _ _ h
  | str z => exact ⟨h.1, k _ _ h.2⟩
  | ref n => exact oL_mono (fun l z => k _ _ z) h
  | _ => exact h.elim
theorem cut_whole {l : List V} {lo hi : Option Int} (h : HT.sIx l.length 0 lo = 0 ∧ HT.sIx l.length l.length hi = l.length) : cutV l lo hi = l := by
  unfold cutV
  rw [h.1, h.2, List.drop_zero, Nat.sub_zero, List.take_length]
theorem e_slice {lo hi : Option Expr} {x y : MO} {p2 : Pos} (he : EE X Tb e m) (hl : EO X Tb lo x) (hh : EO X Tb hi y) : EE X Tb (.Subscript e (.Slice lo hi none p2) pos) (mSl m x y) := by
  refine ⟨pe_imp (pe_slice (SlR.or sl_tupA (SlR.or sl_list sl_str)) he.pe hl.po hh.po) fun σ H Q h => ?_, fun env S Q Q' k h => he.mono _ _ _ _ (fun w S1 q1 => hl.mono _ _ _ _ (fun l S2 q2 => hh.mono _ _ _ _ (fun u S3 q3 => wSl_mono k q3) q2) q1) h⟩
  obtain ⟨ι, env, S, s, er, h⟩ := h
  refine ⟨ι, env, S, s, er, he.mono _ _ _ _ (fun w S1 q1 ι1 H1 v s1 g1 r1 => ?_) h⟩
  refine ⟨ι1, env, S1, s1, er.grow g1, hl.mono _ _ _ _ (fun l S2 q2 ι2 H2 s2 g2 => ?_) q1⟩
  refine ⟨ι2, env, S2, s2, (er.grow g1).grow g2, hh.mono _ _ _ _ (fun u S3 q3 ι3 H3 s3 g3 => ?_) q2⟩
  have r3 := VR.grow g3 w (VR.grow g2 w r1)
  have gg := (g1.trans g2).trans g3
  unfold wSl at q3
  cases w with
  | tup ws =>
    obtain ⟨a, vs, rfl, hq, rv⟩ := r3
    refine .inl ⟨a, vs, rfl, hq, fun hw => ?_, fun hw p np => ?_⟩
    · refine q3 ι3 H3 _ s3 gg ⟨a, vs, rfl, hq, ?_⟩
      have := rv.cut l u
      rw [cut_whole hw] at this
      exact this
    · obtain ⟨s4, g4⟩ := s3.tup (xs := cutV vs l u) np
      exact q3 ι3 _ _ s4 (gg.trans g4) ⟨p, _, rfl, SqT.of upd_same, (rv.cut l u).grow g4⟩
  | cl ws =>
    obtain ⟨a, vs, rfl, hq, rv⟩ := r3
    refine .inr (.inl ⟨a, vs, rfl, hq.sq, fun p np => ?_⟩)
    obtain ⟨ι4, s4, g4, r4⟩ := newL s3 (rv.cut l u) np
    exact q3 ι4 _ _ s4 (gg.trans g4) r4
  | str z =>
    obtain rfl : v = _ := r3
    exact .inr (.inr ⟨z, rfl, q3.1, q3.2 ι3 H3 _ s3 gg rfl⟩)
  | ref n =>
    obtain ⟨a, ha, rfl⟩ := r3
    obtain ⟨ws, ew, q3⟩ := oL_some q3
    obtain ⟨vs, e, rv⟩ := lst_at s3 ha ew
    refine .inr (.inl ⟨a, vs, rfl, SqL.of e, fun p np => ?_⟩)
    obtain ⟨ι4, s4, g4, r4⟩ := newL s3 (rv.cut l u) np
    exact q3 ι4 _ _ s4 (gg.trans g4) r4
  | _ => exact q3.elim
/-! ### methods of lists -/
def isLst (w : W) (S : Store) : Prop := match w with
  | .ref n => oL S[n]? fun _ => True
  | _ => False
abbrev RMW := W → List W → Store → WK → Prop
def ML (K : PySem.W.Frag) (Tb : List Addr) (r : V → List V → Hp → VK → Prop) (op : RMW) : Prop :=
  ∀ (ι : List Addr) (S : Store) (H : Hp) (w : W) (v : V) (ws : List W) (vs : List V) (Q : WK) (Qv : VK), Sim K Tb ι S H → VR K ι H w v → VRs K ι H ws vs → op w ws S Q →
    (∀ ι' S' H' w v, Q w S' → Sim K Tb ι' S' H' → Grow K ι H ι' H' → VR K ι' H' w v → Qv v H') → r v vs H Qv
abbrev MonoM (op : RMW) : Prop := ∀ (x : W) (ws : List W) (S : Store) (Q Q' : WK), (∀ w S', Q w S' → Q' w S') → op x ws S Q → op x ws S Q'
def mBM (op : RMW) (mo : ME) (ma : MA) : ME := fun env S Q => mo env S fun w S1 => isLst w S1 ∧ ma env S1 fun ws S2 => op w ws S2 Q
def mBM0 (op : RMW) (mo : ME) : ME := fun env S Q => mo env S fun w S1 => isLst w S1 ∧ op w [] S1 Q
theorem lst_ty {K : PySem.W.Frag} {ι : List Addr} {S : Store} {H : Hp} {w : W} {v : V} (s : Sim K Tb ι S H) (r : VR K ι H w v) (h : isLst w S) : tyV K "list" v H := by
  unfold isLst at h
  cases w with
  | ref n =>
    obtain ⟨a, ha, rfl⟩ := r
    obtain ⟨l, e, _⟩ := oL_some h
    obtain ⟨vs, e1, _⟩ := lst_at s ha e
    exact .inl ⟨rfl, _, SqL.of e1⟩
  | _ => exact h.elim
theorem e_bm {r : V → List V → Hp → VK → Prop} {op : RMW} {name : Str} {id : String} {apos cpos : Pos} (slot : Slot "list" name id) (hty : typeOf (.builtin id) = pure (.type "method_descriptor")) (hm : MtR X id r) (hr : ML X.K Tb r op) (mm : MonoM op) (ho : EE X Tb o mo) (ha : EA X Tb (e :: es) mr)
    (hbase : attributeBase o name X.env (eval o X.env) = eval o X.env := by rfl)
    (hfew : ((backTo cpos (starEach (e :: es) X.env)).all (fun x => !x.1) && (backToKw cpos (keywordEach [] X.env)).all (fun x => x.1.isSome)
      && decide ((e :: es).length + ([] : List Keyword).length + (if ([] : List Keyword).isEmpty then 0 else 1) < 30)) = true := by rfl)
    (hline : (apos.endLine == cpos.line) = true := by rfl) (hs : starEach (e :: es) X.env = (false, eval e X.env) :: starEach es X.env := by rfl) (hplain : (backTo cpos (starEach es X.env)).any (·.1) = false := by rfl) :
    EE X Tb (.Call (.Attribute o name apos) (e :: es) [] cpos) (mBM op mo mr) := by
  refine ⟨pe_imp (pe_bm PySem.F.plainAttrs_list slot hty hm ho.pe ha.pa hbase hfew hline hs hplain) fun σ H Q h => ?_, fun env S Q Q' k h => ho.mono _ _ _ _ (fun w S1 z => ⟨z.1, ha.mono _ _ _ _ (fun ws S2 z2 => mm _ _ _ _ _ k z2) z.2⟩) h⟩
  obtain ⟨ι, env, S, s, er, h⟩ := h
  refine ⟨ι, env, S, s, er, ho.mono _ _ _ _ (fun w S1 z ι1 H1 v s1 g1 r1 => ⟨lst_ty s1 r1 z.1, ι1, env, S1, s1, er.grow g1, ha.mono _ _ _ _ (fun ws S2 z2 ι2 H2 vs s2 g2 r2 => ?_) z.2⟩) h⟩
  exact hr ι2 S2 H2 w v ws vs _ _ s2 (VR.grow g2 w r1) r2 z2 fun ι3 S3 H3 w3 v3 q3 s3 g3 r3 => q3 ι3 H3 v3 s3 ((g1.trans g2).trans g3) r3
theorem e_bm0 {r : V → List V → Hp → VK → Prop} {op : RMW} {name : Str} {id : String} {apos cpos : Pos} (slot : Slot "list" name id) (hty : typeOf (.builtin id) = pure (.type "method_descriptor")) (hm : MtR X id r) (hr : ML X.K Tb r op) (mm : MonoM op) (ho : EE X Tb o mo)
    (hbase : attributeBase o name X.env (eval o X.env) = eval o X.env := by rfl) (hline : (apos.endLine == cpos.line) = true := by rfl) : EE X Tb (.Call (.Attribute o name apos) [] [] cpos) (mBM0 op mo) := by
  refine ⟨pe_imp (pe_bm0 PySem.F.plainAttrs_list slot hty hm ho.pe hbase hline) fun σ H Q h => ?_, fun env S Q Q' k h => ho.mono _ _ _ _ (fun w S1 z => ⟨z.1, mm _ _ _ _ _ k z.2⟩) h⟩
  obtain ⟨ι, env, S, s, er, h⟩ := h
  refine ⟨ι, env, S, s, er, ho.mono _ _ _ _ (fun w S1 z ι1 H1 v s1 g1 r1 => ⟨lst_ty s1 r1 z.1, ?_⟩) h⟩
  exact hr ι1 S1 H1 w v [] [] _ _ s1 r1 rfl z.2 fun ι3 S3 H3 w3 v3 q3 s3 g3 r3 => q3 ι3 H3 v3 s3 (g1.trans g3) r3
def wAppend : RMW := fun w ws S Q => match w, ws with
  | .ref n, [x] => oL S[n]? fun l => l.length < sizeLine ∧ Q .non (S.set n (.lst (l ++ [x])))
  | _, _ => False
theorem mo_append : MonoM wAppend := fun x ws S Q Q' k h => by
  unfold wAppend at h ⊢
  split at h
  · exact oL_mono (fun l z => ⟨z.1, k _ _ z.2⟩) h
  · exact h.elim
theorem rl_append {K : PySem.W.Frag} : ML K Tb rAppend wAppend := fun ι S H w v ws vs Q Qv s r rs h k => by
  unfold wAppend at h
  split at h
  · obtain ⟨l, el, h1, h2⟩ := oL_some h
    obtain ⟨a, ha, rfl⟩ := r
    obtain ⟨x, t, rfl, rx, e⟩ := rs
    obtain rfl : t = [] := e
    obtain ⟨us, e1, ru⟩ := lst_at s ha el
    obtain ⟨s2, g2⟩ := setL s ha el (ru.app (VRs.one rx))
    exact ⟨a, us, x, rfl, rfl, e1, by rw [ru.len]; exact h1, k ι _ _ _ _ h2 s2 g2 rfl⟩
  · exact h.elim
theorem e_append {apos cpos : Pos} (ho : EE X Tb o mo) (ha : EA X Tb [e] mr) (hbase : attributeBase o "append" X.env (eval o X.env) = eval o X.env := by rfl)
    (hfew : ((backTo cpos (starEach [e] X.env)).all (fun x => !x.1) && (backToKw cpos (keywordEach [] X.env)).all (fun x => x.1.isSome)
      && decide ([e].length + ([] : List Keyword).length + (if ([] : List Keyword).isEmpty then 0 else 1) < 30)) = true := by rfl)
    (hline : (apos.endLine == cpos.line) = true := by rfl) (hs : starEach [e] X.env = (false, eval e X.env) :: starEach [] X.env := by rfl) (hplain : (backTo cpos (starEach [] X.env)).any (·.1) = false := by rfl) : EE X Tb (.Call (.Attribute o "append" apos) [e] [] cpos) (mBM wAppend mo mr) :=
  e_bm PySem.F.slot_list_append PySem.F.type_list_append mt_append rl_append mo_append ho ha hbase hfew hline hs hplain
def wPop : RMW := fun w ws S Q => match w, ws with
  | .ref n, [] => oL S[n]? fun l => oW l.getLast? fun y => Q y (S.set n (.lst l.dropLast))
  | _, _ => False
theorem mo_pop : MonoM wPop := fun x ws S Q Q' k h => by
  unfold wPop at h ⊢
  split at h
  · exact oL_mono (fun l z => oW_mono (fun y q => k _ _ q) z) h
  · exact h.elim
theorem rl_pop {K : PySem.W.Frag} : ML K Tb rPop wPop := fun ι S H w v ws vs Q Qv s r rs h k => by
  unfold wPop at h
  split at h
  · obtain ⟨l, el, h⟩ := oL_some h
    obtain ⟨y, ey, h⟩ := oW_some h
    obtain ⟨a, ha, rfl⟩ := r
    obtain rfl : vs = [] := rs
    obtain ⟨us, e1, ru⟩ := lst_at s ha el
    rw [List.getLast?_eq_getElem?] at ey
    obtain ⟨u, e2, r2⟩ := ru.at ey
    obtain ⟨s2, g2⟩ := setL s ha el ru.dropLast
    exact ⟨a, us, u, rfl, rfl, e1, by rw [ru.len]; exact e2, k ι _ _ _ _ h s2 g2 (VR.grow g2 y r2)⟩
  · exact h.elim
theorem e_pop {apos cpos : Pos} (ho : EE X Tb o mo) (hbase : attributeBase o "pop" X.env (eval o X.env) = eval o X.env := by rfl) (hline : (apos.endLine == cpos.line) = true := by rfl) : EE X Tb (.Call (.Attribute o "pop" apos) [] [] cpos) (mBM0 wPop mo) :=
  e_bm0 PySem.F.slot_list_pop PySem.F.type_list_pop mt_pop rl_pop mo_pop ho hbase hline
def wExtend : RMW := fun w ws S Q => match w, ws with
  | .ref n, [.ref m] => o2 S[n]? S[m]? fun a b => a.length + b.length ≤ sizeLine ∧ Q .non (S.set n (.lst (a ++ b)))
  | _, _ => False
theorem mo_extend : MonoM wExtend := fun x ws S Q Q' k h => by
  unfold wExtend at h ⊢
  split at h
  · exact o2_mono (fun a b z => ⟨z.1, k _ _ z.2⟩) h
  · exact h.elim
theorem rl_extend {K : PySem.W.Frag} : ML K Tb rExtend wExtend := fun ι S H w v ws vs Q Qv s r rs h k => by
  unfold wExtend at h
  split at h
  · obtain ⟨a, b, ea, eb, h1, h2⟩ := o2_some h
    obtain ⟨p, hp, rfl⟩ := r
    obtain ⟨x, t, rfl, ⟨q, hq, rfl⟩, e⟩ := rs
    obtain rfl : t = [] := e
    obtain ⟨xs, e1, ra⟩ := lst_at s hp ea
    obtain ⟨ys, e2, rb⟩ := lst_at s hq eb
    obtain ⟨s2, g2⟩ := setL s hp ea (ra.app rb)
    exact ⟨p, q, xs, ys, rfl, rfl, e1, e2, by rw [ra.len, rb.len]; exact h1, k ι _ _ _ _ h2 s2 g2 rfl⟩
  · exact h.elim
theorem e_extend {apos cpos : Pos} (ho : EE X Tb o mo) (ha : EA X Tb [e] mr) (hbase : attributeBase o "extend" X.env (eval o X.env) = eval o X.env := by rfl)
    (hfew : ((backTo cpos (starEach [e] X.env)).all (fun x => !x.1) && (backToKw cpos (keywordEach [] X.env)).all (fun x => x.1.isSome)
      && decide ([e].length + ([] : List Keyword).length + (if ([] : List Keyword).isEmpty then 0 else 1) < 30)) = true := by rfl)
    (hline : (apos.endLine == cpos.line) = true := by rfl) (hs : starEach [e] X.env = (false, eval e X.env) :: starEach [] X.env := by rfl) (hplain : (backTo cpos (starEach [] X.env)).any (·.1) = false := by rfl) : EE X Tb (.Call (.Attribute o "extend" apos) [e] [] cpos) (mBM wExtend mo mr) :=
  e_bm PySem.F.slot_list_extend PySem.F.type_list_extend mt_extend rl_extend mo_extend ho ha hbase hfew hline hs hplain
/-! ### o[i] = e -/
def wSet (o i v : W) (S : Store) (k : Store → Prop) : Prop := match o with
  | .ref n => match S[n]? with
    | some (.lst l) => match i with
      | .int j => oW (ixN l.length j) fun c => k (S.set n (.lst (l.set c v)))
      | _ => False
    | some (.dK l) => oW (keyW i) fun c => l.length < sizeLine ∧ k (S.set n (.dK (putW l c v)))
    | _ => False
  | _ => False
theorem wSet_mono {o i v : W} {S : Store} {k k' : Store → Prop} (f : ∀ S', k S' → k' S') (h : wSet o i v S k) : wSet o i v S k' := by
  unfold wSet at h ⊢
  cases o with
  | ref n =>
    dsimp only at h ⊢
    split at h
    · cases i with
      | int j => exact oW_mono (fun c z => f _ z) h
      | _ => exact h.elim
    · exact oW_mono (fun c z => ⟨z.1, f _ z.2⟩) h
    · exact h.elim
  | _ => exact h.elim
def mgSub (mo mi : ME) : MG := fun w env S Q => mo env S fun ow S1 => mi env S1 fun iw S2 => wSet ow iw w S2 fun S3 => Q env S3
def rSetW : TSet := fun o i v H Q => rSetL o i v H Q ∨ ∃ a H', o = .ref a ∧ DPut H a i v H' ∧ Q H'
theorem set_any (hu : X.A.units + 1 < cLine) : PSet X rSetW := fun pins s σ H o i v ov iv u Q I ro ri rv h => by
  rcases h with h | ⟨a, H', e, g, q⟩
  · exact set_list pins s σ H o i v ov iv u Q I ro ri rv h
  · subst e
    obtain rfl : ov = Value.ref a := ro
    exact d_setItem hu I g ri rv fun s4 I4 => ⟨H', I4, q⟩
theorem putW_map {κ : Type} [DecidableEq κ] {K : PySem.W.Frag} {ι : List Addr} {H : Hp} {l : List (κ × W)} {kvs : List (κ × V)} (h : kvs.map (·.1) = l.map (·.1)) (r : VRs K ι H (l.map (·.2)) (kvs.map (·.2))) (k : κ) {w : W} {v : V} (rw' : VR K ι H w v) :
    (putK kvs k v).map (·.1) = (putW l k w).map (·.1) ∧ VRs K ι H ((putW l k w).map (·.2)) ((putK kvs k v).map (·.2)) := by
  have ea : (kvs.any fun kv => decide (kv.1 = k)) = l.any fun kv => decide (kv.1 = k) := by
    have e1 : (kvs.any fun kv => decide (kv.1 = k)) = (kvs.map (·.1)).any fun c => decide (c = k) := by rw [List.any_map]; rfl
    have e2 : (l.any fun kv => decide (kv.1 = k)) = (l.map (·.1)).any fun c => decide (c = k) := by rw [List.any_map]; rfl
    rw [e1, e2, h]
  unfold putK putW
  rw [ea]
  by_cases c : (l.any fun kv => decide (kv.1 = k)) = true
  · rw [if_pos c, if_pos c]
    clear ea c
    induction l generalizing kvs with
    | nil =>
      cases kvs with
      | nil => exact ⟨rfl, rfl⟩
      | cons p t => cases h
    | cons p l ih =>
      cases kvs with
      | nil => cases h
      | cons q kvs =>
        rw [List.map_cons, List.map_cons] at h
        injection h with h1 h2
        obtain ⟨u, us, e, r1, r2⟩ := r
        injection e with e1 e2
        subst e1
        subst e2
        obtain ⟨i1, i2⟩ := ih h2 r2
        simp only [List.map_cons]
        by_cases c : p.1 = k
        · rw [if_pos c, if_pos (h1.trans c)]
          exact ⟨by rw [i1, h1], _, _, rfl, rw', i2⟩
        · rw [if_neg c, if_neg (by rw [h1]; exact c)]
          exact ⟨by rw [i1, h1], _, _, rfl, r1, i2⟩
  · rw [if_neg c, if_neg c, List.map_append, List.map_append, List.map_append, List.map_append, h]
    exact ⟨rfl, r.app (VRs.one rw')⟩
theorem setD {K : PySem.W.Frag} {ι : List Addr} {S : Store} {H : Hp} {n : Nat} {a : Addr} {l : List (Key × W)} {kvs0 kvs : List (Key × V)} (s : Sim K Tb ι S H) (ha : ι[n]? = some a) (e0 : H a = some (.dK kvs0)) (h : kvs.map (·.1) = l.map (·.1)) (r : VRs K ι H (l.map (·.2)) (kvs.map (·.2))) :
    Sim K Tb ι (S.set n (.dK l)) (upd H a (.dK kvs)) ∧ Grow K ι H ι (upd H a (.dK kvs)) :=
  s.set ha (fun ob v z => by rw [e0] at z; cases z) fun H' g e' => ⟨kvs, e', h, r.grow g⟩
theorem ixN_len {n m : Nat} (h : n = m) (j : Int) : ixN n j = ixN m j := by rw [h]
theorem g_sub (hu : X.A.units + 1 < cLine) (ho : EE X Tb o mo) (hi : EE X Tb i mi) (ha : ∀ v, assign (.Subscript o i pos) X.env v = (do
      let ov ← holding [v] (eval o X.env)
      let iv ← holding [v, ov] (eval i X.env)
      standAt pos
      holding [v, ov, iv] (setItem ov iv v)
      release [v, ov, iv] []) := by intro _; rfl) : EG X Tb (.Subscript o i pos) (mgSub mo mi) := by
  refine ⟨pg_imp (pg_sub ho.pe hi.pe (set_any hu) ha) fun v σ H Q h => ?_, fun w env S Q Q' k h => ho.mono _ _ _ _ (fun x S1 q1 => hi.mono _ _ _ _ (fun y S2 q2 => wSet_mono (fun S3 z => k _ _ z) q2) q1) h⟩
  obtain ⟨ι, env, S, w, s, er, r, h⟩ := h
  refine ⟨ι, env, S, s, er, ho.mono _ _ _ _ (fun x S1 q1 ι1 H1 vx s1 g1 r1 => ⟨ι1, env, S1, s1, er.grow g1, hi.mono _ _ _ _ (fun y S2 q2 ι2 H2 vy s2 g2 r2 => ?_) q1⟩) h⟩
  have rx := VR.grow g2 x r1
  have rw' := VR.grow g2 w (VR.grow g1 w r)
  have er2 := (er.grow g1).grow g2
  unfold wSet at q2
  cases x with
  | ref n =>
    obtain ⟨a, ha, rfl⟩ := rx
    obtain ⟨ob, hob, q⟩ := s2.there ha
    dsimp only at q2
    rw [hob] at q2
    cases ob with
    | lst l =>
      cases y with
      | int j =>
        obtain ⟨c, ec, q2⟩ := oW_some q2
        obtain ⟨vs, e, rv⟩ := q
        obtain rfl : vy = _ := r2
        obtain ⟨s3, g3⟩ := setL s2 ha hob (rv.set c rw')
        exact .inl ⟨a, vs, j, c, rfl, rfl, e, by rw [ixN_len rv.len]; exact ec, q2 ι2 _ _ s3 ((g1.trans g2).trans g3) (er2.grow g3)⟩
      | _ => exact q2.elim
    | dK l =>
      obtain ⟨c, ec, h1, q2⟩ := oW_some q2
      obtain ⟨kvs, e, e1, rv⟩ := q
      obtain ⟨p1, p2⟩ := putW_map e1 rv c rw'
      obtain ⟨s3, g3⟩ := setD s2 ha e p1 p2
      have hl : kvs.length = l.length := by
        have := congrArg List.length e1
        rwa [List.length_map, List.length_map] at this
      refine .inr ⟨a, _, rfl, .inl ⟨kvs, c, e, keyW_v r2 ec, by rw [hl]; exact h1, rfl⟩, q2 ι2 _ _ s3 ((g1.trans g2).trans g3) (er2.grow g3)⟩
    | _ => exact q2.elim
  | _ => exact q2.elim
end
end Ev

set_option Elab.async false
set_option linter.all false
set_option maxRecDepth 100000
set_option maxHeartbeats 4000000
/-! Built-in functions. -/
namespace Ev
open PySem PySem.Spec PyProof.Rows L2 Ow
theorem callR_or {X : Cx} {f : Value} {r r' : List V → Hp → VK → Prop} (h : CallR X f r) (h' : CallR X f r') : CallR X f (fun xs H Q => r xs H Q ∨ r' xs H Q) := fun pins s σ H xs us Q I rv q =>
  q.elim (h pins s σ H xs us Q I rv) (h' pins s σ H xs us Q I rv)
section
variable {X : Cx} {Tb : List Addr}
/-! ### len -/
def oLen (o : Option O) (k : Nat → Prop) : Prop := match o with
  | some (.lst l) => k l.length
  | some (.dK l) => k l.length
  | _ => False
def wLen : RCW := fun ws S Q => match ws with
  | [.tup l] => Q (.int l.length) S
  | [.cl l] => Q (.int l.length) S
  | [.str z] => z.length ≤ sizeLine ∧ Q (.int z.length) S
  | [.ref n] => oLen S[n]? fun k => Q (.int k) S
  | _ => False
theorem oLen_mono {o : Option O} {k k' : Nat → Prop} (f : ∀ n, k n → k' n) (h : oLen o k) : oLen o k' := by
  unfold oLen at h ⊢
  split at h
  · exact f _ h
  · exact f _ h
  · exact h.elim
theorem mo_len : MonoC wLen := fun x S Q Q' k h => by
  unfold wLen at h ⊢
  split at h
  · exact k _ _ h
  · exact k _ _ h
  · exact ⟨h.1, k _ _ h.2⟩
  · exact oLen_mono (fun n z => k _ _ z) h
  · exact h.elim
def rLenW (K : PySem.W.Frag) : List V → Hp → VK → Prop := fun xs H Q => (∃ p ys, xs = [V.ref p] ∧ (SqL K H p ys ∨ SqT K H p ys) ∧ Q (.int ys.length) H) ∨ (∃ z, xs = [V.str z] ∧ z.length ≤ sizeLine ∧ Q (.int z.length) H) ∨ ∃ (p : Addr) (kvs : List (Key × V)), xs = [V.ref p] ∧ H p = some (.dK kvs) ∧ Q (.int kvs.length) H
theorem call_lenW : CallR X (.builtin "len") (rLenW X.K) := fun pins s σ H xs us Q I rv h => by
  rcases h with h | h | ⟨p, kvs, e, hp, q⟩
  · exact call_len_seq pins s σ H xs us Q I rv h
  · exact call_len_str pins s σ H xs us Q I rv h
  · subst e
    obtain ⟨u, rfl, ru⟩ := vals1 rv
    obtain rfl : u = Value.ref p := ru
    exact d_len I (.inl hp) fun t s' I' => ⟨.int kvs.length, H, I', ⟨t, rfl⟩, q⟩
theorem one_of {K : PySem.W.Frag} {ι : List Addr} {H : Hp} {w : W} {vs : List V} (r : VRs K ι H [w] vs) : ∃ v, vs = [v] ∧ VR K ι H w v := by
  obtain ⟨v, t, rfl, h, e⟩ := r
  obtain rfl : t = [] := e
  exact ⟨v, rfl, h⟩
theorem two_of {K : PySem.W.Frag} {ι : List Addr} {H : Hp} {w x : W} {vs : List V} (r : VRs K ι H [w, x] vs) : ∃ v u, vs = [v, u] ∧ VR K ι H w v ∧ VR K ι H x u := by
  obtain ⟨v, t, rfl, h, r2⟩ := r
  obtain ⟨u, rfl, h2⟩ := one_of r2
  exact ⟨v, u, rfl, h, h2⟩
theorem cl_len {K : PySem.W.Frag} : CL K Tb (rLenW K) wLen := fun ι S H ws vs Q Qv s r h k => by
  unfold wLen at h
  split at h
  · obtain ⟨v, rfl, a, us, rfl, hq, rv⟩ := one_of r
    exact .inl ⟨a, us, rfl, .inr hq, by rw [rv.len]; exact k ι S H _ _ h s Grow.refl rfl⟩
  · obtain ⟨v, rfl, a, us, rfl, hq, rv⟩ := one_of r
    exact .inl ⟨a, us, rfl, .inl hq.sq, by rw [rv.len]; exact k ι S H _ _ h s Grow.refl rfl⟩
  · obtain ⟨v, rfl, e⟩ := one_of r
    obtain rfl : v = _ := e
    exact .inr (.inl ⟨_, rfl, h.1, k ι S H _ _ h.2 s Grow.refl rfl⟩)
  · obtain ⟨v, rfl, a, ha, rfl⟩ := one_of r
    obtain ⟨o, ho, q⟩ := s.there ha
    rw [ho] at h
    cases o with
    | lst l =>
      obtain ⟨us, e, rv⟩ := q
      exact .inl ⟨a, us, rfl, .inl (SqL.of e), by rw [rv.len]; exact k ι S H _ _ h s Grow.refl rfl⟩
    | dK l =>
      obtain ⟨kvs, e, e1, rv⟩ := q
      have hl : kvs.length = l.length := by
        have := congrArg List.length e1
        rwa [List.length_map, List.length_map] at this
      exact .inr (.inr ⟨a, kvs, rfl, e, by rw [hl]; exact k ι S H _ _ h s Grow.refl rfl⟩)
    | _ => exact h.elim
  · exact h.elim
/-! ### isinstance -/
def tyO : Option O → Option String
  | some (.lst _) => some "list"
  | some (.dK _) => some "dict"
  | _ => none
def tyW (S : Store) : W → Option String
  | .non => some "NoneType"
  | .bl _ => some "bool"
  | .int _ => some "int"
  | .str _ => some "str"
  | .tup _ => some "tuple"
  | .cl _ => some "list"
  | .ref n => tyO S[n]?
  | _ => none
def subTy (t c : String) : Bool := t == c || (t == "bool" && c == "int")
def tys : List String := ["NoneType", "bool", "int", "str", "tuple", "list", "dict"]
def clss : List String := ["bool", "int", "str", "tuple", "list", "dict"]
theorem kit_all : ∀ t ∈ tys, ∀ c ∈ clss, kitB t c = some (subTy t c) := by decide +kernel
def wIsi : RCW := fun ws S Q => match ws with
  | [x, .ty c] => c ∈ clss ∧ oW (tyW S x) fun t => Q (.bl (subTy t c)) S
  | _ => False
theorem mo_isi : MonoC wIsi := fun x S Q Q' k h => by
  unfold wIsi at h ⊢
  split at h
  · exact ⟨h.1, oW_mono (fun t z => k _ _ z) h.2⟩
  · exact h.elim
theorem ty_of {K : PySem.W.Frag} {ι : List Addr} {S : Store} {H : Hp} {w : W} {v : V} {t : String} (s : Sim K Tb ι S H) (r : VR K ι H w v) (h : tyW S w = some t) : TyX K H v (.type t) ∧ t ∈ tys := by
  cases w with
  | non => obtain rfl : v = _ := r; cases h; exact ⟨.base .non, by decide⟩
  | bl b => obtain rfl : v = _ := r; cases h; exact ⟨.base (.bl _), by decide⟩
  | int b => obtain rfl : v = _ := r; cases h; exact ⟨.base (.int _), by decide⟩
  | str b => obtain rfl : v = _ := r; cases h; exact ⟨.base (.str _), by decide⟩
  | tup l =>
    obtain ⟨a, vs, rfl, hq, _⟩ := r
    cases h
    refine ⟨?_, by decide⟩
    rcases hq with (q | ⟨o, q⟩) | ⟨o, its, n, e, c, _⟩
    · exact .base (.tup q)
    · exact .fTuple q
    · exact .kTuple e c
  | cl l =>
    obtain ⟨a, vs, rfl, hq, _⟩ := r
    cases h
    refine ⟨?_, by decide⟩
    rcases hq with ⟨o, q⟩ | ⟨o, its, n, e, c, _⟩
    · exact .base (.frz q)
    · exact .kList e c
  | ref n =>
    obtain ⟨a, ha, rfl⟩ := r
    obtain ⟨o, ho, q⟩ := s.there ha
    have h : tyO S[n]? = some t := h
    rw [ho] at h
    cases o with
    | lst l =>
      obtain ⟨us, e, rv⟩ := q
      cases h
      exact ⟨.base (.lst e), by decide⟩
    | dK l =>
      obtain ⟨kvs, e, _⟩ := q
      cases h
      exact ⟨.base (.dK e), by decide⟩
    | _ => cases h
  | adr a => cases h
  | ty n => cases h
theorem cl_isi {K : PySem.W.Frag} : CL K Tb (rIsi K) wIsi := fun ι S H ws vs Q Qv s r h k => by
  unfold wIsi at h
  split at h
  · rename_i x c
    obtain ⟨hc, h⟩ := h
    obtain ⟨t, et, h⟩ := oW_some h
    obtain ⟨v, u, rfl, r1, r2⟩ := two_of r
    obtain rfl : u = _ := r2
    obtain ⟨ty, ht⟩ := ty_of s r1 et
    exact ⟨v, .ty c, .type t, .type c, _, rfl, .ty c, ty, kit_ty (kit_all t ht c hc), k ι S H _ _ h s Grow.refl rfl⟩
  · exact h.elim
/-! ### int, list, tuple, min, max, abs -/
def wIntC : RCW := fun ws S Q => match ws with
  | [.int i] => Q (.int i) S
  | [.bl b] => Q (.int (if b then 1 else 0)) S
  | _ => False
theorem mo_intC : MonoC wIntC := fun x S Q Q' k h => by
  unfold wIntC at h ⊢
  split at h
  · exact k _ _ h
  · exact k _ _ h
  · exact h.elim
theorem cl_intC {K : PySem.W.Frag} : CL K Tb (fun xs H Q => (∃ i, xs = [V.int i] ∧ Q (.int i) H) ∨ ∃ k, xs = [V.bl k] ∧ Q (.int (if k then 1 else 0)) H) wIntC := fun ι S H ws vs Q Qv s r h k => by
  unfold wIntC at h
  split at h
  · obtain ⟨v, rfl, e⟩ := one_of r
    obtain rfl : v = _ := e
    exact .inl ⟨_, rfl, k ι S H _ _ h s Grow.refl rfl⟩
  · obtain ⟨v, rfl, e⟩ := one_of r
    obtain rfl : v = _ := e
    exact .inr ⟨_, rfl, k ι S H _ _ h s Grow.refl rfl⟩
  · exact h.elim
def wAbs : RCW := fun ws S Q => match ws with
  | [.int i] => Q (.int (if i < 0 then -i else i)) S
  | _ => False
theorem mo_abs : MonoC wAbs := fun x S Q Q' k h => by
  unfold wAbs at h ⊢
  split at h
  · exact k _ _ h
  · exact h.elim
theorem cl_abs {K : PySem.W.Frag} : CL K Tb (fun xs H Q => ∃ i, xs = [V.int i] ∧ Q (.int (if i < 0 then -i else i)) H) wAbs := fun ι S H ws vs Q Qv s r h k => by
  unfold wAbs at h
  split at h
  · obtain ⟨v, rfl, e⟩ := one_of r
    obtain rfl : v = _ := e
    exact ⟨_, rfl, k ι S H _ _ h s Grow.refl rfl⟩
  · exact h.elim
def wII (f : Int → Int → Int) : RCW := fun ws S Q => match ws with
  | [.int i, .int j] => Q (.int (f i j)) S
  | _ => False
theorem mo_II {f : Int → Int → Int} : MonoC (wII f) := fun x S Q Q' k h => by
  unfold wII at h ⊢
  split at h
  · exact k _ _ h
  · exact h.elim
theorem cl_II {K : PySem.W.Frag} {f : Int → Int → Int} : CL K Tb (fun xs H Q => ∃ i j, xs = [V.int i, V.int j] ∧ Q (.int (f i j)) H) (wII f) := fun ι S H ws vs Q Qv s r h k => by
  unfold wII at h
  split at h
  · obtain ⟨v, u, rfl, e, e2⟩ := two_of r
    obtain rfl : v = _ := e
    obtain rfl : u = _ := e2
    exact ⟨_, _, rfl, k ι S H _ _ h s Grow.refl rfl⟩
  · exact h.elim
abbrev wMax : RCW := wII fun i j => if j > i then j else i
abbrev wMin : RCW := wII fun i j => if j < i then j else i
def oItems (o : Option O) (k : List W → Prop) : Prop := match o with
  | some (.lst l) => k l
  | some (.dK l) => k (l.map fun kv => match kv.1 with
    | .inl i => W.int i
    | .inr x => W.str x)
  | _ => False
def keyV : Key → W
  | .inl i => W.int i
  | .inr x => W.str x
/-- list(x) -/
def wList : RCW := fun ws S Q => match ws with
  | [.tup l] => Q (.ref S.length) (S ++ [.lst l])
  | [.cl l] => Q (.ref S.length) (S ++ [.lst l])
  | [.str z] => z.length ≤ sizeLine ∧ Q (.ref S.length) (S ++ [.lst (z.cps.toList.map signW)])
  | [.ref n] => match S[n]? with
    | some (.lst l) => Q (.ref S.length) (S ++ [.lst l])
    | some (.dK l) => Q (.ref S.length) (S ++ [.lst (l.map fun kv => keyV kv.1)])
    | _ => False
  | _ => False
theorem mo_list : MonoC wList := fun x S Q Q' k h => by
  unfold wList at h ⊢
  split at h
  · exact k _ _ h
  · exact k _ _ h
  · exact ⟨h.1, k _ _ h.2⟩
  · split at h
    · exact k _ _ h
    · exact k _ _ h
    · exact h.elim
  · exact h.elim
def rListW (K : PySem.W.Frag) : List V → Hp → VK → Prop := fun xs H Q => (∃ p ys, xs = [V.ref p] ∧ (SqL K H p ys ∨ SqT K H p ys) ∧ ∀ l, H l = none → Q (.ref l) (upd H l (.lst ys))) ∨
  (∃ z, xs = [V.str z] ∧ z.length ≤ sizeLine ∧ ∀ l, H l = none → Q (.ref l) (upd H l (.lst (signs z)))) ∨ L2.rListD xs H Q
theorem call_listW (hc : X.calm = true) : CallR X (.type "list") (rListW X.K) := callR_or call_list_of (callR_or (call_list_text hc) (call_list_dK hc))
theorem VRs.signs {K : PySem.W.Frag} {ι : List Addr} {H : Hp} : ∀ l : List Nat, VRs K ι H (l.map signW) (l.map fun c => V.str ⟨#[c]⟩)
  | [] => rfl
  | c :: l => ⟨_, _, rfl, rfl, VRs.signs l⟩
theorem VRs.keys {K : PySem.W.Frag} {ι : List Addr} {H : Hp} : ∀ l : List Key, VRs K ι H (l.map keyV) (l.map kV)
  | [] => rfl
  | .inl i :: l => ⟨_, _, rfl, rfl, VRs.keys l⟩
  | .inr i :: l => ⟨_, _, rfl, rfl, VRs.keys l⟩
theorem cl_list {K : PySem.W.Frag} : CL K Tb (rListW K) wList := fun ι S H ws vs Q Qv s r h k => by
  have new : ∀ {l : List W} {us : List V} {p : Addr}, VRs K ι H l us → H p = none → Q (.ref S.length) (S ++ [.lst l]) → Qv (.ref p) (upd H p (.lst us)) := fun {l us p} rv np q => by
    obtain ⟨ι2, s2, g2, r2⟩ := newL s rv np
    exact k ι2 _ _ _ _ q s2 g2 r2
  unfold wList at h
  split at h
  · obtain ⟨v, rfl, a, us, rfl, hq, rv⟩ := one_of r
    exact .inl ⟨a, us, rfl, .inr hq, fun p np => new rv np h⟩
  · obtain ⟨v, rfl, a, us, rfl, hq, rv⟩ := one_of r
    exact .inl ⟨a, us, rfl, .inl hq.sq, fun p np => new rv np h⟩
  · obtain ⟨v, rfl, e⟩ := one_of r
    obtain rfl : v = _ := e
    exact .inr (.inl ⟨_, rfl, h.1, fun p np => new (VRs.signs _) np h.2⟩)
  · obtain ⟨v, rfl, a, ha, rfl⟩ := one_of r
    obtain ⟨o, ho, q⟩ := s.there ha
    rw [ho] at h
    cases o with
    | lst l =>
      obtain ⟨us, e, rv⟩ := q
      exact .inl ⟨a, us, rfl, .inl (SqL.of e), fun p np => new rv np h⟩
    | dK l =>
      obtain ⟨kvs, e, e1, rv⟩ := q
      refine .inr (.inr ⟨a, kvs, rfl, e, fun p np => new ?_ np h⟩)
      have e2 : (kvs.map fun kv => kV kv.1) = (kvs.map (·.1)).map kV := by rw [List.map_map]; rfl
      have e3 : (l.map fun kv => keyV kv.1) = (l.map (·.1)).map keyV := by rw [List.map_map]; rfl
      rw [e2, e3, e1]
      exact VRs.keys _
    | _ => exact h.elim
  · exact h.elim
/-- tuple(x) -/
def wTuple : RCW := fun ws S Q => match ws with
  | [.tup l] => Q (.tup l) S
  | [.cl l] => Q (.tup l) S
  | [.ref n] => oL S[n]? fun l => Q (.tup l) S
  | _ => False
theorem mo_tuple : MonoC wTuple := fun x S Q Q' k h => by
  unfold wTuple at h ⊢
  split at h
  · exact k _ _ h
  · exact k _ _ h
  · exact oL_mono (fun l z => k _ _ z) h
  · exact h.elim
theorem cl_tuple {K : PySem.W.Frag} : CL K Tb (fun xs H Q => ∃ p ys, xs = [V.ref p] ∧ ((SqL K H p ys ∧ ∀ l, H l = none → Q (.ref l) (upd H l (.tup ys))) ∨ (SqT K H p ys ∧ Q (.ref p) H))) wTuple := fun ι S H ws vs Q Qv s r h k => by
  have new : ∀ {l : List W} {us : List V} {p : Addr}, VRs K ι H l us → H p = none → Q (.tup l) S → Qv (.ref p) (upd H p (.tup us)) := fun {l us p} rv np q => by
    obtain ⟨s2, g2⟩ := s.tup (xs := us) np
    exact k ι _ _ _ _ q s2 g2 ⟨p, us, rfl, SqT.of upd_same, rv.grow g2⟩
  unfold wTuple at h
  split at h
  · obtain ⟨v, rfl, a, us, rfl, hq, rv⟩ := one_of r
    exact ⟨a, us, rfl, .inr ⟨hq, k ι S H _ _ h s Grow.refl ⟨a, us, rfl, hq, rv⟩⟩⟩
  · obtain ⟨v, rfl, a, us, rfl, hq, rv⟩ := one_of r
    exact ⟨a, us, rfl, .inl ⟨hq.sq, fun p np => new rv np h⟩⟩
  · obtain ⟨v, rfl, a, ha, rfl⟩ := one_of r
    obtain ⟨l, el, h⟩ := oL_some h
    obtain ⟨us, e, rv⟩ := lst_at s ha el
    exact ⟨a, us, rfl, .inl ⟨SqL.of e, fun p np => new rv np h⟩⟩
  · exact h.elim
variable {a e f : Expr} {es : List Expr} {mr : MA} {p pos : Pos}
theorem e_len (hg : Gl X "len") (hm : X.mg "len" = none) (ha : EA X Tb [e] mr) (he : starEach [e] X.env = (false, eval e X.env) :: starEach [] X.env := by rfl) (hpl : (backTo pos (starEach [] X.env)).any (·.1) = false := by rfl) : EE X Tb (.Call (.Name "len" p) [e] [] pos) (mCB wLen mr) :=
  e_callB call_lenW cl_len mo_len hg hm PySem.boot_len ha (by decide) (by decide) he hpl
theorem e_isi (hg : Gl X "isinstance") (hm : X.mg "isinstance" = none) (ha : EA X Tb [e, f] mr) (he : starEach [e, f] X.env = (false, eval e X.env) :: starEach [f] X.env := by rfl) (hpl : (backTo pos (starEach [f] X.env)).any (·.1) = false := by rfl) : EE X Tb (.Call (.Name "isinstance" p) [e, f] [] pos) (mCB wIsi mr) :=
  e_callB call_isi cl_isi mo_isi hg hm boot_isinstance ha (by decide) (by decide) he hpl
theorem e_intC (hg : Gl X "int") (hm : X.mg "int" = none) (ha : EA X Tb [e] mr) (he : starEach [e] X.env = (false, eval e X.env) :: starEach [] X.env := by rfl) (hpl : (backTo pos (starEach [] X.env)).any (·.1) = false := by rfl) : EE X Tb (.Call (.Name "int" p) [e] [] pos) (mCB wIntC mr) :=
  e_callTy call_int1 cl_intC mo_intC hg hm (by decide +kernel) ha (by decide) (by decide) he hpl
theorem e_abs (hg : Gl X "abs") (hm : X.mg "abs" = none) (ha : EA X Tb [e] mr) (he : starEach [e] X.env = (false, eval e X.env) :: starEach [] X.env := by rfl) (hpl : (backTo pos (starEach [] X.env)).any (·.1) = false := by rfl) : EE X Tb (.Call (.Name "abs" p) [e] [] pos) (mCB wAbs mr) :=
  e_callB call_abs cl_abs mo_abs hg hm (by decide +kernel) ha (by decide) (by decide) he hpl
theorem e_max (hg : Gl X "max") (hm : X.mg "max" = none) (ha : EA X Tb [e, f] mr) (hc : X.calm = true := by rfl) (he : starEach [e, f] X.env = (false, eval e X.env) :: starEach [f] X.env := by rfl) (hpl : (backTo pos (starEach [f] X.env)).any (·.1) = false := by rfl) : EE X Tb (.Call (.Name "max" p) [e, f] [] pos) (mCB wMax mr) :=
  e_callB (call_max2 hc) cl_II mo_II hg hm (by decide +kernel) ha (by decide) (by decide) he hpl
theorem e_min (hg : Gl X "min") (hm : X.mg "min" = none) (ha : EA X Tb [e, f] mr) (hc : X.calm = true := by rfl) (he : starEach [e, f] X.env = (false, eval e X.env) :: starEach [f] X.env := by rfl) (hpl : (backTo pos (starEach [f] X.env)).any (·.1) = false := by rfl) : EE X Tb (.Call (.Name "min" p) [e, f] [] pos) (mCB wMin mr) :=
  e_callB (call_min2 hc) cl_II mo_II hg hm (by decide +kernel) ha (by decide) (by decide) he hpl
theorem e_list (hg : Gl X "list") (hm : X.mg "list" = none) (ha : EA X Tb [e] mr) (hc : X.calm = true := by rfl) (he : starEach [e] X.env = (false, eval e X.env) :: starEach [] X.env := by rfl) (hpl : (backTo pos (starEach [] X.env)).any (·.1) = false := by rfl) : EE X Tb (.Call (.Name "list" p) [e] [] pos) (mCB wList mr) :=
  e_callTy (call_listW hc) cl_list mo_list hg hm (by decide +kernel) ha (by decide) (by decide) he hpl
theorem e_tuple (hg : Gl X "tuple") (hm : X.mg "tuple" = none) (ha : EA X Tb [e] mr) (he : starEach [e] X.env = (false, eval e X.env) :: starEach [] X.env := by rfl) (hpl : (backTo pos (starEach [] X.env)).any (·.1) = false := by rfl) : EE X Tb (.Call (.Name "tuple" p) [e] [] pos) (mCB wTuple mr) :=
  e_callTy call_tuple_of cl_tuple mo_tuple hg hm (by decide +kernel) ha (by decide) (by decide) he hpl
end
end Ev

set_option Elab.async false
set_option linter.all false
set_option maxRecDepth 100000
set_option maxHeartbeats 4000000
/-! all(e for x in xs), lifted. -/
namespace Ev
open PySem PySem.Spec PyProof.Rows L2 Ow GenW
structure EGg (X : Cx) (Tb : List Addr) (scope : Scope) (tg : Expr) (m : MG) (vs : List Nat) : Prop where
  ex : ∃ t, (∀ (A : Around) (s : Shared) (H : Hp) (cl : List (Str × Addr)) (C : Addr) (code : Value) (fp : List Addr), PG (gX X A s H scope (genEnv scope cl C code builtinsNs X.env) fp) tg t) ∧ TW X.K Tb t m vs
  mono : ∀ (w : W) (env : EvS) (S : Store) (Q Q' : EvS → Store → Prop), (∀ e S', Q e S' → Q' e S') → m w env S Q → m w env S Q'
structure EGgs (X : Cx) (Tb : List Addr) (scope : Scope) (tg : List Expr) (m : MGs) (vs : List Nat) : Prop where
  ex : ∃ t, (∀ (A : Around) (s : Shared) (H : Hp) (cl : List (Str × Addr)) (C : Addr) (code : Value) (fp : List Addr), PGs (gX X A s H scope (genEnv scope cl C code builtinsNs X.env) fp) tg t) ∧ TWs X.K Tb t m vs
  mono : ∀ (w : List W) (env : EvS) (S : Store) (Q Q' : EvS → Store → Prop), (∀ e S', Q e S' → Q' e S') → m w env S Q → m w env S Q'
section
variable {X : Cx} {Tb : List Addr} {scope : Scope} {vs : List Nat} {e : Expr} {es : List Expr} {pos : Pos} {mg : MG} {mgs : MGs}
theorem gg_name {i : Nat} {x : Str} (hN : X.N.Nodup) (hm : i ∈ vs := by decide) (hi : X.N[i]? = some x := by rfl) (hx : Loc scope x := by first | exact Or.inl rfl | exact Or.inr rfl)
    (hf : (scope.names.lookup x == some .cell) = true ∨ scope.names.lookup x = some .local := by first | exact .inr rfl | exact .inl rfl) : EGg X Tb scope (.Name x pos) (mgName i) vs :=
  ⟨⟨gName i, fun A s H cl C code fp => pg_name hN hi hx hf, tw_name hm⟩, fun _ _ _ _ _ k h => k _ _ h⟩
theorem ggs_nil : EGgs X Tb scope [] mgNil vs := ⟨⟨gNil, fun _ _ _ _ _ _ _ => pgs_nil, tw_nil⟩, fun _ _ _ _ _ k h => ⟨h.1, k _ _ h.2⟩⟩
theorem ggs_cons (a : EGg X Tb scope e mg vs) (b : EGgs X Tb scope es mgs vs) (hs : ∀ env : Env, (assignEach (e :: es) env).map (·.2) = assign e env :: (assignEach es env).map (·.2) := by intro _; rfl) : EGgs X Tb scope (e :: es) (mgCons mg mgs) vs := by
  obtain ⟨t, h1, w1⟩ := a.ex
  obtain ⟨u, h2, w2⟩ := b.ex
  refine ⟨⟨gCons t u, fun A s H cl C code fp => pgs_cons (h1 A s H cl C code fp) (h2 A s H cl C code fp) (hs _), tw_cons w1 w2⟩, fun ws env S Q Q' k h => ?_⟩
  cases ws with
  | nil => exact h.elim
  | cons w ws => exact a.mono _ _ _ _ _ (fun e S' q => b.mono _ _ _ _ _ k q) h
theorem gg_tup {k n : Nat} (b : EGgs X Tb scope es mgs vs) (hn : ∀ env : Env, (assignEach es env).length = n := by intro _; rfl) (hst : ∀ env : Env, (assignEach es env).findIdx? (·.1) = none := by intro _; rfl) : EGg X Tb scope (.Tuple es k pos) (mgTup n mgs) vs := by
  obtain ⟨u, h2, w2⟩ := b.ex
  refine ⟨⟨gTup X.K n u, fun A s H cl C code fp => pg_tup (X := gX X A s H scope (genEnv scope cl C code builtinsNs X.env) fp) rfl (h2 A s H cl C code fp) (hn _) (hst _), tw_tup w2⟩, fun w env S Q Q' k q => ?_⟩
  cases w with
  | tup l => exact ⟨q.1, b.mono _ _ _ _ _ k q.2⟩
  | _ => exact q.elim
end
/-- does each pass -/
def allL (chk : Store → Prop) (mg : MG) (te : ME) (env : EvS) (Q : WK) : List W → Store → Prop
  | [], S => chk S ∧ Q (.bl true) S
  | w :: r, S => chk S ∧ mg w env S fun e S1 => te e S1 fun y S2 => match y with
    | .bl b => if b = true then allL chk mg te env Q r S2 else Q (.bl false) S2
    | _ => False
def mAll (mi : MI) (mg : MG) (te : ME) (vs : List Nat) : ME := fun env S Q => mi env S fun chk ws S1 => allL chk mg te (wpE env vs) Q ws S1
theorem allL_mono {chk : Store → Prop} {mg : MG} {te : ME} {env : EvS} {Q Q' : WK} (hg : ∀ (w : W) (env : EvS) (S : Store) (Q Q' : EvS → Store → Prop), (∀ e S', Q e S' → Q' e S') → mg w env S Q → mg w env S Q') (he : MonoE te) (k : ∀ w S', Q w S' → Q' w S') :
    ∀ (ws : List W) (S : Store), allL chk mg te env Q ws S → allL chk mg te env Q' ws S
  | [], S, h => ⟨h.1, k _ _ h.2⟩
  | w :: r, S, h => ⟨h.1, hg _ _ _ _ _ (fun e S1 q => he _ _ _ _ (fun y S2 q2 => by
    cases y with
    | bl b =>
      cases b with
      | true => exact iteT (allL_mono hg he k r _ q2)
      | false => exact iteF (k _ _ q2)
    | _ => exact q2.elim) q) h.2⟩
theorem lift_all {K : PySem.W.Frag} {Tb : List Addr} {mi : MI} {wi : TI} {t : TG} {mg : MG} {te : ME} {vs : List Nat} {P : Addr} (hP : P ∈ Tb) (hl : LI K Tb mi wi) (him : ∀ (env : EvS) (S : Store) (R R' : (Store → Prop) → List W → Store → Prop), (∀ c w S', R c w S' → R' c w S') → mi env S R → mi env S R')
    (hw : TW K Tb t mg vs) (he : MonoE te) {σ : L2.St} {H : Hp} {Q : VK} (h : LE K Tb (mAll mi mg te vs) σ H Q) : tAllG P wi t (LE K Tb te) vs σ H Q := by
  obtain ⟨ι, env, S, s, er, h⟩ := h
  refine hl σ H _ ι env S s er (him _ _ _ _ (fun chk ws S1 q ι1 H1 J s1 g1 fd => ?_) h)
  refine ⟨s1.tab P hP, fun H2 hT => ?_⟩
  obtain ⟨s2, g2⟩ := s1.tabbed hP hT
  refine ⟨fun i m H' => m = ws.length - i ∧ i ≤ ws.length ∧ ∃ ι' S', Sim K Tb ι' S' H' ∧ Grow K ι1 H2 ι' H' ∧ allL chk mg te (wpE env vs) (fun w S' => ∀ ι' H' v, Sim K Tb ι' S' H' → Grow K ι H ι' H' → VR K ι' H' w v → Q v H') (ws.drop i) S',
    ⟨ws.length, by simp, Nat.zero_le _, ι1, S1, s2, Grow.refl, by rw [List.drop_zero]; exact q⟩, ?_⟩
  rintro i m H' ⟨rfl, hi', ι', S', s', g', q'⟩
  have gg := (g1.trans g2).trans g'
  by_cases hlt : i < ws.length
  · obtain ⟨w, hw'⟩ : ∃ w, ws[i]? = some w := ⟨_, List.getElem?_eq_getElem hlt⟩
    have ed : ws.drop i = w :: ws.drop (i + 1) := by
      rw [List.drop_eq_getElem_cons hlt]
      rw [List.getElem?_eq_getElem hlt] at hw'
      rw [Option.some.inj hw']
    rw [ed] at q'
    obtain ⟨hgo, hy⟩ := (fd ι' H' S' i (g2.trans g') s' q'.1).1 w hw'
    refine .inr ⟨hgo, fun H3 => ∃ ι3 S3, Sim K Tb ι3 S3 H3 ∧ Grow K ι1 H2 ι3 H3 ∧ allL chk mg te (wpE env vs) (fun w S' => ∀ ι' H' v, Sim K Tb ι' S' H' → Grow K ι H ι' H' → VR K ι' H' w v → Q v H') (ws.drop (i + 1)) S3, fun H3 n3 => ⟨ws.length - (i + 1), by omega, rfl, by omega, n3⟩, fun x H3 y => ?_⟩
    obtain ⟨ι3, s3, g3, r3⟩ := hy x H3 y
    have er3 : ER K ι3 H3 (wpE env vs) (wipe σ vs) := ((er.grow gg).grow g3).wipe vs
    refine hw x _ H3 w _ S' ι3 _ _ s3 er3 r3 q'.2 fun e S4 ι4 H4 σ4 q4 s4 g4 er4 e4 => ⟨?_, ι4, e, S4, s4, er4, he _ _ _ _ (fun y S5 q5 ι5 H5 v5 s5 g5 r5 => ?_) q4⟩
    · rw [e4]
      have ww : ∀ us : List Nat, (∀ u ∈ us, u ∈ vs) → wipe (wipe σ us) vs = wipe σ vs := fun us => by
        induction us with
        | nil => exact fun _ => rfl
        | cons u us ih =>
          intro hm
          show wipe ((wipe σ us).set u none) vs = _
          rw [wipe_set (hm u List.mem_cons_self), ih fun x hx => hm x (List.mem_cons_of_mem _ hx)]
      exact ww vs fun _ h => h
    cases y with
    | bl b =>
      refine ⟨b, r5, ?_⟩
      cases b with
      | true => exact iteT ⟨ι5, S5, s5, ((g'.trans g3).trans g4).trans g5, q5⟩
      | false => exact iteF (q5 ι5 H5 _ s5 (((gg.trans g3).trans g4).trans g5) rfl)
    | _ => exact q5.elim
  · have ei : i = ws.length := by omega
    subst ei
    rw [List.drop_length] at q'
    exact .inl ⟨(fd ι' H' S' ws.length (g2.trans g') s' q'.1).2 (Nat.le_refl _), q'.2 ι' H' _ s' gg rfl⟩
section
variable {X : Cx} {Tb : List Addr} {c P : Addr} {elt tg iter : Expr} {scope : Scope} {own : List (Str × Nat)} {p pos gpos : Pos} {mi : MI} {mg : MG} {te : ME} {k : Nat}
theorem e_all (hr : Room (k + 1) X.A) (hgl : Gl X "all") (hm : X.mg "all" = none) (TB : GxR.TabB X.base X.mg c P) (hP : P ∈ Tb) (hcode : X.env.code = .ref c) (hN : X.N.Nodup) (ok : GOk X.N X.env.scope scope own) (hi : EI X Tb tg iter mi)
    (hg : EGg X Tb scope tg mg (own.map (·.2)))
    (he : ∀ (A : Around) (s : Shared) (H : Hp) (cl : List (Str × Addr)) (C : Addr) (code : Value) (fp : List Addr), Room k A → EE (gX X A s H scope (genEnv scope cl C code builtinsNs X.env) fp) Tb elt te)
    (hs : ∀ v, genFold iter X.env v = pure v := by intro _; rfl)
    (hst : starEach [.GeneratorExp elt [⟨tg, iter, [], 0⟩] scope gpos] X.env = (false, eval (.GeneratorExp elt [⟨tg, iter, [], 0⟩] scope gpos) X.env) :: starEach [] X.env := by rfl) :
    EE X Tb (.Call (.Name "all" p) [.GeneratorExp elt [⟨tg, iter, [], 0⟩] scope gpos] [] pos) (mAll mi mg te (own.map (·.2))) := by
  obtain ⟨wi, hp, hl⟩ := hi.ex
  obtain ⟨t, ht1, hw⟩ := hg.ex
  have hmo : MonoE te := (he _ {} (fun _ => none) [] 0 .none [] (over_room (elt := elt) (tg := tg) (iter := iter) (scope := scope) (pos := pos) (it := .none) (cenv := X.env) hr)).mono
  refine ⟨pe_imp (pe_allG hr hgl hm TB hcode hN ok hp ht1 (fun A s H cl C code fp r => (show PE _ elt (LE X.K Tb te) from (he A s H cl C code fp r).pe)) hs hst) fun σ H Q h => lift_all hP hl hi.mono hw hmo h, fun env S Q Q' k h => ?_⟩
  exact hi.mono _ _ _ _ (fun c ws S1 q => allL_mono hg.mono hmo k _ _ q) h
end
end Ev

set_option Elab.async false
set_option linter.all false
set_option maxRecDepth 100000
set_option maxHeartbeats 4000000
namespace Ow
open PySem PySem.Spec PyProof.Rows L2 LamX
/-! ### a def's run where what stands around is known (repr asks for the guards) -/
/-- the promise sp of the def at f, called where A stands around -/
def RunAt (P : Program) (w : World) (K : PySem.W.Frag) (mg : Str → Option Value) (base : Heap) (A : Around) (f : Addr) (fd : FuncData) (ps : List Str) (sp : Sp) : Prop :=
  ∀ (outer : List Env) (s : Shared) (H : Hp) (args : Args) (us : List Value) (vs : List V) (Q : VK) (E : XK), Env0 P w K mg base A outer s H → BindsTo s fd args (ps.zip us) → Vals vs us → sp vs H Q E →
    codeAny (model P w) A (.call (.ref f) args) (CR CX0 outer P w H s Q E) s
section
variable {P : Program} {w : World} {K : PySem.W.Frag} {mg : Str → Option Value} {base : Heap} {A : Around}
theorem run_at {x qual : Str} {st : Stmt} {f : Addr} {fd : FuncData} {N ps : List Str} {k : Nat} {sp : Sp} (F : Fun K x qual st f fd) (S : FnScope N ps (defScope st)) (len : ∀ vs H Q E, sp vs H Q E → vs.length = ps.length) (hr : Room (k + 1) A)
    (hbody : ∀ (cdv : Value) (outer : List Env) (s : Shared) (H : Hp) (vs : List V) (Q : VK) (E : XK), Room k (A.deeper (envOfC qual (defScope st) s.heap.objs.size f cdv)) → sp vs H Q E →
      ∃ t, PSs (cxOf CX0 P w K mg base N qual (defScope st) f cdv A outer s H E).nox (defBody st) t ∧ t { nx := fun _ H' => Q .non H', rt := Q } (start N vs) H) :
    RunAt P w K mg base A f fd ps sp := by
  intro outer s H args us vs Q E env0 hbind hvals hpre
  obtain ⟨oc, od, kV, doc, pm, an, cdv, ct, osl, rfl, there, hcode⟩ := F.ex
  have below : ∀ b o, base.get? b = some o → s.heap.get? b = some o := fun b o e => (env0.bs b o e).1
  have inK : K.In s.heap := env0.mod.kin.keeps below
  have noLim := env0.mod.nolimit.keeps below
  have params : ∀ y ∈ ps.zip us, (defScope st).names.lookup y.1 = some .local ∨ ((defScope st).names.lookup y.1 = some .cell ∧ ((cellsFrom (s.heap.objs.size + 1) (defScope st).names []).lookup y.1).isSome = true) := by
    rintro ⟨n, v⟩ hy
    rcases S.par n (List.of_mem_zip hy).1 with q | q
    · exact Or.inl q
    · exact Or.inr ⟨q, PySem.W.cellsFrom_some _ _ _ (Or.inl q)⟩
  refine codeAny_call_function hr.depth (inK f _ there) rfl S.co S.gen rfl (PySem.W.codeRec_of inK hcode) (hbind _ _ _ _ ?_)
  refine wpAny_newFunctionEnv_cells S.kind params fun env isEnv s1 entered => ?_
  subst isEnv
  refine ⟨noLim.keeps entered.toInCall.keep, codeAny_func ?_⟩
  obtain ⟨t, body, pre⟩ := hbody cdv outer s H vs Q E (hr.deeper _) hpre
  have I := inv_start (CX := CX0) (E := E) S hr.hd env0 (len _ _ _ _ hpre) hvals entered
  refine wpAny_mono (body.nox.run [] s1 (start N vs) H _ I pre) (fun fl s' hs => ?_) fun e s' hs => hs
  cases fl with
  | ret u =>
    obtain ⟨v, σ', H', J, rv, q⟩ := hs
    exact (⟨v, H', J.os, J.bare, J.base, J.hok, rv, q⟩ : CE outer P w H s Q u s')
  | next =>
    obtain ⟨σ', H', J, q⟩ := hs
    exact (⟨.non, H', J.os, J.bare, J.base, J.hok, rfl, q⟩ : CE outer P w H s Q .none s')
  | brk =>
    obtain ⟨_, _, _, q⟩ := hs
    exact q.elim
  | cont =>
    obtain ⟨_, _, _, q⟩ := hs
    exact q.elim
end
/-! ### the law's own call, tables told -/
theorem law_at {P : Program} {w : World} {K : PySem.W.Frag} {mg mb : Str → Option Value} {fa a : Addr} {cs : List (Addr × Addr)} {fd : FuncData} {x : Str} {sp : Sp} {s₁ : Shared} {vs : List Value} {ns : List Int}
    (inK : K.In s₁.heap) (gl : s₁.heap.Ns mainGlobals mg) (bl : s₁.heap.Ns builtinsNs mb) (blt : ∀ x : Str, x ≠ "__name__" → mb x = bootBuiltins x) (lim : s₁.heap.NoLimit) (gens : s₁.gens = #[])
    (tabs : ∀ p ∈ cs, s₁.heap.get? p.2 = some { cls := .none, data := .fields #[] }) (outK : ∀ p ∈ cs, K.lookup p.2 = none) (heads : ∀ p ∈ cs, PySem.W.CodeHd s₁.heap p.1 p.2)
    (bmod : ∃ (bm : Addr) (ob : Obj), mg "__builtins__" = some (.ref bm) ∧ bm ≠ builtinsNs ∧ s₁.heap.get? bm = some ob ∧ ob.cls = .type "module" ∧ ob.dict = some builtinsNs ∧ ob.data = .plain)
    (scr : s₁.heap.get? a = some { cls := .type "list", data := .seq vs.toArray }) (rints : IntsAre vs ns) (few : ns.length ≤ sizeLine)
    (F : ∀ base : Heap, K.In base → base.Ns mainGlobals mg → (∀ p ∈ cs, TabB base mg p.1 p.2) → RunAt P w K mg base callerA fa fd [x] sp) (hbind : ∀ (s : Shared) (u : Value), BindsTo s fd ⟨[u], []⟩ [(x, u)])
    (hsp : ∀ H : Hp, (∀ p ∈ cs, H p.2 = some (.tbl #[])) → SqL K H a (ns.map V.int) → sp [.ref a] H (fun v _ => v = .bl true) fun _ _ _ => False) :
    codeAny (model P w) callerA (.call (.ref fa) ⟨[.ref a], []⟩) (fun r s' => r = .ok (.ret (.bool true)) ∧ OldK s₁.heap s'.heap ∧ s'.os = s₁.os ∧ AllBare s'.gens) s₁ := by
  have rv := vals_ints rints
  -- what is tracked: the script, where it isn't written, and the tables
  let H : Hp := fun b => if (cs.map (·.2)).contains b = true then some (.tbl #[]) else if b = a ∧ K.lookup a = none then some (.frz { cls := .type "list", data := .seq vs.toArray } (.lst (ns.map V.int))) else none
  have ofT : ∀ b, (cs.map (·.2)).contains b = true → s₁.heap.get? b = some { cls := .none, data := .fields #[] } ∧ K.lookup b = none := fun b hb => by
    obtain ⟨p, hp, e⟩ := List.mem_map.mp (List.contains_iff_mem.mp hb)
    rw [← e]
    exact ⟨tabs p hp, outK p hp⟩
  have inT : ∀ p ∈ cs, (cs.map (·.2)).contains p.2 = true := fun p hp => List.contains_iff_mem.mpr (List.mem_map.mpr ⟨p, hp, rfl⟩)
  have hT : ∀ b, (cs.map (·.2)).contains b = true → H b = some (.tbl #[]) := fun b hb => if_pos hb
  have hN : ∀ b, (cs.map (·.2)).contains b ≠ true → b ≠ a → H b = none := fun b h1 h2 => (if_neg h1).trans (if_neg fun z => h2 z.1)
  have aT : (cs.map (·.2)).contains a ≠ true := fun z => by
    have q := (ofT a z).1
    rw [scr] at q
    cases q
  have hA : K.lookup a = none → H a = some (.frz { cls := .type "list", data := .seq vs.toArray } (.lst (ns.map V.int))) := fun z => (if_neg aT).trans (if_pos ⟨rfl, z⟩)
  have hA' : ∀ o, K.lookup a = some o → H a = none := fun o z => (if_neg aT).trans (if_neg fun y => by
    rw [y.2] at z
    cases z)
  -- an object of another kind isn't tracked
  have free : ∀ {b : Addr} {o : Obj}, s₁.heap.get? b = some o → (∀ us n, o.data ≠ .seq us n) → o.data ≠ .fields #[] → H b = none := fun {b o} e n1 n2 => by
    by_cases h1 : (cs.map (·.2)).contains b = true
    · rw [(ofT b h1).1] at e
      cases e
      exact absurd rfl n2
    · by_cases h2 : b = a
      · subst h2
        rw [scr] at e
        cases e
        exact absurd rfl (n1 _ _)
      · exact hN b h1 h2
  have seen : ∀ {b : Addr} {o : Obj}, s₁.heap.get? b = some o → H b = none → (hidT s₁.heap H).get? b = some o := fun e n => hidT_get e n
  have dict : ∀ {b : Addr} {m : Str → Option Value}, s₁.heap.Ns b m → (hidT s₁.heap H).Ns b m := fun {b m} ⟨o, es, ep, e, d, r⟩ => by
    refine ⟨o, es, ep, seen e (free e (fun us n z => ?_) fun z => ?_), d, r⟩
    · rw [d] at z
      cases z
    · rw [d] at z
      cases z
  have inB : K.In (hidT s₁.heap H) := fun b o e => by
    refine seen (inK b o e) ?_
    by_cases h1 : (cs.map (·.2)).contains b = true
    · rw [(ofT b h1).2] at e
      cases e
    · by_cases h2 : b = a
      · subst h2
        exact hA' o e
      · exact hN b h1 h2
  have noLim : (hidT s₁.heap H).NoLimit := by
    obtain ⟨mc, n1, n2⟩ := lim
    exact ⟨mc, dict n1, n2⟩
  have TB : ∀ p ∈ cs, TabB (hidT s₁.heap H) mg p.1 p.2 := fun p hp => by
    have tp := tabs p hp
    refine ⟨?_, ?_, fun z => ?_⟩
    · obtain ⟨o, us, file, tf, flags, tg, inF, text, tt, e1, c1, c2, r⟩ := heads p hp
      refine ⟨o, us, file, tf, flags, tg, inF, text, tt, seen e1 (free e1 (fun vs n z => ?_) fun z => ?_), c1, c2, r⟩
      · rw [c2] at z
        cases z
      · rw [c2] at z
        cases z
        obtain ⟨r1, _⟩ := r
        simp at r1
    · obtain ⟨bm, ob, m1, m2, m3, m4, m5, m6⟩ := bmod
      have f1 : bm ≠ mainGlobals := fun q => by
        obtain ⟨o, es, ep, e, d, _⟩ := gl
        rw [q, e] at m3
        cases m3
        rw [d] at m6
        cases m6
      have f2 : bm ≠ p.2 := fun q => by
        rw [q, tp] at m3
        cases m3
        cases m6
      refine ⟨bm, ob, m1, m2, f1, f2, seen m3 (free m3 (fun us n z => ?_) fun z => ?_), m4, m5, m6⟩
      · rw [m6] at z
        cases z
      · rw [m6] at z
        cases z
    · obtain ⟨o, es, ep, e, d, _⟩ := gl
      rw [z, tp] at e
      cases e
      cases d
  have lenN : ns.length = vs.length := rints.length.symm
  have hok : HOk P w H s₁.heap := fun b u e => by
    by_cases h1 : (cs.map (·.2)).contains b = true
    · rw [hT b h1] at e
      cases e
      exact (ofT b h1).1
    · by_cases h2 : b = a
      · subst h2
        cases z : K.lookup b with
        | none =>
          rw [hA z] at e
          cases e
          exact ⟨scr, by rw [List.length_map]; exact few, vs, _, rv, scr⟩
        | some o =>
          rw [hA' o z] at e
          cases e
      · rw [hN b h1 h2] at e
        cases e
  have e0 : Env0 P w K mg (hidT s₁.heap H) callerA [] s₁ H :=
    ⟨rfl, ⟨inB, dict gl, ⟨mb, dict bl, blt⟩, noLim⟩, fun b o e => of_hidT e, Nat.le_of_eq (hidT_size _ _), trivial, fun b hb => (nomatch hb), hok, .of_eq gens⟩
  have hSq : SqL K H a (ns.map V.int) := by
    cases z : K.lookup a with
    | none => exact .inl (.inr ⟨_, hA z⟩)
    | some o =>
      have e := inK a o z
      rw [scr] at e
      cases e
      exact .inr ⟨_, vs.toArray, _, z, rfl, rfl, rfl, by rw [List.size_toArray, ← lenN]; exact few, by simpa using rv⟩
  refine codeAny_mono (F _ inB (dict gl) TB [] s₁ H ⟨[.ref a], []⟩ [.ref a] [.ref a] _ _ e0 (hbind s₁ (.ref a)) (.cons rfl .nil) (hsp H (fun p hp => hT _ (inT p hp)) hSq)) fun r s' h => ?_
  cases r with
  | error e => exact h.elim
  | ok fl =>
    cases fl with
    | next => exact h.elim
    | brk => exact h.elim
    | cont => exact h.elim
    | ret u =>
      obtain ⟨v, H', os, bare, un, hok', r', q⟩ := h
      obtain rfl : v = V.bl true := q
      obtain rfl : u = Value.bool true := r'
      have same : ∀ b o, (cs.map (·.2)).contains b ≠ true → s₁.heap.get? b = some o → s'.heap.get? b = some o := fun b o nb e => by
        by_cases h2 : b = a
        · subst h2
          cases z : K.lookup b with
          | none =>
            have z2 := un.frzs b _ _ (hA z)
            obtain ⟨e2, _⟩ := hok' b _ z2
            rw [scr] at e
            cases e
            exact e2
          | some o' => exact un.keep b o e (hA' o' z) (fun z => (nomatch z)) (by simp)
        · exact un.keep b o e (hN b nb h2) (fun z => nomatch z) (by simp)
      have grown : ∀ p ∈ cs, ∃ more : Array Value, s'.heap.get? p.2 = some { cls := .none, data := .fields more } := fun p hp => by
        obtain ⟨more, z⟩ := un.tbls p.2 #[] (hT _ (inT p hp))
        exact ⟨_, hok' p.2 _ z⟩
      refine ⟨rfl, ⟨fun b o e => ?_, fun b o e => ?_⟩, os, bare⟩
      · by_cases hb : (cs.map (·.2)).contains b = true
        · obtain ⟨p, hp, ep⟩ := List.mem_map.mp (List.contains_iff_mem.mp hb)
          obtain ⟨more, hm⟩ := grown p hp
          subst ep
          rw [tabs p hp] at e
          cases e
          exact .inr (.inl ⟨((heads p hp).tab (tabs p hp)).isCodeTable, rfl, #[], more, rfl, by rw [Array.empty_append]; exact hm⟩)
        · exact .inl (same b o hb e)
      · by_cases hb : (cs.map (·.2)).contains b = true
        · obtain ⟨p, hp, ep⟩ := List.mem_map.mp (List.contains_iff_mem.mp hb)
          obtain ⟨more, hm⟩ := grown p hp
          subst ep
          exact ⟨_, hm⟩
        · exact ⟨o, same b o hb e⟩
end Ow
namespace Ow
open PySem PySem.Spec PyProof.Rows L2 LamX
/-- repr of data, where nothing is being shown -/
theorem call_repr {X : Cx} (hg : X.A.guards = some []) : CallR X (.builtin "repr") (fun xs H Q => ∃ a d, xs = [.ref a] ∧ Dp X.K H (.ref a) d ∧ d.showable = true ∧ d.hasDict = false ∧ X.A.units + (d.depth + 1) < cLine ∧ d.shown.length ≤ sizeLine ∧ Q (.str d.shown) H) := by
  intro pins s σ H xs us Q I r h
  obtain ⟨a, d, rfl, hd, hs, hn, hu, hz, q⟩ := h
  obtain ⟨u, rfl, rx⟩ := vals1 r
  obtain ⟨as, rd⟩ := Dp.reads I d _ _ hd rx
  obtain rfl : u = Value.ref a := rx
  refine repr_of_reads' rd hs (fun z => absurd (hn.symm.trans z) (by decide)) hg hu (fun _ _ e => e) (fun h' u tk hk => ?_) hz
  exact ⟨.str d.shown, H, I.kept hk, ⟨_, rfl⟩, q⟩
/-- what is known of the law at the head's heap h -/
def LawG (P : Program) (w : World) (K : PySem.W.Frag) (n : Nat) (x : Str) (mg : Str → Option Value) (fa : Addr) (h : Heap) : Prop :=
  ∃ (fd : FuncData) (cs : List (Addr × Addr)) (sp : Sp), (∀ p ∈ cs, h.get? p.2 = some { cls := .none, data := .fields #[] }) ∧ (∀ p ∈ cs, K.lookup p.2 = none) ∧ (∀ p ∈ cs, PySem.W.CodeHd h p.1 p.2) ∧ (∀ (s : Shared) (u : Value), BindsTo s fd ⟨[u], []⟩ [(x, u)]) ∧
    (∀ (H : Hp) (a : Addr) (ns : List Int), ns.length ≤ n → (∀ p ∈ cs, H p.2 = some (.tbl #[])) → SqL K H a (ns.map V.int) → sp [.ref a] H (fun v _ => v = .bl true) fun _ _ _ => False) ∧
    ∀ base : Heap, K.In base → base.Ns mainGlobals mg → (∀ p ∈ cs, TabB base mg p.1 p.2) → RunAt P w K mg base callerA fa fd [x] sp
theorem walk_at {l : PySem.W.OpenLaw} {n : Nat} {q : Program} {loose : List Str} {XP : (Str → Option Value) → Heap → Prop} {YP : World → Heap → Prop} {d : DefRec} {K : Params → PySem.W.Frag} {x : Str}
    (hn : l.most = some n) (hn2 : n ≤ sizeLine) (hdf : d.params.defaults = []) (hY : ∀ (w : World) (h : Heap), YP w h → (K w.params).In h)
    (F : ∀ (w : World) (mg : Str → Option Value) (fa : Addr) (h : Heap), (K w.params).In h → h.Ns mainGlobals mg → mg d.name = some (.ref fa) →
      (∀ (d' : DefRec) (x : Str) (c P : Addr), (recsOf q).find? (fun e => e.name == x) = some d' → PySem.W.tabIn (K w.params) x = some (c, P) → PySem.W.CodeHd h c P ∧ h.get? P = some { cls := .none, data := .fields #[] }) → LawG l.prog w (K w.params) n x mg fa h) :
    PySem.W.WalkO q loose XP YP l.row.toRowW d [] (fun f vs => PySem.call f vs) := by
  refine Att.attach_callB hn hdf fun w s₀ s₁ mg mb fa o pm cd doc a vs ns G Y ho hd hcd hmg hobj hints hlen hbits hg => ?_
  have KX := hY w _ Y
  obtain ⟨fd, cs, sp, hT, nT, C, hb, hsp, hF⟩ := F w mg fa _ KX G.T.g hmg (fun d' x c P hr ht => PySem.W.tab_of G.T KX hr ht)
  exact law_at KX G.T.g G.T.b G.T.builtins G.T.nolimit hg hT nT C G.T.bmain hobj hints (Nat.le_trans hlen hn2) hF hb fun H hH hS => hsp H a ns hlen hH hS
end Ow

set_option Elab.async false
set_option linter.all false
set_option maxRecDepth 100000
set_option maxHeartbeats 4000000
/-! A def by its body, over the store. -/
namespace Ev
open PySem PySem.Spec PyProof.Rows L2 Ow
def stE (n : Nat) (ws : List W) : EvS := ws.map some ++ List.replicate (n - ws.length) none
theorem er_start {K : PySem.W.Frag} {ι : List Addr} {H : Hp} {N : List Str} {ws : List W} {vs : List V} (r : VRs K ι H ws vs) : ER K ι H (stE N.length ws) (start N vs) := by
  refine ⟨by simp [stE, L2.start, r.len], fun i w e => ?_⟩
  unfold stE at e
  by_cases hi : i < ws.length
  · rw [List.getElem?_append_left (by rw [List.length_map]; exact hi), List.getElem?_map] at e
    cases ew : ws[i]? with
    | none => rw [ew] at e; cases e
    | some w' =>
      rw [ew] at e
      cases e
      obtain ⟨v, h1, h2⟩ := r.at ew
      refine ⟨v, ?_, h2⟩
      unfold L2.start
      rw [List.getElem?_append_left (by rw [List.length_map, r.len]; exact hi), List.getElem?_map, h1]
      rfl
  · rw [List.getElem?_append_right (by rw [List.length_map]; omega), List.length_map, List.getElem?_replicate] at e
    split at e <;> cases e
section
variable {P : Program} {w : World} {K : PySem.W.Frag} {mg : Str → Option Value} {base : Heap} {Tb : List Addr} {x qual : Str} {st : Stmt} {f : Addr} {fd : FuncData} {N ps : List Str} {k : Nat} {C : Con} {m : MS}
theorem sp_body {X : Cx} {st' : List Stmt} {a : C.α} {ι : List Addr} {ws : List W} {S : Store} {H : Hp} {vs : List V} {Q : VK} (hm : ESs X Tb st' m) (hN : X.N = N) (s : Sim X.K Tb ι S H) (r : VRs X.K ι H ws vs) (hp : C.pre a ws S)
    (q : ∀ w S', C.post a S w S' → ∀ ι' H' v, Sim X.K Tb ι' S' H' → Grow X.K ι H ι' H' → VR X.K ι' H' w v → Q v H')
    (vc : ∀ a ws S, C.pre a ws S → m { nx := fun _ S' => C.post a S .non S', rt := fun w S' => C.post a S w S' } (stE N.length ws) S) :
    LS X.K Tb m { nx := fun _ H' => Q .non H', rt := Q } (start N vs) H :=
  ⟨ι, stE N.length ws, S, s, er_start r, hm.mono { nx := fun _ S' => C.post a S .non S', rt := fun w S' => C.post a S w S' } _ _ _ ⟨fun e S' po ι' H' σ' s' g' _ => q .non S' po ι' H' .non s' g' rfl, fun w S' po ι' H' v s' g' r' => q w S' po ι' H' v s' g' r', fun _ _ h => h.elim, fun _ _ h => h.elim⟩ (vc a ws S hp)⟩
theorem dn_of (F : Fun K x qual st f fd) (g : mg x = some (.ref f)) (b : Binds K fd ps []) (Sc : FnScope N ps (defScope st)) (len : ∀ a ws S, C.pre a ws S → ws.length = ps.length)
    (hm : ∀ (cdv : Value) (A : Around) (outer : List Env) (s : Shared) (H : Hp) (E : XK), Room k (A.deeper (envOfC qual (defScope st) s.heap.objs.size f cdv)) → ESs (cxOf CX0 P w K mg base N qual (defScope st) f cdv A outer s H E).nox Tb (defBody st) m)
    (vc : ∀ a ws S, C.pre a ws S → m { nx := fun _ S' => C.post a S .non S', rt := fun w S' => C.post a S w S' } (stE N.length ws) S) : Dn P w K mg base Tb x ps (k + 1) C := by
  refine ⟨f, fd, F.ok Sc (fun vs H Q E h => ?_) (fun cdv A outer s H vs Q E hr h => ?_), g, F.kp, b⟩
  · obtain ⟨ι, ws, S, a, s, r, hp, _⟩ := h
    rw [r.len, len a ws S hp]
  · obtain ⟨ι, ws, S, a, si, r, hp, q⟩ := h
    have hm' := hm cdv A outer s H E hr
    exact ⟨_, hm'.ps, sp_body (X := (cxOf CX0 P w K mg base N qual (defScope st) f cdv A outer s H E).nox) hm' rfl si r hp q vc⟩
/-- .. whose code is at c -/
theorem dn_ofC {c : Addr} {oc : Value} {od an : Option Addr} {osl : Array (Option Value)} {kV doc pm ct : Value}
    (lk : K.lookup f = some ⟨oc, od, .func (PySem.W.fnOf x qual (defArgs st) (defBody st) (defScope st) .none kV doc pm an (.ref c) ct), osl⟩) (hcd : PySem.W.codeIn K (.ref c) qual = true) (kp : PySem.W.keepIn K (.ref f) = true)
    (g : mg x = some (.ref f)) (b : Binds K (PySem.W.fnOf x qual (defArgs st) (defBody st) (defScope st) .none kV doc pm an (.ref c) ct) ps []) (Sc : FnScope N ps (defScope st)) (len : ∀ a ws S, C.pre a ws S → ws.length = ps.length)
    (hm : ∀ (A : Around) (outer : List Env) (s : Shared) (H : Hp) (E : XK), Room k (A.deeper (envOfC qual (defScope st) s.heap.objs.size f (.ref c))) → ESs (cxOf CX0 P w K mg base N qual (defScope st) f (.ref c) A outer s H E).nox Tb (defBody st) m)
    (vc : ∀ a ws S, C.pre a ws S → m { nx := fun _ S' => C.post a S .non S', rt := fun w S' => C.post a S w S' } (stE N.length ws) S) : Dn P w K mg base Tb x ps (k + 1) C := by
  refine ⟨f, _, fn_code lk hcd Sc (fun vs H Q E h => ?_) (fun A outer s H vs Q E hr h => ?_), g, kp, b⟩
  · obtain ⟨ι, ws, S, a, s, r, hp, _⟩ := h
    rw [r.len, len a ws S hp]
  · obtain ⟨ι, ws, S, a, si, r, hp, q⟩ := h
    have hm' := hm A outer s H E hr
    exact ⟨_, hm'.ps, sp_body (X := (cxOf CX0 P w K mg base N qual (defScope st) f (.ref c) A outer s H E).nox) hm' rfl si r hp q vc⟩
theorem Dn.mono {j k : Nat} (D : Dn P w K mg base Tb x ps j C) (h : j ≤ k) : Dn P w K mg base Tb x ps k C := by
  obtain ⟨f, fd, F, r⟩ := D.ex
  exact ⟨f, fd, F.mono h, r⟩
/-- another contract of the same def -/
theorem Dn.imp {D : Con} (d : Dn P w K mg base Tb x ps k C) (h : ∀ a ws S, D.pre a ws S → ∃ b, C.pre b ws S ∧ ∀ w S', C.post b S w S' → D.post a S w S') : Dn P w K mg base Tb x ps k D := by
  obtain ⟨f, fd, F, r⟩ := d.ex
  refine ⟨f, fd, F.imp fun vs H Q E z => ?_, r⟩
  obtain ⟨ι, ws, S, a, s, rv, hp, q⟩ := z
  obtain ⟨b, hb, hq⟩ := h a ws S hp
  exact ⟨ι, ws, S, b, s, rv, hb, fun w S' po => q w S' (hq w S' po)⟩
end
/-- a def that tells f of what it's given, of things in the store at most new ones -/
def fnC (dom : List W → Store → Prop) (f : List W → Store → W) : Con := ⟨Unit, fun _ ws S => dom ws S, fun _ _ _ _ => True⟩
/-- told a value that is reckoned from the values alone -/
structure PA where
  ws : List W
  r : W
def pureC (R : List W → W → Prop) : Con := ⟨PA, fun a ws _ => ws = a.ws ∧ R a.ws a.r, fun a S w S' => w = a.r ∧ ∃ more, S' = S ++ more⟩
end Ev

set_option Elab.async false
set_option linter.all false
set_option maxRecDepth 100000
set_option maxHeartbeats 4000000
/-! Sets of texts: set(a list of texts), len, sorted. -/
namespace OwS
open PySem PySem.Spec PyProof.Rows L2
def txOf (e : Int × Value) : Str := match e.2 with
  | .str x _ => x
  | _ => Str.empty
/-- at a stands the set of texts with the members S, n of them; it can be walked -/
def TxR (P : Program) (w : World) (h : Heap) (a : Addr) (S : Str → Bool) (n : Nat) : Prop :=
  ∃ o es ep t, h.get? a = some o ∧ o.ExactSet ∧ o.data = .set es ep t ∧ ElemsOf (PySem.strKind P w) es.toList ∧ (es.toList.map txOf).Nodup ∧
    (∀ k, S k = true ↔ k ∈ es.toList.map txOf) ∧ es.size < scanBound ∧ t.fits es.size = true ∧ es.size = n ∧ Ris t.place.toList ∧ (w.params.followText "set-order" = true ∨ t.led = true)
section
variable {P : Program} {w : World} {h h' : Heap} {a : Addr} {S : Str → Bool} {n : Nat}
theorem TxR.keep (R : TxR P w h a S n) (k : ∀ o, h.get? a = some o → h'.get? a = some o) : TxR P w h' a S n := by
  obtain ⟨o, es, ep, t, ho, r⟩ := R
  exact ⟨o, es, ep, t, k o ho, r⟩
theorem TxR.lt (R : TxR P w h a S n) : a < h.objs.size := by
  obtain ⟨o, es, ep, t, ho, r⟩ := R
  exact Heap.lt_size ho
theorem tx_is {l : List (Int × Value)} (g : ElemsOf (PySem.strKind P w) l) {e : Int × Value} (he : e ∈ l) (k : Str) : (PySem.strKind P w).is k e.2 = true ↔ txOf e = k := by
  obtain ⟨⟨k', h1, _⟩, _⟩ := g e he
  obtain ⟨t, h2⟩ := PySem.Value.isStrOf_shape (show PySem.Value.isStrOf k' e.2 = true from h1)
  unfold txOf
  rw [h2]
  constructor
  · intro z
    exact PySem.Value.isStrOf_inj (.str k' t) k' k (by rw [← h2]; exact h1) z
  · intro z
    subst z
    exact strKind_is P w _ t
theorem tx_mem {l : List (Int × Value)} (g : ElemsOf (PySem.strKind P w) l) (k : Str) : k ∈ l.map txOf ↔ ∃ e ∈ l, (PySem.strKind P w).is k e.2 = true := by
  rw [List.mem_map]
  constructor
  · rintro ⟨e, he, q⟩
    exact ⟨e, he, (tx_is g he k).mpr q⟩
  · rintro ⟨e, he, q⟩
    exact ⟨e, he, (tx_is g he k).mp q⟩
theorem TxR.setOf (R : TxR P w h a S n) : h.SetOf (PySem.strKind P w) a S n := by
  obtain ⟨o, es, ep, t, ho, ex, hd, g, nd, hm, hb, hf, hn, _⟩ := R
  exact ⟨o, es, ep, t, ho, ex, hd, g, fun k => (hm k).trans (tx_mem g k), hb, hf, hn⟩
theorem elems_perm {l m : List (Int × Value)} (p : l.Perm m) (g : ElemsOf (PySem.strKind P w) m) : ElemsOf (PySem.strKind P w) l := fun e he => g e (p.mem_iff.mp he)
end
section
variable {P : Program} {w : World} {A : Around} {E : Value → Shared → Prop} {s : Shared} {a : Addr} {S : Str → Bool} {n : Nat}
/-- what is to be stored: the new entries es1 in the table t2 -/
structure New (P : Program) (w : World) (es1 : Array (Int × Value)) (t2 : SetTable) (S' : Str → Bool) : Prop where
  el : ElemsOf (PySem.strKind P w) es1.toList
  nd : (es1.toList.map txOf).Nodup
  mem : ∀ k, S' k = true ↔ k ∈ es1.toList.map txOf
  few : es1.size < scanBound
  fit : t2.fits es1.size = true
  ris : Ris t2.place.toList
  led : w.params.followText "set-order" = true ∨ t2.led = true
theorem New.at {h : Heap} {o : Obj} {es1 : Array (Int × Value)} {ep : Nat} {t2 : SetTable} {S' : Str → Bool} (N : New P w es1 t2 S') (ho : h.get? a = some o) (ex : o.ExactSet) (hd : o.data = .set es1 ep t2) : TxR P w h a S' es1.size :=
  ⟨o, es1, ep, t2, ho, ex, hd, N.el, N.nd, N.mem, N.few, N.fit, rfl, N.ris, N.led⟩
theorem New.relaid {es1 : Array (Int × Value)} {t2 : SetTable} {S' : Str → Bool} (N : New P w es1 t2 S') (k : Nat) :
    New P w (relayAll t2 es1 k).1 (relayAll t2 es1 k).2.1 S' ∧ (relayAll t2 es1 k).1.size = es1.size := by
  have pm := relayAll_perm t2 es1 k
  have sz : (relayAll t2 es1 k).1.size = es1.size := by
    rw [← Array.length_toList]
    exact pm.length_eq.trans Array.length_toList
  refine ⟨⟨elems_perm pm N.el, (pm.map txOf).nodup_iff.mpr N.nd, fun q => (N.mem q).trans (pm.map txOf).mem_iff.symm, ?_, relayAll_fits t2 es1 k, relayAll_ris t2 es1 k, ?_⟩, sz⟩
  · rw [sz]
    exact N.few
  · rw [relayAll_led]
    exact N.led
theorem New.laid {es : Array (Int × Value)} {t : SetTable} {k : Str} {tk : Tok} (g : ElemsOf (PySem.strKind P w) es.toList) (nd : (es.toList.map txOf).Nodup) (hm : ∀ q, S q = true ↔ q ∈ es.toList.map txOf) (room : es.size + 1 < scanBound)
    (hf : t.fits es.size = true) (hr : Ris t.place.toList) (hl : w.params.followText "set-order" = true ∨ t.led = true) (hk : k ∉ es.toList.map txOf) {hs : Int} (ehs : hs = (PySem.strKind P w).hash k) :
    New P w (layNew t es hs (.str k tk)).1 (layNew t es hs (.str k tk)).2.1 (fun j => S j || decide (j = k)) ∧ (layNew t es hs (.str k tk)).1.size = es.size + 1 := by
  have pm : (layNew t es hs (.str k tk)).1.toList.Perm ((hs, Value.str k tk) :: es.toList) := by
    have q := layNew_perm t es hs (.str k tk)
    rw [Array.toList_push] at q
    exact q.trans (List.perm_append_singleton _ _)
  have pk : ((layNew t es hs (.str k tk)).1.toList.map txOf).Perm (k :: es.toList.map txOf) := pm.map txOf
  have sz : (layNew t es hs (.str k tk)).1.size = es.size + 1 := by
    rw [← Array.length_toList, pm.length_eq, List.length_cons, Array.length_toList]
  refine ⟨⟨elems_perm pm fun e he => ?_, pk.nodup_iff.mpr (List.nodup_cons.mpr ⟨hk, nd⟩), fun q => ?_, by rw [sz]; exact room, layNew_fits t es hs (.str k tk), layNew_ris t es hs (.str k tk) hr, ?_⟩, sz⟩
  · rcases List.mem_cons.mp he with z | z
    · rw [z]
      exact ⟨⟨k, strKind_is P w k tk, ehs⟩, rfl⟩
    · exact g e z
  · rw [pk.mem_iff, List.mem_cons, ← hm q, Bool.or_eq_true, decide_eq_true_eq]
    exact Or.comm
  · rw [layNew_led]
    exact hl
end
end OwS
namespace OwS
open PySem PySem.Spec PyProof.Rows L2
section
variable {P : Program} {w : World} {A : Around} {E : Value → Shared → Prop} {s : Shared} {a : Addr} {S : Str → Bool} {n : Nat}
theorem tx_store {g : Bool → Sem Unit} (quiet : ∀ (b : Bool) (s1 : Shared) (Q' : Unit → Shared → Prop), Q' () s1 → wpAny (model P w) A (g b) Q' E s1)
    {o : Obj} {es : Array (Int × Value)} {ep : Nat} {t : SetTable} (ho : s.heap.get? a = some o) (ex : o.ExactSet) (hd : o.data = .set es ep t)
    {es1 : Array (Int × Value)} {t2 : SetTable} {S' : Str → Bool} (N : New P w es1 t2 S') {old : Bool} {R : Option Bool → Shared → Prop}
    (fin : ∀ h', Heap.SameBut a s.heap h' → TxR P w h' a S' es1.size → R (some true) { s with heap := h' }) :
    wpAny (model P w) A (do
        storeSet a es1 t2
        if (!old && t2.tooFull) = true then do
            g (relayAll t2 es1 (SetTable.grown es1.size)).2.2
            storeSet a (relayAll t2 es1 (SetTable.grown es1.size)).1 (relayAll t2 es1 (SetTable.grown es1.size)).2.1
            pure (some true)
          else pure (some true)) R E s := by
  refine wpAny_bind (wpAny_storeSet_of ho hd ?_ (fits_of_scanBound N.few))
  have there := store_at (es' := es1) (t' := t2) ho hd
  have but := Heap.SameBut.update s.heap a (Obj.putSet es1 t2)
  by_cases full : (!old && t2.tooFull) = true
  · rw [if_pos full]
    obtain ⟨N3, sz⟩ := N.relaid (SetTable.grown es1.size)
    refine wpAny_bind (quiet _ _ _ ?_)
    refine wpAny_bind (wpAny_storeSet_of there rfl ?_ (fits_of_scanBound N3.few))
    have there2 := store_at (es' := (relayAll t2 es1 (SetTable.grown es1.size)).1) (t' := (relayAll t2 es1 (SetTable.grown es1.size)).2.1) there rfl
    refine wpAny_pure (fin _ (but.trans (Heap.SameBut.update _ a _)) ?_)
    have q := N3.at (a := a) there2 ex rfl
    rw [sz] at q
    exact q
  · rw [if_neg full]
    exact wpAny_pure (fin _ but (N.at (a := a) there ex rfl))
theorem tx_add {k : Str} {tk : Tok} {Q : Bool → Shared → Prop} (R : TxR P w s.heap a S n) (room : n + 1 < scanBound)
    (hQ : ∀ h', Heap.SameBut a s.heap h' → TxR P w h' a (fun j => S j || decide (j = k)) (if S k = true then n else n + 1) → Q (!S k) { s with heap := h' }) :
    wpAny (model P w) A (setAddHashed a (.str k tk) ((PySem.strKind P w).hash k)) Q E s := by
  obtain ⟨o, es, ep, t, ho, ex, hd, g, nd, hm, hb, hf, hn, hr, hl⟩ := R
  have key := strKind_is P w k tk
  have flat : (Value.str k tk).scannable = true := rfl
  unfold setAddHashed setAddHashedIn
  refine wpAny_holding ?_
  refine wpAny_bind (wpAny_setState_of ho hd hf ?_)
  dsimp only
  rw [byScan_of flat hb g]
  simp only [↓reduceIte]
  unfold setAddByScan
  refine wpAny_bind ?_
  refine wpAny_bind ?_
  refine wpAny_rule ?_
  refine wpAny_bind ?_
  refine wpAny_setScan_of key ho hd hf g ?_
  cases found : List.findIdx? (fun e => (PySem.strKind P w).is k e.2) es.toList with
  | some j =>
    dsimp only
    obtain ⟨hj, pj, _⟩ := List.findIdx?_eq_some_iff_getElem.mp found
    have has : S k = true := (hm k).mpr ((tx_mem g k).mpr ⟨es.toList[j], List.getElem_mem hj, pj⟩)
    refine wpAny_pure (wpAny_pure ?_)
    have q := hQ s.heap (Heap.SameBut.refl a s.heap) ⟨o, es, ep, t, ho, ex, hd, g, nd, fun i => by
      rw [Bool.or_eq_true, decide_eq_true_eq, ← hm i]
      exact ⟨fun z => z.elim id fun e => by rw [e]; exact has, Or.inl⟩, hb, hf, by rw [if_pos has]; exact hn, hr, hl⟩
    rw [has] at q
    exact q
  | none =>
    dsimp only
    have notIn : k ∉ es.toList.map txOf := fun z => by
      obtain ⟨e, he, q⟩ := (tx_mem g k).mp z
      have c := List.findIdx?_eq_none_iff.mp found e he
      rw [q] at c
      cases c
    have hasN : S k = false := by
      cases q : S k with
      | false => rfl
      | true => exact absurd ((hm k).mp q) notIn
    have way : ∀ (b : Bool) {s1 : Shared} {Q' : Unit → Shared → Prop}, Q' () s1 → wpAny (model P w) A (match b with | true => rule "set.scan.the-table-gave-way" | false => pure ()) Q' E s1 := by
      intro b s1 Q' q
      cases b
      · exact wpAny_pure q
      · exact wpAny_rule q
    obtain ⟨N, sz⟩ := New.laid (S := S) (tk := tk) g nd hm (by rw [hn]; exact room) hf hr hl notIn (hs := (PySem.strKind P w).hash k) rfl
    have fin : ∀ h', Heap.SameBut a s.heap h' → TxR P w h' a (fun j => S j || decide (j = k)) (es.size + 1) → Q true { s with heap := h' } := fun h' sb r => by
      have q := hQ h' sb
      rw [hasN] at q
      rw [hn] at r
      exact q r
    rw [← sz] at fin
    generalize layNew t es ((PySem.strKind P w).hash k) (.str k tk) = Z at N fin ⊢
    obtain ⟨es1, t1, old, gave⟩ := Z
    dsimp only at N fin ⊢
    refine wpAny_bind (way _ ?_)
    have quiet : ∀ (b : Bool) (s1 : Shared) (Q' : Unit → Shared → Prop), Q' () s1 → wpAny (model P w) A (match b with | true => rule "set.scan.the-table-gave-way" | false => pure ()) Q' E s1 := fun b s1 Q' q => way b q
    split
    · refine wpAny_bind ?_
      rw [hashByValue_scannable 8 flat]
      refine wpAny_pure ?_
      refine tx_store (S' := fun j => S j || decide (j = k)) ?_ ho ex hd ?_ ?_
      · intro b s1 Q' q
        cases b
        · first | exact wpAny_pure q | exact wpAny_rule q
        · first | exact wpAny_pure q | exact wpAny_rule q
      · have N' := N
        obtain ⟨a1, a2, a3, a4, a5, a6, a7⟩ := N'
        first
          | exact N
          | (refine ⟨a1, a2, a3, a4, ?_, ?_, ?_⟩
             · split
               · first | exact a5 | exact SetTable.fits_plain_off a5
               · first | exact a5 | exact SetTable.fits_plain_off a5
             · split <;> exact a6
             · split <;> exact a7)
      · intro h' sb r
        dsimp only
        exact wpAny_pure (fin h' sb r)
    · refine wpAny_bind (wpAny_pure ?_)
      simp only [↓reduceIte]
      refine tx_store (S' := fun j => S j || decide (j = k)) ?_ ho ex hd N ?_
      · intro b s1 Q' q
        cases b
        · first | exact wpAny_pure q | exact wpAny_rule q
        · first | exact wpAny_pure q | exact wpAny_rule q
      · intro h' sb r
        dsimp only
        exact wpAny_pure (fin h' sb r)
end
end OwS
namespace OwS
open PySem PySem.Spec PyProof.Rows L2
def has (xs : List Str) : Str → Bool := fun k => decide (k ∈ xs)
theorem TxR.congr {P : Program} {w : World} {h : Heap} {a : Addr} {S S' : Str → Bool} {n n' : Nat} (R : TxR P w h a S n) (e : ∀ k, S k = S' k) (en : n = n') : TxR P w h a S' n' := by
  obtain rfl : S = S' := funext e
  subst en
  exact R
section
variable {prog : Program} {w : World} {A : Around} {R : Result → Shared → Prop} {I : Addr} {fp wr : List Addr} {G : Array GenState → Array GenState → Prop} {n : Nat} {P : Nat → Value → Prop} {St : Nat → Shared → Prop}
/-- the texts of xs go into the set at S, one by one -/
theorem tx_loop (W : WalksS prog w A.in1 I fp wr G n P St) (S : Addr) (apart : S ∉ fp) (xs : List Str) (sz : xs.length = n) (few : n + 1 < scanBound) (val : ∀ i v, P i v → ∃ x t, xs[i]? = some x ∧ v = .str x t) :
    ∀ (k i : Nat) (s : Shared), n - i = k → i ≤ n → St i s → (∃ m, m ≤ i ∧ TxR prog w s.heap S (has (xs.take i)) m) →
      (∀ s' m, Moved (S :: wr) G s s' → TxR prog w s'.heap S (has xs) m → R (.ok (.ret .none)) s') →
      codeAny (model prog w) A (.builtin "set.update.loop" ⟨[.ref S, .ref I], []⟩) R s := by
  have notWr : S ∉ wr := fun z => apart (W.sub _ z)
  have more : ∀ b ∈ wr, b ∈ S :: wr := fun b hb => List.mem_cons_of_mem _ hb
  intro k
  induction k with
  | zero =>
    intro i s hk hi hst hS hR
    obtain rfl : i = n := by omega
    obtain ⟨m, _, r⟩ := hS
    refine codeAny_builtin PyProof.Rows.F.entry_set_update_loop ?_
    rw [Around.under_plainId PyProof.Rows.F.plain_set_update_loop _]
    show wpAny _ A.in1 (pyNext (.ref I) >>= _) _ _ s
    refine wpAny_bind (W.done s _ _ hst fun s' moved => ?_)
    show wpAny _ A.in1 (ret Value.none) _ _ s'
    refine wpAny_pure (hR s' m (moved.mono more) ?_)
    have e : xs.take i = xs := List.take_of_length_le (by omega)
    rw [e] at r
    exact r.keep fun o e => moved.heap S o notWr e
  | succ k ih =>
    intro i s hk hi hst hS hR
    have lt : i < n := by omega
    obtain ⟨m, hm, r⟩ := hS
    refine codeAny_builtin PyProof.Rows.F.entry_set_update_loop ?_
    rw [Around.under_plainId PyProof.Rows.F.plain_set_update_loop _]
    show wpAny _ A.in1 (pyNext (.ref I) >>= _) _ _ s
    refine wpAny_bind (W.item i s _ _ lt hst fun v s' hv hst' moved => ?_)
    obtain ⟨x, t, hx, rfl⟩ := val i v hv
    have r' := r.keep fun o e => moved.heap S o notWr e
    show wpAny _ A.in1 (holding [Value.str x t] (setAdd S (.str x t)) >>= _) _ _ s'
    refine wpAny_bind ?_
    refine wpAny_holding ?_
    unfold setAdd
    refine wpAny_holding ?_
    refine wpAny_bind ?_
    refine (PySem.strKind prog w).pyHash (k := x) (strKind_is _ _ _ _) ?_
    refine tx_add (s := { s' with toks := s'.toks + 1 }) r' (by omega) fun h' but r2 => ?_
    have r3 : ∃ m', m' ≤ i + 1 ∧ TxR prog w h' S (has (xs.take (i + 1))) m' := by
      refine ⟨_, ?_, r2.congr (fun q => ?_) rfl⟩
      · split <;> omega
      · unfold has
        rw [List.take_add_one, hx]
        show (decide (q ∈ xs.take i) || decide (q = x)) = decide (q ∈ xs.take i ++ [x])
        rw [← Bool.decide_or]
        exact decide_eq_decide.mpr (by rw [List.mem_append, List.mem_singleton])
    refine wpAny_pure ⟨plainId_quiet PyProof.Rows.F.plain_set_update_loop _, ih (i + 1) _ (by omega) lt (W.frame _ s' _ _ hst' (Nat.le_succ _) fun b hb o e => ?_) r3 fun s'' m' moved2 r4 => ?_⟩
    · refine (but.2 b fun z => apart ?_).trans e
      rw [← z]
      exact hb
    · refine hR s'' m' (Moved.trans W.gtrans ((moved.mono more).then_heap (Nat.le_succ _) fun b o hb e => ?_) moved2) r4
      refine (but.2 b fun z => hb ?_).trans e
      rw [z]
      exact List.mem_cons_self
end
theorem tx_fresh {P : Program} {w : World} {h : Heap} {a : Addr} (e : h.get? a = some { cls := .type "set", dict := none, data := .set #[] 0 (.fresh 0 0 (!w.params.followText "set-order")) }) : TxR P w h a (fun _ => false) 0 := by
  refine ⟨_, #[], 0, _, e, ⟨rfl, rfl, rfl⟩, rfl, fun x hx => absurd hx (by simp), List.nodup_nil, fun k => by simp, by decide, rfl, rfl, List.Pairwise.nil, ?_⟩
  cases z : w.params.followText "set-order" with
  | true => exact .inl rfl
  | false =>
    refine .inr ?_
    rw [show (!false) = true from rfl]
    rfl
end OwS
namespace OwS
open PySem PySem.Spec PyProof.Rows L2
/-- a set just made -/
abbrev bare (w : World) : Obj := { cls := .type "set", dict := none, data := .set #[] 0 (.fresh 0 0 (!w.params.followText "set-order")) }
section
variable {prog : Program} {w : World} {A : Around} {E : Value → Shared → Prop} {s : Shared}
theorem txs_at : ∀ {vs : List Value} {xs : List Str}, StrsAre vs xs → ∀ (i : Nat) (v : Value), vs[i]? = some v → ∃ x t, xs[i]? = some x ∧ v = .str x t
  | _, _, .nil, i, v, h => by simp at h
  | _, _, .cons x t r, 0, v, h => ⟨x, t, rfl, (Option.some.inj h).symm⟩
  | _, _, .cons x t r, i + 1, v, h => txs_at r i v h
/-- behind set.__init__ the texts are in -/
def Filled (prog : Program) (w : World) (s : Shared) (xs : List Str) (E : Value → Shared → Prop) : Result → Shared → Prop :=
  wants (fun r s2 => r = .none ∧ ∃ h' tk m, s2 = { s with heap := h', toks := tk } ∧ TxR prog w h' s.heap.objs.size (has xs) m ∧ ∀ b o, s.heap.get? b = some o → h'.get? b = some o) E
theorem call_set_texts {l : Addr} {items : Array Value} {xs : List Str} {Q : Value → Shared → Prop} (calm : A.handled = none) (hl : s.heap.IsList l items) (hi : StrsAre items.toList xs) (few : xs.length + 1 < scanBound)
    (fin : ∀ (h' : Heap) (tk m : Nat), TxR prog w h' s.heap.objs.size (has xs) m → (∀ b o, s.heap.get? b = some o → h'.get? b = some o) → Q (.ref s.heap.objs.size) { s with heap := h', toks := tk }) :
    wpAny (model prog w) A (call (.type "set") [.ref l]) Q E s := by
  have sz : xs.length = items.size := by
    have q := StrsAre.len_eq hi
    rw [Array.length_toList] at q
    exact q.symm
  obtain ⟨c, tl, hmro⟩ := F.called_set.mro
  have made := F.called_set.made
  have sub := F.called_set.sub
  have noType := F.called_set.notType
  have create := F.called_set.canCreate
  have typeCall := F.typeCall_set_1 (.ref l)
  refine wpAny_call ?_
  refine codeAny_of_tree ?_
  show wpAny _ _ (callAny (.type "set") _) _ _ _
  refine wpAny_pure ⟨Code.quiet_builtin _ (by decide +kernel), ?_⟩
  refine codeAny_builtin F.entry_type_call ?_
  rw [Around.under_plain (weight_type_call_type "set" [.ref l] []) rfl]
  repeat (any_goals (first | assumption | wp_step))
  refine codeAny_mono (code_set_led1 (.ref l) (E := E) (Q₁ := fun obj s1 => obj = .ref s.heap.objs.size ∧ s1 = { s with heap := s.heap.push (bare w) }) ⟨rfl, rfl⟩) ?_
  intro r s1 hr
  cases r with
  | error e => exact hr
  | ok fl =>
    cases fl with
    | next => exact hr.elim
    | brk => exact hr.elim
    | cont => exact hr.elim
    | ret obj =>
      obtain ⟨rfl, rfl⟩ := hr
      have atS : (s.heap.push (bare w)).get? s.heap.objs.size = some (bare w) := Heap.get?_push_size _ rfl
      have isSet : Shared.TypeIs { s with heap := s.heap.push (bare w) } (.ref s.heap.objs.size) "set" := ⟨_, atS, rfl⟩
      have look := F.called_set.init.lookup
      have bind := F.called_set.init.bind (.ref s.heap.objs.size)
      repeat (any_goals (first | assumption | wp_step))
      refine codeAny_mono (codeAny_call_builtin (R := Filled prog w s xs E) F.called_set.init.plain F.entry_set_init (check_set_init_1 isSet ?_)) ?_
      · obtain ⟨ol, hol, hcl, nl, hdl⟩ := hl
        obtain ⟨ocls, odict, odata, oslots⟩ := ol
        simp only at hcl hdl
        subst hcl hdl
        have there : (s.heap.push (bare w)).get? l = some { cls := .type "list", dict := odict, data := .seq items nl, slots := oslots } := Heap.get?_push_of_some _ hol
        have isL : (s.heap.push (bare w)).IsList l items := ⟨_, there, rfl, nl, rfl⟩
        have s1 := F.sub_list_set
        have s2 := F.sub_list_frozenset
        have s3 : (Value.type "list" == Value.type "dict") = false := by decide
        unfold Builtin.«set.__init__» noKeywords Builtin.Frozenset.updateFrom
        generalize hit : pyIter = it
        wp_walk
        subst hit
        refine wpAny_pyIter_list isL ?_
        refine wpAny_bind ?_
        refine wpAny_runValue ?_
        have below : l < s.heap.objs.size := Heap.lt_size hol
        have calm3 : A.in1.in1.in1.handled = none := by simp [calm]
        have grown : (s.heap.push (bare w)).objs.size = s.heap.objs.size + 1 := Heap.size_push ..
        have ne1 : l ≠ (s.heap.push (bare w)).objs.size := by
          rw [grown]
          exact Nat.ne_of_lt (Nat.lt_succ_of_lt below)
        have apart : s.heap.objs.size ∉ [(s.heap.push (bare w)).objs.size, l] := by
          rw [grown]
          intro z
          rcases List.mem_cons.mp z with z | z
          · exact Nat.ne_of_lt (Nat.lt_succ_self _) z
          · exact Nat.ne_of_gt below (List.mem_singleton.mp z)
        refine tx_loop ((Walks.list calm3 _ l ne1 items).toS) s.heap.objs.size apart xs sz (by rw [← sz]; exact few) (fun i v hv => ?val) (items.size - 0) 0 _ (by omega) (Nat.zero_le _) ⟨⟨_, Heap.get?_push_size _ rfl, rfl, rfl⟩, (isL.push _)⟩ ⟨0, Nat.le_refl _, ?start⟩ ?behind
        case val =>
          refine txs_at hi i v ?_
          rw [Array.getElem?_toList]
          exact hv
        case start =>
          refine (tx_fresh ?_).congr (fun q => ?_) rfl
          · exact Heap.get?_push_of_some _ atS
          · unfold has
            simp
        case behind =>
          intro s' m moved r
          obtain ⟨h', g', d', tk', os'⟩ := s'
          obtain rfl : g' = s.gens := moved.gens
          obtain rfl : d' = s.drawn := moved.drawn
          obtain rfl : os' = s.os := moved.os
          show wpAny _ _ _ _ _ _
          refine wpAny_pure ?_
          show wpAny _ _ (ret Value.none) _ _ _
          refine wpAny_pure ⟨rfl, h', tk', m, rfl, r, fun b o e => ?_⟩
          have lt : b < s.heap.objs.size := Heap.lt_size e
          refine moved.heap b o ?_ (Heap.get?_push_of_some _ (Heap.get?_push_of_some _ e))
          rw [grown]
          intro z
          rcases List.mem_cons.mp z with z | z
          · exact Nat.ne_of_lt lt z
          · exact Nat.ne_of_lt (Nat.lt_succ_of_lt lt) (List.mem_singleton.mp z)
      · intro r2 s2 hr2
        cases r2 with
        | error e => exact hr2
        | ok fl2 =>
          cases fl2 with
          | next => exact hr2.elim
          | brk => exact hr2.elim
          | cont => exact hr2.elim
          | ret r =>
            obtain ⟨rfl, h', tk, m, rfl, q1, q2⟩ := hr2
            repeat (any_goals (first | assumption | wp_step))
            exact fin _ _ _ q1 q2
end
end OwS
namespace OwS
open PySem PySem.Spec PyProof.Rows L2
section
variable {prog : Program} {w : World} {A : Around} {E : Value → Shared → Prop} {s : Shared}
theorem strs_of_elems : ∀ (l : List (Int × Value)), ElemsOf (PySem.strKind prog w) l → StrsAre (l.map (·.2)) (l.map txOf)
  | [], _ => .nil
  | e :: l, h => by
    obtain ⟨⟨k, h1, _⟩, _⟩ := h e List.mem_cons_self
    obtain ⟨t, h2⟩ := PySem.Value.isStrOf_shape (show PySem.Value.isStrOf k e.2 = true from h1)
    have h3 := strs_of_elems l fun x hx => h x (List.mem_cons_of_mem _ hx)
    have e1 : txOf e = k := by
      unfold txOf
      rw [h2]
    rw [List.map_cons, List.map_cons, e1, h2]
    exact .cons k t h3
theorem strs_perm {vs us : List Value} (p : vs.Perm us) : ∀ {xs : List Str}, StrsAre us xs → ∃ ys, StrsAre vs ys ∧ ys.Perm xs := by
  induction p with
  | nil =>
    intro xs h
    exact ⟨xs, h, List.Perm.refl _⟩
  | cons x p ih =>
    intro xs h
    cases h with
    | cons k t r =>
      obtain ⟨ys, h1, h2⟩ := ih r
      exact ⟨k :: ys, .cons k t h1, h2.cons k⟩
  | swap x y l =>
    intro xs h
    cases h with
    | cons k t r =>
      cases r with
      | cons k2 t2 r2 => exact ⟨_, .cons k2 t2 (.cons k t r2), List.Perm.swap _ _ _⟩
  | trans p1 p2 ih1 ih2 =>
    intro xs h
    obtain ⟨ys, h1, h2⟩ := ih2 h
    obtain ⟨zs, h3, h4⟩ := ih1 h1
    exact ⟨zs, h3, h4.trans h2⟩
theorem sorted_texts {a : Addr} {S : Str → Bool} {n : Nat} {Q : Value → Shared → Prop} (R : TxR prog w s.heap a S n) (calm : A.handled = none)
    (fin : ∀ s' p (out : Array Value) (c : Nat) (ys : List Str), (∀ b o, s.heap.get? b = some o → s'.heap.get? b = some o) → s'.gens = s.gens → s'.os = s.os → s.heap.objs.size ≤ p →
      s'.heap.get? p = some (seqObj "list" out c) → StrsAre out.toList ys → ys.Nodup → sortedS ys = true → (∀ k, S k = true ↔ k ∈ ys) → ys.length = n → Q (.ref p) s') :
    wpAny (model prog w) A (call (.builtin "sorted") [.ref a]) Q E s := by
  obtain ⟨o, es, ep, t, ho, ex, hd, g, nd, hm, hb, hf, hn, hr, hl⟩ := R
  refine Calls.call_function_entry kind_sorted plain_sorted entry_sorted (args_sorted1 _) ?_
  unfold Builtin.«sorted»
  refine wpAny_bind (m := checkCount "sorted" 1 1 _) ?_
  refine wpAny_pure ?_
  refine wpAny_bind ?_
  refine collect_set (A := A.in1) calm ⟨o, ho, ex.1, hd⟩ hf hb hr hl ?_
  intro s1 vs keep size gens os pm
  have len : vs.length = n := by
    rw [pm.length_eq, List.length_map, Array.length_toList]
    exact hn
  have lenLine : vs.length ≤ sizeLine := by
    have h1 : es.size < scanBound := hb
    have h2 : (scanBound : Nat) ≤ sizeLine := by decide
    omega
  obtain ⟨xs, sx, px⟩ := strs_perm pm (strs_of_elems es.toList g)
  refine wpAny_bind ?_
  refine wpAny_newList ?_ lenLine
  have atL : (s1.heap.push (seqObj "list" vs.toArray 0)).get? s1.heap.objs.size = some (seqObj "list" vs.toArray 0) := Heap.get?_push_size _ rfl
  refine wpAny_bind ?_
  refine wpAny_holding ?_
  refine wpAny_call_entry slot_list_sort ⟨_, atL, rfl⟩ entry_list_sort ?_ (args_list_sort _)
  refine list_sort_treeKAny strKind_oneLt atL sx.keysOf (fun v1 v2 rest e => keyKind_strs (by rw [← e]; exact sx)) lenLine ?_
  intro st' hp hs
  refine ⟨_, rfl, ?_⟩
  obtain ⟨ys, h1, h2, h3⟩ := sorted_out_str sx hp hs
  obtain ⟨c, hc⟩ := sortedHeap_at (vs := vs) (out := (arrOf st').map (·.2)) atL
  have py : ys.Perm (es.toList.map txOf) := h2.trans px
  refine wpAny_pure ⟨_, rfl, ?_⟩
  refine fin _ s1.heap.objs.size _ c ys (fun b u e => ?_) gens os size hc h1 (py.nodup_iff.mpr nd) h3 (fun k => ?_) ?_
  · have q := keep b u e
    have lt := Heap.lt_size q
    show (sortedHeap (s1.heap.push (seqObj "list" vs.toArray 0)) s1.heap.objs.size vs _).get? b = some u
    rw [sortedHeap_old (Nat.ne_of_lt lt) ?_]
    · exact Heap.get?_push_of_some _ q
    · rw [size_push']
      exact Nat.lt_succ_of_lt lt
  · rw [hm k, py.mem_iff]
  · rw [py.length_eq, List.length_map, Array.length_toList]
    exact hn
end
/-! ### the rules of the layer -/
def TxO (P : Program) (w : World) (a : Addr) (S : Str → Bool) (n : Nat) : HO := .ext fun h => TxR P w h a S n
theorem tx_new {w : World} {P : Program} {H : Hp} {h : Heap} {a : Addr} {S : Str → Bool} {n : Nat} (R : TxR P w h a S n) : ObjOk P w H h a (TxO P w a S n) := by
  obtain ⟨o, _, _, _, ho, _⟩ := id R
  exact ⟨R, ⟨o, ho⟩, fun h1 h2 p k => TxR.keep p k⟩
def rSetTx (K : PySem.W.Frag) (P : Program) (w : World) : List V → Hp → VK → Prop := fun vs H Q => ∃ (a : Addr) (xs : List Str), vs = [V.ref a] ∧ SqL K H a (xs.map V.str) ∧ xs.length ≤ 4000 ∧ ∀ p m, H p = none → Q (.ref p) (upd H p (TxO P w p (has xs) m))
theorem call_setTx {X : Cx} (hc : X.calm = true) : CallR X (.type "set") (rSetTx X.K X.prog X.w) := by
  intro pins s σ H vs us Q I r h
  obtain ⟨a, xs, rfl, hs, few, q⟩ := h
  obtain ⟨its, rv, pl, hz⟩ := I.list hs
  rw [Vals.ref1 r]
  refine call_set_texts (I.ok.hd hc) pl.isList (by simpa using strsAre_of rv) (by have : (4001 : Nat) < scanBound := by decide
                                                                                  omega) fun h' tk m R keep => ?_
  exact ⟨.ref s.heap.objs.size, upd H s.heap.objs.size (TxO X.prog X.w s.heap.objs.size (has xs) m), I.laid keep (Nat.le_refl _) (tx_new R), rfl, q _ m (I.hok.fresh (Nat.le_refl _))⟩
def rSortTx (P : Program) (w : World) : List V → Hp → VK → Prop := fun vs H Q => ∃ (a : Addr) (S : Str → Bool) (n : Nat), vs = [V.ref a] ∧ H a = some (TxO P w a S n) ∧
  ∀ (ys : List Str) (p : Addr), ys.Nodup → sortedS ys = true → (∀ k, S k = true ↔ k ∈ ys) → ys.length = n → H p = none → Q (.ref p) (upd H p (.lst (ys.map V.str)))
theorem call_sortTx {X : Cx} (hc : X.calm = true) : CallR X (.builtin "sorted") (rSortTx X.prog X.w) := by
  intro pins s σ H vs us Q I r h
  obtain ⟨a, S, n, rfl, ha, q⟩ := h
  have R : TxR X.prog X.w s.heap a S n := (I.hok a _ ha).1
  rw [Vals.ref1 r]
  refine sorted_texts R (I.ok.hd hc) ?_
  intro s' p out c ys keep gens os size at_ tx nd so mem len
  have few : ys.length ≤ sizeLine := by
    obtain ⟨o, es, ep, t, ho, ex, hd, g, _, hm, hb, hf, hn, _⟩ := R
    have h2 : (scanBound : Nat) ≤ sizeLine := by decide
    omega
  have fresh : H p = none := I.hok.fresh size
  have J : Inv X pins σ (upd H p (.lst (ys.map V.str))) { s with heap := s'.heap, gens := s'.gens, drawn := s'.drawn, toks := s'.toks } :=
    I.call (ch := []) (Un.laid keep size fresh) (I.hok.laid keep size ⟨by rw [List.length_map]; exact few, out.toList, c, vals_of_strs tx, at_⟩) (by rw [gens]; exact I.bare) (fun _ z => (nomatch z))
  have e : s' = { s with heap := s'.heap, gens := s'.gens, drawn := s'.drawn, toks := s'.toks } := by
    cases s'
    cases s
    cases os
    rfl
  rw [e]
  exact ⟨.ref p, _, J, rfl, q ys p nd so mem len fresh⟩
end OwS

set_option Elab.async false
set_option linter.all false
set_option maxRecDepth 100000
set_option maxHeartbeats 4000000
/-! set(texts) of a tuple; len(set(texts)). -/
namespace OwS
open PySem PySem.Spec PyProof.Rows L2
section
variable {prog : Program} {w : World} {A : Around} {E : Value → Shared → Prop} {s : Shared}
theorem call_set_textsT {l : Addr} {items : Array Value} {xs : List Str} {Q : Value → Shared → Prop} (calm : A.handled = none) (hl : s.heap.IsTuple l items) (hi : StrsAre items.toList xs) (few : xs.length + 1 < scanBound)
    (fin : ∀ (h' : Heap) (tk m : Nat), TxR prog w h' s.heap.objs.size (has xs) m → (∀ b o, s.heap.get? b = some o → h'.get? b = some o) → Q (.ref s.heap.objs.size) { s with heap := h', toks := tk }) :
    wpAny (model prog w) A (call (.type "set") [.ref l]) Q E s := by
  have sz : xs.length = items.size := by
    have q := StrsAre.len_eq hi
    rw [Array.length_toList] at q
    exact q.symm
  obtain ⟨c, tl, hmro⟩ := F.called_set.mro
  have made := F.called_set.made
  have sub := F.called_set.sub
  have noType := F.called_set.notType
  have create := F.called_set.canCreate
  have typeCall := F.typeCall_set_1 (.ref l)
  refine wpAny_call ?_
  refine codeAny_of_tree ?_
  show wpAny _ _ (callAny (.type "set") _) _ _ _
  refine wpAny_pure ⟨Code.quiet_builtin _ (by decide +kernel), ?_⟩
  refine codeAny_builtin F.entry_type_call ?_
  rw [Around.under_plain (weight_type_call_type "set" [.ref l] []) rfl]
  repeat (any_goals (first | assumption | wp_step))
  refine codeAny_mono (code_set_led1 (.ref l) (E := E) (Q₁ := fun obj s1 => obj = .ref s.heap.objs.size ∧ s1 = { s with heap := s.heap.push (bare w) }) ⟨rfl, rfl⟩) ?_
  intro r s1 hr
  cases r with
  | error e => exact hr
  | ok fl =>
    cases fl with
    | next => exact hr.elim
    | brk => exact hr.elim
    | cont => exact hr.elim
    | ret obj =>
      obtain ⟨rfl, rfl⟩ := hr
      have atS : (s.heap.push (bare w)).get? s.heap.objs.size = some (bare w) := Heap.get?_push_size _ rfl
      have isSet : Shared.TypeIs { s with heap := s.heap.push (bare w) } (.ref s.heap.objs.size) "set" := ⟨_, atS, rfl⟩
      have look := F.called_set.init.lookup
      have bind := F.called_set.init.bind (.ref s.heap.objs.size)
      repeat (any_goals (first | assumption | wp_step))
      refine codeAny_mono (codeAny_call_builtin (R := Filled prog w s xs E) F.called_set.init.plain F.entry_set_init (check_set_init_1 isSet ?_)) ?_
      · obtain ⟨ol, hol, hcl, nl, hdl⟩ := hl
        obtain ⟨ocls, odict, odata, oslots⟩ := ol
        simp only at hcl hdl
        subst hcl hdl
        have there : (s.heap.push (bare w)).get? l = some { cls := .type "tuple", dict := odict, data := .seq items nl, slots := oslots } := Heap.get?_push_of_some _ hol
        have isL : (s.heap.push (bare w)).IsTuple l items := ⟨_, there, rfl, nl, rfl⟩
        have s1 := F.sub_tuple_set
        have s2 := F.sub_tuple_frozenset
        have s3 : (Value.type "tuple" == Value.type "dict") = false := by decide
        unfold Builtin.«set.__init__» noKeywords Builtin.Frozenset.updateFrom
        generalize hit : pyIter = it
        wp_walk
        subst hit
        refine wpAny_pyIter_tuple isL ?_
        refine wpAny_bind ?_
        refine wpAny_runValue ?_
        have below : l < s.heap.objs.size := Heap.lt_size hol
        have calm3 : A.in1.in1.in1.handled = none := by simp [calm]
        have grown : (s.heap.push (bare w)).objs.size = s.heap.objs.size + 1 := Heap.size_push ..
        have ne1 : l ≠ (s.heap.push (bare w)).objs.size := by
          rw [grown]
          exact Nat.ne_of_lt (Nat.lt_succ_of_lt below)
        have apart : s.heap.objs.size ∉ [(s.heap.push (bare w)).objs.size, l] := by
          rw [grown]
          intro z
          rcases List.mem_cons.mp z with z | z
          · exact Nat.ne_of_lt (Nat.lt_succ_self _) z
          · exact Nat.ne_of_gt below (List.mem_singleton.mp z)
        refine tx_loop ((Walks.tuple calm3 _ l ne1 items).toS) s.heap.objs.size apart xs sz (by rw [← sz]; exact few) (fun i v hv => ?val) (items.size - 0) 0 _ (by omega) (Nat.zero_le _) ⟨⟨_, Heap.get?_push_size _ rfl, rfl, rfl⟩, (isL.push _)⟩ ⟨0, Nat.le_refl _, ?start⟩ ?behind
        case val =>
          refine txs_at hi i v ?_
          rw [Array.getElem?_toList]
          exact hv
        case start =>
          refine (tx_fresh ?_).congr (fun q => ?_) rfl
          · exact Heap.get?_push_of_some _ atS
          · unfold has
            simp
        case behind =>
          intro s' m moved r
          obtain ⟨h', g', d', tk', os'⟩ := s'
          obtain rfl : g' = s.gens := moved.gens
          obtain rfl : d' = s.drawn := moved.drawn
          obtain rfl : os' = s.os := moved.os
          show wpAny _ _ _ _ _ _
          refine wpAny_pure ?_
          show wpAny _ _ (ret Value.none) _ _ _
          refine wpAny_pure ⟨rfl, h', tk', m, rfl, r, fun b o e => ?_⟩
          have lt : b < s.heap.objs.size := Heap.lt_size e
          refine moved.heap b o ?_ (Heap.get?_push_of_some _ (Heap.get?_push_of_some _ e))
          rw [grown]
          intro z
          rcases List.mem_cons.mp z with z | z
          · exact Nat.ne_of_lt lt z
          · exact Nat.ne_of_lt (Nat.lt_succ_of_lt lt) (List.mem_singleton.mp z)
      · intro r2 s2 hr2
        cases r2 with
        | error e => exact hr2
        | ok fl2 =>
          cases fl2 with
          | next => exact hr2.elim
          | brk => exact hr2.elim
          | cont => exact hr2.elim
          | ret r =>
            obtain ⟨rfl, h', tk, m, rfl, q1, q2⟩ := hr2
            repeat (any_goals (first | assumption | wp_step))
            exact fin _ _ _ q1 q2
end
theorem call_setTxT {X : Cx} (hc : X.calm = true) : CallR X (.type "set") (fun vs H Q => ∃ (a : Addr) (xs : List Str), vs = [V.ref a] ∧ SqT X.K H a (xs.map V.str) ∧ xs.length ≤ 4000 ∧ ∀ p m, H p = none → Q (.ref p) (upd H p (TxO X.prog X.w p (has xs) m))) := by
  intro pins s σ H vs us Q I r h
  obtain ⟨a, xs, rfl, hs, few, q⟩ := h
  obtain ⟨its, rv, pl, hz⟩ := I.tuple hs
  rw [Vals.ref1 r]
  refine call_set_textsT (I.ok.hd hc) pl (by simpa using strsAre_of rv) (by have : (4001 : Nat) < scanBound := by decide
                                                                            omega) fun h' tk m R keep => ?_
  exact ⟨.ref s.heap.objs.size, upd H s.heap.objs.size (TxO X.prog X.w s.heap.objs.size (has xs) m), I.laid keep (Nat.le_refl _) (tx_new R), rfl, q _ m (I.hok.fresh (Nat.le_refl _))⟩
def rLenTx (P : Program) (w : World) : List V → Hp → VK → Prop := fun vs H Q => ∃ (a : Addr) (S : Str → Bool) (n : Nat), vs = [V.ref a] ∧ H a = some (TxO P w a S n) ∧
  ∀ (ys : List Str), ys.Nodup → (∀ k, S k = true ↔ k ∈ ys) → ys.length = n → Q (.int n) H
theorem call_lenTx {X : Cx} : CallR X (.builtin "len") (rLenTx X.prog X.w) := by
  intro pins s σ H vs us Q I r h
  obtain ⟨a, S, n, rfl, ha, q⟩ := h
  have R : TxR X.prog X.w s.heap a S n := (I.hok a _ ha).1
  rw [Vals.ref1 r]
  obtain ⟨o, es, ep, t, ho, ex, hd, g, nd, hm, hb, hf, hn, _⟩ := R
  have h2 : (scanBound : Nat) < 2 ^ 63 := by decide
  refine PySem.call_len_set ho ex hd hf (by omega) ⟨.int n, H, I.tok _, ⟨_, by rw [hn]⟩, q _ nd hm ?_⟩
  rw [List.length_map, Array.length_toList, hn]
end OwS
namespace Ev
open PySem PySem.Spec PyProof.Rows L2 Ow OwS
def seqW (w : W) (S : Store) : Option (List W) := match w with
  | .tup l => some l
  | .cl l => some l
  | .ref n => match S[n]? with
    | some (.lst l) => some l
    | _ => none
  | _ => none
theorem VRs.strs {K : PySem.W.Frag} {ι : List Addr} {H : Hp} : ∀ {xs : List Str} {vs : List V}, VRs K ι H (xs.map W.str) vs → vs = xs.map V.str
  | [], _, h => h
  | x :: xs, _, ⟨v, r, e, h, t⟩ => by
    rw [e, VRs.strs t, show v = V.str x from h]
    rfl
/-- a value that is walked: where it lies -/
theorem seq_lies {K : PySem.W.Frag} {Tb ι : List Addr} {S : Store} {H : Hp} {w : W} {v : V} {l : List W} (s : Sim K Tb ι S H) (r : VR K ι H w v) (h : seqW w S = some l) : ∃ a vs, v = .ref a ∧ VRs K ι H l vs ∧ (SqL K H a vs ∨ SqT K H a vs) := by
  cases w with
  | tup m =>
    cases h
    obtain ⟨a, vs, rfl, hq, rv⟩ := r
    exact ⟨a, vs, rfl, rv, .inr hq⟩
  | cl m =>
    cases h
    obtain ⟨a, vs, rfl, hq, rv⟩ := r
    exact ⟨a, vs, rfl, rv, .inl hq.sq⟩
  | ref n =>
    obtain ⟨a, ha, rfl⟩ := r
    obtain ⟨o, ho, q⟩ := s.there ha
    unfold seqW at h
    dsimp only at h
    rw [ho] at h
    cases o with
    | lst m =>
      cases h
      obtain ⟨vs, e, rv⟩ := q
      exact ⟨a, vs, rfl, rv, .inl (SqL.of e)⟩
    | _ => cases h
  | _ => cases h
def tmpS (w : W) (S : Store) (k : List Str → Prop) : Prop := ∃ xs : List Str, seqW w S = some (xs.map W.str) ∧ xs.length ≤ 4000 ∧ k xs
/-- len(set(texts)) -/
def mLenSet (m : ME) : ME := fun env S Q => m env S fun w S1 => tmpS w S1 fun xs => ∀ ys : List Str, ys.Nodup → (∀ k, k ∈ ys ↔ k ∈ xs) → Q (.int (ys.length : Nat)) S1
/-- sorted(set(texts)) -/
def mSortSet (m : ME) : ME := fun env S Q => m env S fun w S1 => tmpS w S1 fun xs => ∀ ys : List Str, ys.Nodup → sortedS ys = true → (∀ k, k ∈ ys ↔ k ∈ xs) → Q (.ref S1.length) (S1 ++ [.lst (ys.map W.str)])
theorem VRs.ofStrs {K : PySem.W.Frag} {ι : List Addr} {H : Hp} : ∀ (xs : List Str), VRs K ι H (xs.map W.str) (xs.map V.str)
  | [] => rfl
  | x :: xs => ⟨_, _, rfl, rfl, VRs.ofStrs xs⟩
section
variable {X : Cx} {Tb : List Addr} {e : Expr} {m : ME} {p p2 q pos : Pos}
theorem set_reading {H1 : Hp} {v : V} {xs : List Str} {Qv : VK} (h : ∃ a, v = .ref a ∧ (SqL X.K H1 a (xs.map V.str) ∨ SqT X.K H1 a (xs.map V.str))) (few : xs.length ≤ 4000)
    (k : ∀ p n, H1 p = none → Qv (.ref p) (upd H1 p (TxO X.prog X.w p (has xs) n))) :
    (∃ (a : Addr) (xs : List Str), [v] = [V.ref a] ∧ SqL X.K H1 a (xs.map V.str) ∧ xs.length ≤ 4000 ∧ ∀ p m, H1 p = none → Qv (.ref p) (upd H1 p (TxO X.prog X.w p (has xs) m))) ∨
      ∃ (a : Addr) (xs : List Str), [v] = [V.ref a] ∧ SqT X.K H1 a (xs.map V.str) ∧ xs.length ≤ 4000 ∧ ∀ p m, H1 p = none → Qv (.ref p) (upd H1 p (TxO X.prog X.w p (has xs) m)) := by
  obtain ⟨a, rfl, h | h⟩ := h
  · exact .inl ⟨a, xs, rfl, h, few, k⟩
  · exact .inr ⟨a, xs, rfl, h, few, k⟩
theorem has_iff {xs ys : List Str} (h : ∀ k, has xs k = true ↔ k ∈ ys) (k : Str) : k ∈ ys ↔ k ∈ xs := by
  rw [← h k]
  unfold has
  exact decide_eq_true_iff
theorem e_lenSet (hg : Gl X "len") (hm : X.mg "len" = none) (hg2 : Gl X "set") (hm2 : X.mg "set" = none) (ha : EE X Tb e m) (hc : X.calm = true := by rfl)
    (h1 : starEach [.Call (.Name "set" p2) [e] [] q] X.env = (false, eval (.Call (.Name "set" p2) [e] [] q) X.env) :: starEach [] X.env := by rfl) (h2 : starEach [e] X.env = (false, eval e X.env) :: starEach [] X.env := by rfl) :
    EE X Tb (.Call (.Name "len" p) [.Call (.Name "set" p2) [e] [] q] [] pos) (mLenSet m) := by
  refine ⟨pe_imp (pe_callB call_lenTx hg hm PySem.boot_len (pa_cons (pe_callTy (callR_or (call_setTx hc) (call_setTxT hc)) hg2 hm2 boot_set (pa_cons ha.pe pa_nil h2) (by decide) (by decide) h2 (by rfl)) pa_nil h1) (by decide) (by decide) h1 (by rfl)) fun σ H Q h => ?_, fun env S Q Q' k h => ha.mono _ _ _ _ (fun w S1 ⟨xs, a, b, c⟩ => ⟨xs, a, b, fun ys d e => k _ _ (c ys d e)⟩) h⟩
  obtain ⟨ι, env, S, s, er, h⟩ := h
  refine ⟨ι, env, S, s, er, ha.mono _ _ _ _ (fun w S1 ⟨xs, e1, few, z⟩ ι1 H1 v s1 g1 r1 => ?_) h⟩
  obtain ⟨a, vs, ev, rv, hq⟩ := seq_lies s1 r1 e1
  rw [VRs.strs rv] at hq
  refine set_reading (xs := xs) (Qv := fun x H2 => rLenTx X.prog X.w [x] H2 _) ⟨a, ev, hq⟩ few fun p n hp => ⟨p, has xs, n, rfl, upd_same, fun ys nd mem en => ?_⟩
  subst en
  exact z ys nd (has_iff mem) ι1 _ _ (s1.same (same_upd hp)) (g1.trans (Grow.same (same_upd hp))) rfl
theorem e_sortSet (hg : Gl X "sorted") (hm : X.mg "sorted" = none) (hg2 : Gl X "set") (hm2 : X.mg "set" = none) (ha : EE X Tb e m) (hc : X.calm = true := by rfl)
    (h1 : starEach [.Call (.Name "set" p2) [e] [] q] X.env = (false, eval (.Call (.Name "set" p2) [e] [] q) X.env) :: starEach [] X.env := by rfl) (h2 : starEach [e] X.env = (false, eval e X.env) :: starEach [] X.env := by rfl) :
    EE X Tb (.Call (.Name "sorted" p) [.Call (.Name "set" p2) [e] [] q] [] pos) (mSortSet m) := by
  refine ⟨pe_imp (pe_callB (call_sortTx hc) hg hm (by decide +kernel) (pa_cons (pe_callTy (callR_or (call_setTx hc) (call_setTxT hc)) hg2 hm2 boot_set (pa_cons ha.pe pa_nil h2) (by decide) (by decide) h2 (by rfl)) pa_nil h1) (by decide) (by decide) h1 (by rfl)) fun σ H Q h => ?_, fun env S Q Q' k h => ha.mono _ _ _ _ (fun w S1 ⟨xs, a, b, c⟩ => ⟨xs, a, b, fun ys d e f => k _ _ (c ys d e f)⟩) h⟩
  obtain ⟨ι, env, S, s, er, h⟩ := h
  refine ⟨ι, env, S, s, er, ha.mono _ _ _ _ (fun w S1 ⟨xs, e1, few, z⟩ ι1 H1 v s1 g1 r1 => ?_) h⟩
  obtain ⟨a, vs, ev, rv, hq⟩ := seq_lies s1 r1 e1
  rw [VRs.strs rv] at hq
  refine set_reading (xs := xs) (Qv := fun x H2 => rSortTx X.prog X.w [x] H2 _) ⟨a, ev, hq⟩ few fun p n hp => ⟨p, has xs, n, rfl, upd_same, fun ys p2 nd so mem en hp2 => ?_⟩
  have s2 := s1.same (same_upd (o := TxO X.prog X.w p (has xs) n) hp)
  obtain ⟨ι2, s3, g3, r3⟩ := newL s2 (VRs.ofStrs ys) hp2
  exact z ys nd so (has_iff mem) ι2 _ _ s3 ((g1.trans (Grow.same (same_upd hp))).trans g3) r3
end
end Ev

set_option Elab.async false
set_option linter.all false
set_option maxRecDepth 100000
set_option maxHeartbeats 4000000
/-! More rules: -i, {}, sorted(dict), written dicts, calls of a local name. -/
namespace Ev
open PySem PySem.Spec PyProof.Rows L2 Ow
def blts : List Str := ["len", "range", "max", "min", "abs", "isinstance", "int", "str", "bool", "tuple", "list", "dict", "all", "any", "sorted", "set", "reversed", "enumerate", "zip", "repr", "sum"]
def NoG (mg : Str → Option Value) : Prop := ∀ x ∈ blts, mg x = none
section
variable {X : Cx} {Tb : List Addr} {e a b : Expr} {es : List Expr} {m ma mb : ME} {mr : MA} {p pos : Pos}
def mNeg (m : ME) : ME := fun env S Q => m env S fun w S1 => match w with
  | .int i => Q (.int (-i)) S1
  | _ => False
theorem e_neg (h : EE X Tb e m) : EE X Tb (.UnaryOp .USub e pos) (mNeg m) := by
  refine ⟨pe_imp (pe_un un_neg h.pe) fun σ H Q q => ?_, fun env S Q Q' k q => h.mono _ _ _ _ (fun w S1 z => ?_) q⟩
  · obtain ⟨ι, env, S, s, er, q⟩ := q
    refine ⟨ι, env, S, s, er, h.mono _ _ _ _ (fun w S1 z ι1 H1 v s1 g1 r1 => ?_) q⟩
    cases w with
    | int i => exact ⟨i, r1, z ι1 H1 _ s1 g1 rfl⟩
    | _ => exact z.elim
  · cases w with
    | int i => exact k _ _ z
    | _ => exact z.elim
def mDnew : ME := fun _ S Q => Q (.ref S.length) (S ++ [.dK []])
theorem e_dnew : EE X Tb (.Dict [] [] pos) mDnew := by
  refine ⟨pe_imp pe_dnewK fun σ H Q q => ?_, fun env S Q Q' k q => k _ _ q⟩
  obtain ⟨ι, env, S, s, er, q⟩ := q
  intro p hp
  obtain ⟨s2, g2⟩ := s.new (u := .dK []) (o := .dK []) hp fun ι' H' g e => ⟨[], e, rfl, rfl⟩
  refine q _ _ (.ref p) s2 g2 ⟨p, ?_, rfl⟩
  rw [← s.len, List.getElem?_append_right (Nat.le_refl _), Nat.sub_self]
  rfl
/-- sorted(d), d a dict with text keys -/
def wSortD : RCW := fun ws S Q => match ws with
  | [.ref n] => oD S[n]? fun kvs => ∃ ks : List Str, kvs.map (·.1) = ks.map Sum.inr ∧ ks.length < 64 ∧ ∀ ys : List Str, ys.Perm ks → sortedS ys = true → Q (.ref S.length) (S ++ [.lst (ys.map W.str)])
  | _ => False
theorem mo_sortD : MonoC wSortD := fun x S Q Q' k h => by
  match x, h with
  | [.ref n], h =>
    exact oD_mono (fun kvs ⟨ks, a, b, c⟩ => ⟨ks, a, b, fun ys d e => k _ _ (c ys d e)⟩) h
theorem cl_sortD {K : PySem.W.Frag} : CL K Tb (fun xs H Q => ∃ (a : Addr) (kvs : List (Key × V)) (ks : List Str), xs = [.ref a] ∧ Rd H a (.dK kvs) ∧ kvs.map (·.1) = ks.map Sum.inr ∧ ks.length < 64 ∧
    ∀ ys p, ys.Perm ks → sortedS ys = true → H p = none → Q (.ref p) (upd H p (.lst (ys.map V.str)))) wSortD := fun ι S H ws vs Q Qv s r h k => by
  match ws, h with
  | [.ref n], h =>
    obtain ⟨v, rfl, a, ha, rfl⟩ := one_of r
    have h : oD S[n]? _ := h
    obtain ⟨kvs, e, ks, h1, h2, h3⟩ := oD_some h
    obtain ⟨b, hb, us, eu, ku, ru⟩ := s.obj n _ e
    rw [ha] at hb
    cases hb
    refine ⟨a, us, ks, rfl, .of eu, ku.trans h1, h2, fun ys p pm so hp => ?_⟩
    obtain ⟨ι2, s2, g2, r2⟩ := newL s (VRs.ofStrs ys) hp
    exact k ι2 _ _ _ _ (h3 ys pm so) s2 g2 r2
theorem e_sortD (hg : Gl X "sorted") (hm : X.mg "sorted" = none) (ha : EA X Tb [e] mr) (hc : X.calm = true := by rfl) (he : starEach [e] X.env = (false, eval e X.env) :: starEach [] X.env := by rfl) (hpl : (backTo pos (starEach [] X.env)).any (·.1) = false := by rfl) : EE X Tb (.Call (.Name "sorted" p) [e] [] pos) (mCB wSortD mr) :=
  e_callB (call_sortedD hc) cl_sortD mo_sortD hg hm (by decide +kernel) ha (by decide) (by decide) he hpl
/-! ### written dicts -/
def KD (K : PySem.W.Frag) (w : World) (mg : Str → Option Value) (x : Str) (T : Str → Option Addr) : Prop :=
  ∃ d es n, mg x = some (.ref d) ∧ KDict K w d es n ∧ ∀ z : Str, PySem.W.nsIn K d z = some ((T z).map Value.ref)
def mIxKD (T : Str → Option Addr) (m : ME) : ME := fun env S Q => m env S fun w S1 => match w with
  | .str z => oW (T z) fun a => Q (.adr a) S1
  | _ => False
def mInKD (neg : Bool) (T : Str → Option Addr) (m : ME) : ME := fun env S Q => m env S fun w S1 => match w with
  | .str z => Q (.bl (neg ^^ (T z).isSome)) S1
  | _ => False
theorem mIxKD_mono {T : Str → Option Addr} (h : MonoE m) : MonoE (mIxKD T m) := fun env S Q Q' k q => h _ _ _ _ (fun w S1 z => by
  cases w with
  | str x => exact oW_mono (fun a z => k _ _ z) z
  | _ => exact z.elim) q
theorem mInKD_mono {neg : Bool} {T : Str → Option Addr} (h : MonoE m) : MonoE (mInKD neg T m) := fun env S Q Q' k q => h _ _ _ _ (fun w S1 z => by
  cases w with
  | str x => exact k _ _ z
  | _ => exact z.elim) q
theorem e_ixKD {x : Str} {T : Str → Option Addr} (D : KD X.K X.w X.mg x T) (hg : Gl X x) (h : EE X Tb e m) (hd : (x == ("__debug__" : Str)) = false := by decide) (hs : PlainIx e := by exact fun _ _ => rfl) : EE X Tb (.Subscript (.Name x p) e pos) (mIxKD T m) := by
  obtain ⟨d, es, n, hm, KK, hT⟩ := D
  refine ⟨pe_imp (pe_ix ix_kdict (pe_glob (v := .ref d) hg hm rfl hd) h.pe hs) fun σ H Q q => ?_, mIxKD_mono h.mono⟩
  obtain ⟨ι, env, S, s, er, q⟩ := q
  refine ⟨ι, env, S, s, er, h.mono _ _ _ _ (fun w S1 z ι1 H1 v s1 g1 r1 => ?_) q⟩
  cases w with
  | str y =>
    obtain ⟨a, ea, z⟩ := oW_some z
    obtain rfl : v = .str y := r1
    refine ⟨d, y, .ref a, rfl, rfl, ⟨es, n, .ref a, KK.at_, KK.lit, by rw [hT y, ea]; rfl, rfl⟩, z ι1 H1 _ s1 g1 rfl⟩
  | _ => exact z.elim
theorem kd_read {x : Str} {T : Str → Option Addr} {d : Addr} {neg : Bool} {σ : L2.St} {H : Hp} {Q : VK} (hT : ∀ z : Str, PySem.W.nsIn X.K d z = some ((T z).map Value.ref)) (h : EE X Tb e m) (q : LE X.K Tb (mInKD neg T m) σ H Q) :
    tOp (fun x y H Q => ∃ (z : Str) (r : Option Value), x = .str z ∧ y = .ref d ∧ PySem.W.nsIn X.K d z = some r ∧ Q (.bl (neg ^^ r.isSome)) H) (LE X.K Tb m) (tC (.ref d)) σ H Q := by
  obtain ⟨ι, env, S, s, er, q⟩ := q
  refine ⟨ι, env, S, s, er, h.mono _ _ _ _ (fun w S1 z ι1 H1 v s1 g1 r1 => ?_) q⟩
  cases w with
  | str y =>
    obtain rfl : v = .str y := r1
    refine ⟨y, _, rfl, rfl, hT y, ?_⟩
    have e : ((T y).map Value.ref).isSome = (T y).isSome := by cases T y <;> rfl
    show Q (.bl (neg ^^ ((T y).map Value.ref).isSome)) H1
    rw [e]
    exact z ι1 H1 _ s1 g1 rfl
  | _ => exact z.elim
theorem e_inKD {x : Str} {T : Str → Option Addr} (D : KD X.K X.w X.mg x T) (hg : Gl X x) (h : EE X Tb e m) (hd : (x == ("__debug__" : Str)) = false := by decide) : EE X Tb (.Compare e [.In] [.Name x p] pos) (mInKD false T m) := by
  obtain ⟨d, es, n, hm, KK, hT⟩ := D
  exact ⟨pe_imp (pe_cmpR (op_in_kd KK) h.pe (pe_glob (v := .ref d) hg hm rfl hd) rfl) fun σ H Q q => by
    have := kd_read (x := x) hT h q
    simpa only [Bool.false_xor] using this, mInKD_mono h.mono⟩
theorem e_notinKD {x : Str} {T : Str → Option Addr} (D : KD X.K X.w X.mg x T) (hg : Gl X x) (h : EE X Tb e m) (hd : (x == ("__debug__" : Str)) = false := by decide) : EE X Tb (.Compare e [.NotIn] [.Name x p] pos) (mInKD true T m) := by
  obtain ⟨d, es, n, hm, KK, hT⟩ := D
  exact ⟨pe_imp (pe_cmpR (op_notIn_kd KK) h.pe (pe_glob (v := .ref d) hg hm rfl hd) rfl) fun σ H Q q => by
    have := kd_read (x := x) hT h q
    simpa only [Bool.true_xor] using this, mInKD_mono h.mono⟩
theorem t_inKD {x : Str} {T : Str → Option Addr} (D : KD X.K X.w X.mg x T) (hg : Gl X x) (h : EE X Tb e m) (hd : (x == ("__debug__" : Str)) = false := by decide) : ET X Tb (.Compare e [.In] [.Name x p] pos) (mTest (mInKD false T m)) := by
  obtain ⟨d, es, n, hm, KK, hT⟩ := D
  refine ⟨pt_imp (pt_cmpR (op_in_kd KK) h.pe (pe_glob (v := .ref d) hg hm rfl hd) rfl) fun σ H Q q => ?_, mTest_mono (mInKD_mono h.mono)⟩
  have := kd_read (x := x) (σ := σ) (H := H) (Q := fun v H' => ∃ b, v = .bl b ∧ Q b H') hT h (neg := false) ?_
  · simp only [Bool.false_xor] at this
    exact this
  · obtain ⟨ι, env, S, s, er, q⟩ := q
    refine ⟨ι, env, S, s, er, (mInKD_mono h.mono) _ _ _ _ (fun w S' q ι' H' v s' g' r' => ?_) q⟩
    cases w with
    | bl b =>
      have e : v = .bl b := r'
      exact ⟨b, e, q ι' H' s' g'⟩
    | _ => exact q.elim
theorem t_notinKD {x : Str} {T : Str → Option Addr} (D : KD X.K X.w X.mg x T) (hg : Gl X x) (h : EE X Tb e m) (hd : (x == ("__debug__" : Str)) = false := by decide) : ET X Tb (.Compare e [.NotIn] [.Name x p] pos) (mTest (mInKD true T m)) := by
  obtain ⟨d, es, n, hm, KK, hT⟩ := D
  refine ⟨pt_imp (pt_cmpR (op_notIn_kd KK) h.pe (pe_glob (v := .ref d) hg hm rfl hd) rfl) fun σ H Q q => ?_, mTest_mono (mInKD_mono h.mono)⟩
  have := kd_read (x := x) (σ := σ) (H := H) (Q := fun v H' => ∃ b, v = .bl b ∧ Q b H') hT h (neg := true) ?_
  · simp only [Bool.true_xor] at this
    exact this
  · obtain ⟨ι, env, S, s, er, q⟩ := q
    refine ⟨ι, env, S, s, er, (mInKD_mono h.mono) _ _ _ _ (fun w S' q ι' H' v s' g' r' => ?_) q⟩
    cases w with
    | bl b =>
      have e : v = .bl b := r'
      exact ⟨b, e, q ι' H' s' g'⟩
    | _ => exact q.elim
/-! ### a local name that holds a def -/
def mCallL (i : Nat) (CA : Addr → Option Con) (mr : MA) : ME := fun env S Q => match lk env i with
  | some (.adr f) => ∃ C, CA f = some C ∧ mr env S fun ws S1 => conR C ws S1 Q
  | _ => False
theorem e_callL {i k : Nat} {x : Str} {CA : Addr → Option Con} (HC : ∀ f C, CA f = some C → Held X.prog X.w X.K X.mg X.base k f (spOf X.K Tb C)) (hr : Room k X.A) (ha : EA X Tb (e :: es) mr) (hN : X.N[i]? = some x := by rfl) (hv : Vis X.env.scope x := by first | exact Or.inl rfl | exact Or.inr (Or.inl rfl) | exact Or.inr (Or.inr rfl))
    (hdb : (x == ("__debug__" : Str)) = false := by decide) (hcd : (x == ("__classdict__" : Str)) = false := by decide) (he : starEach (e :: es) X.env = (false, eval e X.env) :: starEach es X.env := by rfl) (hpl : (backTo pos (starEach es X.env)).any (·.1) = false := by rfl) :
    EE X Tb (.Call (.Name x p) (e :: es) [] pos) (mCallL i CA mr) := by
  refine ⟨pe_imp (pe_callA (S := fun f => (CA f).map (spOf X.K Tb)) (fun f sp h => ?_) hr hN hv ha.pa hdb hcd he hpl) fun σ H Q q => ?_, fun env S Q Q' k q => ?_⟩
  · cases hC : CA f with
    | none => rw [hC] at h; cases h
    | some C =>
      rw [hC] at h
      cases h
      exact HC f C hC
  · obtain ⟨ι, env, S, s, er, q⟩ := q
    unfold mCallL at q
    cases el : lk env i with
    | none => rw [el] at q; exact q.elim
    | some w =>
      rw [el] at q
      cases w with
      | adr f =>
        obtain ⟨C, hC, q⟩ := q
        obtain ⟨v, h1, h2⟩ := er.at_ i _ (lk_at el)
        obtain rfl : v = .ref f := h2
        refine ⟨f, spOf X.K Tb C, h1, (by show Option.map (spOf X.K Tb) (CA f) = _; rw [hC]; rfl), ι, env, S, s, er, ha.mono _ _ _ _ (fun ws S1 z ι1 H1 vs s1 g1 r1 => ?_) q⟩
        obtain ⟨a, hp, hq⟩ := z
        exact ⟨ι1, ws, S1, a, s1, r1, hp, fun w S' po ι2 H2 v s2 g2 r2 => hq w S' po ι2 H2 v s2 (g1.trans g2) r2⟩
      | _ => exact q.elim
  · unfold mCallL at q ⊢
    cases el : lk env i with
    | none => rw [el] at q; exact q.elim
    | some w =>
      rw [el] at q
      cases w with
      | adr f =>
        obtain ⟨C, hC, z⟩ := q
        exact ⟨C, hC, ha.mono _ _ _ _ (fun ws S1 y => conR_mono _ _ _ _ k y) z⟩
      | _ => exact q.elim
theorem held_of {P : Program} {w : World} {K : PySem.W.Frag} {mg : Str → Option Value} {base : Heap} {x : Str} {ps : List Str} {k : Nat} {C : Con} {f : Addr} (D : Dn P w K mg base Tb x ps k C) (g : mg x = some (.ref f)) : Held P w K mg base k f (spOf K Tb C) := by
  obtain ⟨f', fd, F, gf, kf, bf⟩ := D.ex
  rw [g] at gf
  cases gf
  exact ⟨fd, ps, F, kf, bf⟩
end
end Ev

set_option Elab.async false
set_option linter.all false
set_option maxRecDepth 100000
set_option maxHeartbeats 1000000
/-! Meanings, read: stores that only grow, pure elements. -/
namespace Ev
open PySem PySem.Spec PyProof.Rows L2 Ow
def Ex (S S' : Store) : Prop := ∃ more, S' = S ++ more
theorem Ex.refl {S : Store} : Ex S S := ⟨[], by simp⟩
theorem Ex.trans {A B C : Store} (a : Ex A B) (b : Ex B C) : Ex A C := by
  obtain ⟨m, rfl⟩ := a
  obtain ⟨n, rfl⟩ := b
  exact ⟨m ++ n, by rw [List.append_assoc]⟩
theorem Ex.one {S : Store} {o : O} : Ex S (S ++ [o]) := ⟨[o], rfl⟩
theorem Ex.at {S S' : Store} (h : Ex S S') {n : Nat} {o : O} (e : S[n]? = some o) : S'[n]? = some o := by
  obtain ⟨m, rfl⟩ := h
  rw [List.getElem?_append_left (List.getElem?_eq_some_iff.mp e).1]
  exact e
theorem Ex.len {S S' : Store} (h : Ex S S') : S.length ≤ S'.length := by
  obtain ⟨m, rfl⟩ := h
  rw [List.length_append]
  omega
theorem new_at (S : Store) (o : O) : (S ++ [o])[S.length]? = some o := by
  rw [List.getElem?_append_right (Nat.le_refl _), Nat.sub_self]
  rfl
theorem new_set (S : Store) (o o' : O) (m : Store) : (S ++ [o] ++ m).set S.length o' = S ++ [o'] ++ m := by
  rw [List.append_assoc, List.append_assoc, List.set_append_right _ _ (Nat.le_refl _), Nat.sub_self]
  rfl
theorem Ex.new {S S' : Store} {o : O} (h : Ex (S ++ [o]) S') : Ex S S' ∧ S'[S.length]? = some o := ⟨Ex.one.trans h, h.at (new_at S o)⟩
/-- the store is as S0 but for what is new, and for the objects ns -/
theorem set_len {S : Store} {n : Nat} {o : O} : (S.set n o).length = S.length := by simp
theorem allL_ex {chk : Store → Prop} {mg : MG} {te : ME} {env : EvS} {Q : WK} {S0 : Store} (p : W → Bool) (E : W → EvS) (hc : ∀ S, Ex S0 S → chk S) :
    ∀ (ws : List W), (∀ w ∈ ws, ∀ (S : Store) (R : EvS → Store → Prop), R (E w) S → mg w env S R) → (∀ w ∈ ws, ∀ (S : Store) (k : WK), Ex S0 S → (∀ S', Ex S S' → k (.bl (p w)) S') → te (E w) S k) →
      (∀ S', Ex S0 S' → Q (.bl (ws.all p)) S') → ∀ S, Ex S0 S → allL chk mg te env Q ws S
  | [], _, _, q, S, h => ⟨hc S h, q S h⟩
  | w :: r, hg, he, q, S, h => ⟨hc S h, hg w List.mem_cons_self _ _ (he w List.mem_cons_self _ _ h fun S' h' => by
    show if p w = true then _ else _
    cases hp : p w with
    | true =>
      refine iteT (allL_ex p E hc r (fun x hx => hg x (List.mem_cons_of_mem _ hx)) (fun x hx => he x (List.mem_cons_of_mem _ hx)) (fun S2 h2 => ?_) S' (h.trans h'))
      have := q S2 h2
      rw [List.all_cons, hp, Bool.true_and] at this
      exact this
    | false =>
      refine iteF ?_
      have := q S' (h.trans h')
      rw [List.all_cons, hp, Bool.false_and] at this
      exact this)⟩
theorem lcL_ex {chk : Store → Prop} {mg : MG} {tt : MT} {te : ME} {env : EvS} {Q : WK} {S0 : Store} (t : W → Bool) (v : W → W) (E : W → EvS) (hc : ∀ S, Ex S0 S → chk S) :
    ∀ (ws : List W) (acc : List W), acc.length + ws.length ≤ sizeLine → (∀ w ∈ ws, ∀ (S : Store) (R : EvS → Store → Prop), R (E w) S → mg w env S R) → (∀ w ∈ ws, ∀ (S : Store) (k : Bool → Store → Prop), Ex S0 S → (∀ S', Ex S S' → k (t w) S') → tt (E w) S k) →
      (∀ w ∈ ws, t w = true → ∀ (S : Store) (k : WK), Ex S0 S → (∀ S', Ex S S' → k (v w) S') → te (E w) S k) →
      (∀ S', Ex (S0 ++ [.lst (acc ++ (ws.filter t).map v)]) S' → Q (.ref S0.length) S') → ∀ S, Ex (S0 ++ [.lst acc]) S → lcL chk mg tt te S0.length env Q ws S
  | [], acc, _, _, _, _, q, S, h => ⟨hc S (Ex.one.trans h), q S (by simpa using h)⟩
  | w :: r, acc, hl, hg, ht, he, q, S, h => ⟨hc S (Ex.one.trans h), hg w List.mem_cons_self _ _ (ht w List.mem_cons_self _ _ (Ex.one.trans h) fun S1 h1 => by
    have hl' : (acc.length + r.length) + 1 ≤ sizeLine := by rw [List.length_cons] at hl; omega
    cases hp : t w with
    | true =>
      refine iteT (he w List.mem_cons_self hp _ _ ((Ex.one.trans h).trans h1) fun S2 h2 => ?_)
      have h3 := (h.trans h1).trans h2
      refine ⟨acc, (h3.new).2, by omega, ?_⟩
      obtain ⟨m, rfl⟩ := h3
      rw [new_set]
      refine lcL_ex t v E hc r (acc ++ [v w]) (by rw [List.length_append, List.length_singleton]; omega) (fun x hx => hg x (List.mem_cons_of_mem _ hx)) (fun x hx => ht x (List.mem_cons_of_mem _ hx)) (fun x hx => he x (List.mem_cons_of_mem _ hx)) (fun S2 h2 => ?_) _ ⟨m, rfl⟩
      refine q S2 ?_
      rw [List.filter_cons_of_pos hp, List.map_cons]
      simpa using h2
    | false =>
      refine iteF (lcL_ex t v E hc r acc (by omega) (fun x hx => hg x (List.mem_cons_of_mem _ hx)) (fun x hx => ht x (List.mem_cons_of_mem _ hx)) (fun x hx => he x (List.mem_cons_of_mem _ hx)) (fun S2 h2 => ?_) _ (h.trans h1))
      refine q S2 ?_
      rw [List.filter_cons_of_neg (by rw [hp]; decide)]
      exact h2)⟩
mutual
/-- data: nothing but values, tuples and lists -/
def dat (S : Store) : W → Prop
  | .non => True
  | .bl _ => True
  | .int _ => True
  | .str z => z.length ≤ sizeLine
  | .tup l => l.length ≤ sizeLine ∧ dats S l
  | .cl _ => True
  | .ref n => ∃ l, S[n]? = some (.lst l)
  | .adr _ => False
  | .ty _ => False
def dats (S : Store) : List W → Prop
  | [] => True
  | w :: r => dat S w ∧ dats S r
end
mutual
theorem dat.ex {S S' : Store} (h : Ex S S') : ∀ {w : W}, dat S w → dat S' w
  | .non, _ => trivial
  | .bl _, _ => trivial
  | .int _, _ => trivial
  | .str _, q => q
  | .tup l, q => ⟨q.1, dats.ex h q.2⟩
  | .cl _, _ => trivial
  | .ref n, ⟨l, e⟩ => ⟨l, h.at e⟩
  | .adr _, q => q.elim
  | .ty _, q => q.elim
theorem dats.ex {S S' : Store} (h : Ex S S') : ∀ {l : List W}, dats S l → dats S' l
  | [], _ => trivial
  | _ :: _, q => ⟨dat.ex h q.1, dats.ex h q.2⟩
end
theorem dats.at {S : Store} : ∀ {l : List W} {i : Nat} {w : W}, dats S l → l[i]? = some w → dat S w
  | _ :: _, 0, _, q, e => by cases e; exact q.1
  | _ :: _, i + 1, w, q, e => dats.at (i := i) (w := w) q.2 e
theorem dats.mem {S : Store} {l : List W} {w : W} (q : dats S l) (h : w ∈ l) : dat S w := by
  obtain ⟨i, e⟩ := List.getElem?_of_mem h
  exact q.at e
def isTup : W → Bool
  | .tup _ => true
  | _ => false
def isStr : W → Bool
  | .str _ => true
  | _ => false
def isInt : W → Bool
  | .int _ => true
  | .bl _ => true
  | _ => false
def isBl : W → Bool
  | .bl _ => true
  | _ => false
theorem ty_dat {S : Store} {w : W} (h : dat S w) : ∃ t, tyW S w = some t ∧ subTy t "tuple" = isTup w ∧ subTy t "str" = isStr w ∧ subTy t "int" = isInt w ∧ subTy t "bool" = isBl w := by
  cases w with
  | non => exact ⟨_, rfl, by (first | (show subTy _ _ = true; decide) | (show subTy _ _ = false; decide)), by (first | (show subTy _ _ = true; decide) | (show subTy _ _ = false; decide)), by (first | (show subTy _ _ = true; decide) | (show subTy _ _ = false; decide)), by (first | (show subTy _ _ = true; decide) | (show subTy _ _ = false; decide))⟩
  | bl b => exact ⟨_, rfl, by (first | (show subTy _ _ = true; decide) | (show subTy _ _ = false; decide)), by (first | (show subTy _ _ = true; decide) | (show subTy _ _ = false; decide)), by (first | (show subTy _ _ = true; decide) | (show subTy _ _ = false; decide)), by (first | (show subTy _ _ = true; decide) | (show subTy _ _ = false; decide))⟩
  | int i => exact ⟨_, rfl, by (first | (show subTy _ _ = true; decide) | (show subTy _ _ = false; decide)), by (first | (show subTy _ _ = true; decide) | (show subTy _ _ = false; decide)), by (first | (show subTy _ _ = true; decide) | (show subTy _ _ = false; decide)), by (first | (show subTy _ _ = true; decide) | (show subTy _ _ = false; decide))⟩
  | str x => exact ⟨_, rfl, by (first | (show subTy _ _ = true; decide) | (show subTy _ _ = false; decide)), by (first | (show subTy _ _ = true; decide) | (show subTy _ _ = false; decide)), by (first | (show subTy _ _ = true; decide) | (show subTy _ _ = false; decide)), by (first | (show subTy _ _ = true; decide) | (show subTy _ _ = false; decide))⟩
  | tup l => exact ⟨_, rfl, by (first | (show subTy _ _ = true; decide) | (show subTy _ _ = false; decide)), by (first | (show subTy _ _ = true; decide) | (show subTy _ _ = false; decide)), by (first | (show subTy _ _ = true; decide) | (show subTy _ _ = false; decide)), by (first | (show subTy _ _ = true; decide) | (show subTy _ _ = false; decide))⟩
  | cl l => exact ⟨_, rfl, by (first | (show subTy _ _ = true; decide) | (show subTy _ _ = false; decide)), by (first | (show subTy _ _ = true; decide) | (show subTy _ _ = false; decide)), by (first | (show subTy _ _ = true; decide) | (show subTy _ _ = false; decide)), by (first | (show subTy _ _ = true; decide) | (show subTy _ _ = false; decide))⟩
  | ref n =>
    obtain ⟨l, e⟩ := h
    refine ⟨"list", ?_, by (first | (show subTy _ _ = true; decide) | (show subTy _ _ = false; decide)), by (first | (show subTy _ _ = true; decide) | (show subTy _ _ = false; decide)), by (first | (show subTy _ _ = true; decide) | (show subTy _ _ = false; decide)), by (first | (show subTy _ _ = true; decide) | (show subTy _ _ = false; decide))⟩
    show tyO S[n]? = _
    rw [e]
    rfl
  | adr a => exact h.elim
  | ty n => exact h.elim
/-- isinstance(x, c) -/
theorem isi_tup {S : Store} {w : W} {Q : WK} (h : dat S w) (q : Q (.bl (isTup w)) S) : wIsi [w, .ty "tuple"] S Q := by
  obtain ⟨t, e, a, b, c, d⟩ := ty_dat h
  refine ⟨by decide, ?_⟩
  rw [e]
  show Q (.bl (subTy t "tuple")) S
  rw [a]
  exact q
theorem isi_str {S : Store} {w : W} {Q : WK} (h : dat S w) (q : Q (.bl (isStr w)) S) : wIsi [w, .ty "str"] S Q := by
  obtain ⟨t, e, a, b, c, d⟩ := ty_dat h
  refine ⟨by decide, ?_⟩
  rw [e]
  show Q (.bl (subTy t "str")) S
  rw [b]
  exact q
theorem isi_int {S : Store} {w : W} {Q : WK} (h : dat S w) (q : Q (.bl (isInt w)) S) : wIsi [w, .ty "int"] S Q := by
  obtain ⟨t, e, a, b, c, d⟩ := ty_dat h
  refine ⟨by decide, ?_⟩
  rw [e]
  show Q (.bl (subTy t "int")) S
  rw [c]
  exact q
theorem isi_bl {S : Store} {w : W} {Q : WK} (h : dat S w) (q : Q (.bl (isBl w)) S) : wIsi [w, .ty "bool"] S Q := by
  obtain ⟨t, e, a, b, c, d⟩ := ty_dat h
  refine ⟨by decide, ?_⟩
  rw [e]
  show Q (.bl (subTy t "bool")) S
  rw [d]
  exact q
/-- a def that tells f of data: the store may have grown -/
def Pur (n : Nat) (dom : List W → Prop) (f : List W → W) : Con := ⟨List W, fun a ws S => ws = a ∧ a.length = n ∧ dom a ∧ dats S a, fun a S w S' => w = f a ∧ Ex S S'⟩
theorem pur_call {n : Nat} {dom : List W → Prop} {f : List W → W} {ws : List W} {S : Store} {Q : WK} (hn : ws.length = n) (hd : dom ws) (hs : dats S ws) (q : ∀ S', Ex S S' → Q (f ws) S') : conR (Pur n dom f) ws S Q :=
  ⟨ws, ⟨rfl, hn, hd, hs⟩, fun w S' ⟨e, x⟩ => by rw [e]; exact q S' x⟩
end Ev

set_option Elab.async false
set_option linter.all false
set_option maxRecDepth 100000
set_option maxHeartbeats 2000000
/-! The end of a law: the head's facts by one run, defs with tables, the walk. -/
namespace Ev
open PySem PySem.Spec PyProof.Rows L2 Ow
/-- no empty table of a code object -/
def noTab (g : Addr → Option Obj) (a : Addr) : Bool := match g a with
  | some ⟨.none, none, .fields vs, sl⟩ => !(vs.isEmpty && sl.isEmpty)
  | _ => true
def frZ (n : Nat) (g : Addr → Option Obj) : PySem.W.Frag := He.frG g ((He.asD g n).filter (noTab g))
structure Hd where
  n : Nat
  fa : List He.Fa
  fn : List He.DefD
  ts : List He.Tab
  ex : PySem.W.Frag → Bool
abbrev AlZ : Type := He.AlT × Bool
def Hd.obs (d : Hd) (K : PySem.W.Frag) : AlZ := (He.obsT d.fa d.fn d.ts K, d.ex K)
def Hd.val (d : Hd) (w : World) : AlZ := (He.valT d.fn d.ts w, true)
def Hd.obsG (d : Hd) (g : Addr → Option Obj) : AlZ := d.obs (frZ d.n g)
def Hd.says (d : Hd) (w : World) (K : PySem.W.Frag) : Prop := d.obs K = d.val w
def Hd.hook (d : Hd) : PySem.W.Hook where
  α := AlZ
  obs := fun s => d.obsG s.heap.get?
  val := fun w => d.val w
  says := fun w h => ∃ K : PySem.W.Frag, K.In h ∧ d.says w K
  of := fun _ _ e => ⟨_, He.frG_in, e⟩
  keeps := fun _ _ _ ⟨K, hK, c⟩ k => ⟨K, PySem.W.Frag.In.keeps hK k, c⟩
theorem Hd.obs_eq {d : Hd} {g : Addr → Option Obj} {s : Shared} (h : ∀ a, g a = s.heap.get? a) : d.obsG g = d.hook.obs s := by
  have e : g = s.heap.get? := funext h
  rw [e] <;> rfl
section
variable {d : Hd} {w : World} {K : PySem.W.Frag}
theorem Hd.says.t (c : d.says w K) : He.SaysT d.fa d.fn d.ts w K := congrArg (fun z : AlZ => z.1) c
theorem Hd.says.x (c : d.says w K) : d.ex K = true := congrArg (fun z : AlZ => z.2) c
theorem Hd.says.fact (c : d.says w K) (i : Nat) {f : He.Fa} (h : d.fa[i]? = some f := by rfl) : f.ok K = true := c.t.d.fact i h
theorem Hd.says.def_ (c : d.says w K) (i : Nat) {e : He.DefD} (h : d.fn[i]? = some e := by rfl) : ∃ fd, FunD K e.name e.qual e.params e.body e.scope (e.dvs K) (e.kws K) (He.fAd K e.at_) fd := c.t.d.def_ i h
end
/-! ### a written dict from texts to defs -/
def lkS : List (Str × Addr) → Str → Option Addr
  | [], _ => none
  | (k, a) :: r, z => if z = k then some a else lkS r z
theorem lkS_some : ∀ {l : List (Str × Addr)} {z : Str} {a : Addr}, lkS l z = some a → (z, a) ∈ l
  | (k, b) :: r, z, a, h => by
    unfold lkS at h
    by_cases e : z = k
    · rw [if_pos e] at h
      cases h
      rw [e]
      exact List.mem_cons_self
    · rw [if_neg e] at h
      exact List.mem_cons_of_mem _ (lkS_some h)
theorem lkS_none : ∀ {l : List (Str × Addr)} {z : Str}, lkS l z = none → ∀ p ∈ l, p.1 ≠ z
  | (k, b) :: r, z, h, p, hp => by
    unfold lkS at h
    by_cases e : z = k
    · rw [if_pos e] at h
      cases h
    · rw [if_neg e] at h
      rcases List.mem_cons.mp hp with rfl | hp
      · exact Ne.symm e
      · exact lkS_none h p hp
theorem find_no {z : Str} {P : Params} : ∀ {l : List DictEntry} {ks : List Str}, l.map He.keyOf = He.keysIn P ks → z ∉ ks → l.find? (·.key.isStr z) = none ∧ l.any (·.refKey) = false
  | [], _, _, _ => ⟨rfl, rfl⟩
  | e :: r, [], h, _ => by cases h
  | e :: r, k :: ks, h, hz => by
    have h1 : He.keyOf e :: r.map He.keyOf = some (k, PyData.keyHash P k) :: He.keysIn P ks := h
    injection h1 with h2 h3
    obtain ⟨a, b⟩ := find_no h3 fun q => hz (List.mem_cons_of_mem _ q)
    unfold He.keyOf at h2
    cases ek : e.key with
    | str x t =>
      rw [ek] at h2
      have h4 := (Prod.mk.inj (Option.some.inj h2)).1
      have nx : x ≠ z := fun q => hz (by rw [← q, h4]; exact List.mem_cons_self)
      refine ⟨?_, ?_⟩
      · rw [List.find?_cons_of_neg, a]
        rw [ek]
        show ¬ (x == z) = true
        simpa using nx
      · rw [List.any_cons, b, Bool.or_false]
        unfold DictEntry.refKey
        rw [ek]
    | _ => rw [ek] at h2; cases h2
theorem kd_of {w : World} {K : PySem.W.Frag} {h : Heap} {mg : Str → Option Value} {x : Str} {kvs : List (Str × Str)} (X : K.In h) (G : h.Ns mainGlobals mg) (hg : (He.Fa.glo x).ok K = true) (hd : He.dicW K (He.ga K x) = some (He.keysIn w.params (kvs.map (·.1)))) (hv : He.valsB K (He.ga K x) (kvs.map fun q => (q.1, He.Dv.glo q.2)) = true) :
    KD K w mg x (lkS (kvs.map fun q => (q.1, He.ga K q.2))) := by
  obtain ⟨es, n, D⟩ := He.dicW_ok hd
  refine ⟨He.ga K x, es, n, He.glo_ok X G hg, D, fun z => ?_⟩
  cases e : lkS (kvs.map fun q => (q.1, He.ga K q.2)) z with
  | some a =>
    obtain ⟨q, hq, e2⟩ := List.mem_map.mp (lkS_some e)
    have := He.valsB_ok hv (q := (q.1, He.Dv.glo q.2)) (List.mem_map.mpr ⟨q, hq, rfl⟩)
    obtain ⟨u, h1, h2⟩ := this
    cases e2
    rw [h1]
    have h3 : RelV (.ref (He.ga K q.2)) u := h2
    cases u <;> first | cases h3 | skip
    rfl
  | none =>
    have nz : z ∉ kvs.map (·.1) := fun hz => by
      obtain ⟨q, hq, e2⟩ := List.mem_map.mp hz
      exact lkS_none e (q.1, He.ga K q.2) (List.mem_map.mpr ⟨q, hq, rfl⟩) e2
    have l2 : es.toList.map He.keyOf = He.keysIn w.params (kvs.map (·.1)) := by
      unfold He.dicW at hd
      rw [D.at_] at hd
      have : (match decide ("dict" = "dict") && ((#[] : Array (Option Value)).isEmpty && !(He.ga K x == sysModules)) with
        | true => some (es.toList.map He.keyOf)
        | false => none) = some (He.keysIn w.params (kvs.map (·.1))) := hd
      rw [D.low] at this
      exact Option.some.inj this
    obtain ⟨f1, f2⟩ := find_no l2 nz
    unfold PySem.W.nsIn
    rw [D.at_]
    show (match es.toList.find? (·.key.isStr z) with
      | some e => some (some e.val)
      | none => if es.toList.any (·.refKey) then none else some none) = _
    rw [f1, f2]
    rfl
/-! ### the table of a def's code -/
def tabAt (K : PySem.W.Frag) (x : Str) : Addr × Addr := match PySem.W.tabIn K x with
  | some p => p
  | none => (0, 0)
/-- the def x has code with a table, which K doesn't hold -/
def tabOk (K : PySem.W.Frag) (x : Str) : Bool := match PySem.W.tabIn K x with
  | some p => (K.lookup p.2).isNone
  | none => false
theorem tabOk_in {K : PySem.W.Frag} {x : Str} (h : tabOk K x = true) : PySem.W.tabIn K x = some (tabAt K x) ∧ K.lookup (tabAt K x).2 = none := by
  unfold tabOk at h
  unfold tabAt
  cases e : PySem.W.tabIn K x with
  | none => rw [e] at h; cases h
  | some p =>
    rw [e] at h
    exact ⟨rfl, Option.isNone_iff_eq_none.mp h⟩
section
variable {P : Program} {w : World} {K : PySem.W.Frag} {mg : Str → Option Value} {base : Heap} {Tb : List Addr} {x qual : Str} {st : Stmt} {f : Addr} {fd : FuncData} {N ps : List Str} {k : Nat} {C : Con} {m : MS}
abbrev FnP (K : PySem.W.Frag) (x : Str) (st : Stmt) (f : Addr) (fd : FuncData) : Prop := FunD K x x (defArgs st) (defBody st) (defScope st) [] [] f fd
theorem fz_of (F : FnP K x st f fd) (Sc : FnScope N ps (defScope st)) (len : ∀ a ws S, C.pre a ws S → ws.length = ps.length)
    (hm : ∀ (cdv : Value) (A : Around) (outer : List Env) (s : Shared) (H : Hp) (E : XK), Room k (A.deeper (envOfC x (defScope st) s.heap.objs.size f cdv)) → ESs (cxOf CX0 P w K mg base N x (defScope st) f cdv A outer s H E).nox Tb (defBody st) m)
    (vc : ∀ a ws S, C.pre a ws S → m { nx := fun _ S' => C.post a S .non S', rt := fun w S' => C.post a S w S' } (stE N.length ws) S) : FnOk P w K mg base CX0 (k + 1) f fd ps (spOf K Tb C) := by
  refine F.ok Sc (fun vs H Q E h => ?_) (fun cdv A outer s H vs Q E hr h => ?_)
  · obtain ⟨ι, ws, S, a, s, r, hp, _⟩ := h
    rw [r.len, len a ws S hp]
  · obtain ⟨ι, ws, S, a, si, r, hp, q⟩ := h
    have hm' := hm cdv A outer s H E hr
    exact ⟨_, hm'.ps.nox, sp_body (X := (cxOf CX0 P w K mg base N x (defScope st) f cdv A outer s H E).nox) hm' rfl si r hp q vc⟩
theorem dz_of (F : FnP K x st f fd) (g : mg x = some (.ref f)) (b : Binds K fd ps []) (Sc : FnScope N ps (defScope st)) (len : ∀ a ws S, C.pre a ws S → ws.length = ps.length)
    (hm : ∀ (cdv : Value) (A : Around) (outer : List Env) (s : Shared) (H : Hp) (E : XK), Room k (A.deeper (envOfC x (defScope st) s.heap.objs.size f cdv)) → ESs (cxOf CX0 P w K mg base N x (defScope st) f cdv A outer s H E).nox Tb (defBody st) m)
    (vc : ∀ a ws S, C.pre a ws S → m { nx := fun _ S' => C.post a S .non S', rt := fun w S' => C.post a S w S' } (stE N.length ws) S) : Dn P w K mg base Tb x ps (k + 1) C :=
  ⟨f, fd, fz_of F Sc len hm vc, g, F.kp, b⟩
/-- a contract that asks what never is -/
def NoC : Con := ⟨Unit, fun _ _ _ => False, fun _ _ _ _ => True⟩
theorem dz_no (F : FnP K x st f fd) (g : mg x = some (.ref f)) (b : Binds K fd ps []) (Sc : FnScope N ps (defScope st)) (C : Con) (h : ∀ a ws S, ¬ C.pre a ws S) : Dn P w K mg base Tb x ps (k + 1) C :=
  ⟨f, fd, F.ok Sc (fun vs H Q E z => by
    obtain ⟨ι, ws, S, a, s, r, hp, _⟩ := z
    exact (h a ws S hp).elim) (fun cdv A outer s H vs Q E hr z => by
    obtain ⟨ι, ws, S, a, s, r, hp, _⟩ := z
    exact (h a ws S hp).elim), g, F.kp, b⟩
/-- .. whose code is at c -/
theorem dz_ofC {c T : Addr} (F : FnP K x st f fd) (g : mg x = some (.ref f)) (ht : PySem.W.tabIn K x = some (c, T)) (ga : PySem.W.nsIn K mainGlobals x = some (some (.ref f))) (b : Binds K fd ps []) (Sc : FnScope N ps (defScope st)) (len : ∀ a ws S, C.pre a ws S → ws.length = ps.length)
    (hm : ∀ (A : Around) (outer : List Env) (s : Shared) (H : Hp) (E : XK), Room k (A.deeper (envOfC x (defScope st) s.heap.objs.size f (.ref c))) → ESs (cxOf CX0 P w K mg base N x (defScope st) f (.ref c) A outer s H E).nox Tb (defBody st) m)
    (vc : ∀ a ws S, C.pre a ws S → m { nx := fun _ S' => C.post a S .non S', rt := fun w S' => C.post a S w S' } (stE N.length ws) S) : Dn P w K mg base Tb x ps (k + 1) C := by
  obtain ⟨oc, od, dV, kV, doc, pm, an, cdv, ct, osl, rfl, lk, hcd, hD, hK⟩ := F.ex
  have e : cdv = .ref c := by
    unfold PySem.W.tabIn at ht
    rw [ga] at ht
    simp only [lk] at ht
    cases cdv with
    | ref a =>
      have ht : (match K.lookup a with
        | some ⟨_, _, .fields vs, _⟩ => (match (vs[11]? : Option Value) with
          | some (.ref P) => some (a, P)
          | _ => none)
        | _ => none) = some (c, T) := ht
      split at ht
      · split at ht
        · cases ht; rfl
        · cases ht
      · cases ht
    | _ => cases ht
  subst e
  refine ⟨f, _, fn_of lk hcd Sc (fun vs H Q E h => ?_) (fun A outer s H vs Q E hr h => ?_), g, F.kp, b⟩
  · obtain ⟨ι, ws, S, a, s, r, hp, _⟩ := h
    rw [r.len, len a ws S hp]
  · obtain ⟨ι, ws, S, a, si, r, hp, q⟩ := h
    have hm' := hm A outer s H E hr
    exact ⟨_, hm'.ps.nox, sp_body (X := (cxOf CX0 P w K mg base N x (defScope st) f (.ref c) A outer s H E).nox) hm' rfl si r hp q vc⟩
end
/-- a law's contract at the start: the script in a list of numbers -/
def LawC : Con := ⟨W × List Int, fun (x, l) ws S => ws = [x] ∧ seqW x S = some (l.map W.int) ∧ l.length ≤ 63 ∧ ∀ z ∈ l, Builtin.Int.intBits z ≤ 1048576, fun _ _ w _ => w = .bl true⟩
theorem vrs_ints {K : PySem.W.Frag} {ι : List Addr} {H : Hp} : ∀ ns : List Int, VRs K ι H (ns.map W.int) (ns.map V.int)
  | [] => rfl
  | n :: ns => ⟨_, _, rfl, rfl, vrs_ints ns⟩
/-- the law's promise at the start -/
theorem start_law {K : PySem.W.Frag} {H : Hp} {a : Addr} {ns : List Int} {tabs : List Str} (hH : ∀ p ∈ tabs.map fun x => tabAt K x, H p.2 = some (.tbl #[])) (hS : SqL K H a (ns.map V.int)) (hlen : ns.length ≤ 63) (hbits : ∀ z ∈ ns, Builtin.Int.intBits z ≤ 1048576) :
    spOf K (tabs.map fun x => (tabAt K x).2) LawC [.ref a] H (fun v _ => v = .bl true) fun _ _ _ => False := by
  have tg : ∀ T ∈ tabs.map fun x => (tabAt K x).2, GxR.TabG H T := fun T hT => by
    obtain ⟨x, hx', rfl⟩ := List.mem_map.mp hT
    exact ⟨#[], hH _ (List.mem_map.mpr ⟨x, hx', rfl⟩), trivial⟩
  have fz : FzL K H a (ns.map V.int) → spOf K (tabs.map fun x => (tabAt K x).2) LawC [.ref a] H (fun v _ => v = .bl true) fun _ _ _ => False := fun h =>
    ⟨[], [.cl (ns.map W.int)], [], (.cl (ns.map W.int), ns), ⟨rfl, List.nodup_nil, fun n o e => by simp at e, tg⟩, ⟨.ref a, [], rfl, ⟨a, _, rfl, h, vrs_ints ns⟩, rfl⟩, ⟨rfl, rfl, hlen, hbits⟩, fun w S' e ι' H' v _ _ r => by
      have e : w = .bl true := e
      subst e
      exact r⟩
  rcases hS with (h | ⟨o, h⟩) | h
  · exact ⟨[a], [.ref 0], [.lst (ns.map W.int)], (.ref 0, ns), ⟨rfl, by simp, fun n o e => by
      cases n with
      | zero => cases e; exact ⟨a, rfl, _, h, vrs_ints ns⟩
      | succ n => simp at e, tg⟩, ⟨.ref a, [], rfl, ⟨a, rfl, rfl⟩, rfl⟩, ⟨rfl, rfl, hlen, hbits⟩, fun w S' e ι' H' v _ _ r => by
      have e : w = .bl true := e
      subst e
      exact r⟩
  · exact fz (.inl ⟨o, h⟩)
  · exact fz (.inr h)
open LamX in
theorem walk_z {l : PySem.W.OpenLaw} {k : Nat} {q : Program} {loose : List Str} {XP : (Str → Option Value) → Heap → Prop} {d : DefRec} {hd : Hd} (tabs : List Str) (tr : List DefRec) (hT : ∀ x ∈ tabs, ∃ d', (recsOf q).find? (fun e => e.name == x) = some d')
    (hn : l.most = some 63) (hdf : d.params.defaults = []) (hr : Room k callerA) (hx : ∀ K, hd.ex K = true → ∀ x ∈ tabs, tabOk K x = true)
    (F : ∀ (w : World) (mg : Str → Option Value) (fa : Addr) (h : Heap) (K : PySem.W.Frag), K.In h → hd.says w K → h.Ns mainGlobals mg → mg d.name = some (.ref fa) →
      ∃ fd : FuncData, (∀ (s : Shared) (u : Value), BindsTo s fd ⟨[u], []⟩ [("script", u)]) ∧ ∀ base : Heap, K.In base → base.Ns mainGlobals mg → (∀ x ∈ tabs, GxR.TabB base mg (tabAt K x).1 (tabAt K x).2) →
        FnOk l.prog w K mg base CX0 k fa fd ["script"] (spOf K (tabs.map fun x => (tabAt K x).2) LawC)) :
    PySem.W.WalkO q loose XP hd.hook.says l.row.toRowW d [] (fun f vs => PySem.call f vs) := by
  refine Att.attach_callB hn hdf fun w s₀ s₁ mg mb fa o pm cd doc a vs ns G Y ho hd' hcd hmg hobj hints hlen hbits hg => ?_
  obtain ⟨K, KX, c⟩ := Y
  have hx := hx K c.x
  obtain ⟨fd, hb, hF⟩ := F w mg fa _ K KX c G.T.g hmg
  have tab : ∀ x ∈ tabs, PySem.W.CodeHd s₁.heap (tabAt K x).1 (tabAt K x).2 ∧ s₁.heap.get? (tabAt K x).2 = some { cls := .none, data := .fields #[] } := fun x h => by
    obtain ⟨d', e⟩ := hT x h
    exact PySem.W.tab_of G.T KX e (tabOk_in (hx x h)).1
  refine law_callTs (CX := CX0) (cs := tabs.map fun x => tabAt K x) (sp := spOf K (tabs.map fun x => (tabAt K x).2) LawC) KX G.T.g G.T.b G.T.builtins G.T.nolimit hg (fun p hp => ?_) (fun p hp => ?_) (fun p hp => ?_) G.T.bmain hobj hints (Nat.le_trans hlen (by decide)) hr (fun base kb nb tb => ?_) hb (fun H hH hS => ?_) fun H e s' z => z
  · obtain ⟨x, hx', rfl⟩ := List.mem_map.mp hp
    exact (tab x hx').2
  · obtain ⟨x, hx', rfl⟩ := List.mem_map.mp hp
    exact (tabOk_in (hx x hx')).2
  · obtain ⟨x, hx', rfl⟩ := List.mem_map.mp hp
    exact (tab x hx').1
  · exact hF base kb nb fun x h => tabB (tb _ (List.mem_map.mpr ⟨x, h, rfl⟩))
  · exact start_law hH hS hlen hbits
/-! .. over a head that was walked -/
open LamX in
theorem walk_y {l : PySem.W.OpenLaw} {k : Nat} {q : Program} {loose : List Str} {XP : (Str → Option Value) → Heap → Prop} {YP : World → Heap → Prop} {d : DefRec} {hd : Hd} {KF : Params → PySem.W.Frag} (hY : ∀ (w : World) (h : Heap), YP w h → (KF w.params).In h) (hS : ∀ w : World, hd.says w (KF w.params)) (tabs : List Str) (tr : List DefRec) (hT : ∀ x ∈ tabs, ∃ d', (recsOf q).find? (fun e => e.name == x) = some d')
    (hn : l.most = some 63) (hdf : d.params.defaults = []) (hr : Room k callerA) (hx : ∀ K, hd.ex K = true → ∀ x ∈ tabs, tabOk K x = true)
    (F : ∀ (w : World) (mg : Str → Option Value) (fa : Addr) (h : Heap) (K : PySem.W.Frag), K.In h → hd.says w K → h.Ns mainGlobals mg → mg d.name = some (.ref fa) →
      ∃ fd : FuncData, (∀ (s : Shared) (u : Value), BindsTo s fd ⟨[u], []⟩ [("script", u)]) ∧ ∀ base : Heap, K.In base → base.Ns mainGlobals mg → (∀ x ∈ tabs, GxR.TabB base mg (tabAt K x).1 (tabAt K x).2) →
        FnOk l.prog w K mg base CX0 k fa fd ["script"] (spOf K (tabs.map fun x => (tabAt K x).2) LawC)) :
    PySem.W.WalkO q loose XP YP l.row.toRowW d [] (fun f vs => PySem.call f vs) := by
  refine Att.attach_callB hn hdf fun w s₀ s₁ mg mb fa o pm cd doc a vs ns G Y ho hd' hcd hmg hobj hints hlen hbits hg => ?_
  have KX := hY w _ Y
  have c := hS w
  generalize KF w.params = K at KX c
  have hx := hx K c.x
  obtain ⟨fd, hb, hF⟩ := F w mg fa _ K KX c G.T.g hmg
  have tab : ∀ x ∈ tabs, PySem.W.CodeHd s₁.heap (tabAt K x).1 (tabAt K x).2 ∧ s₁.heap.get? (tabAt K x).2 = some { cls := .none, data := .fields #[] } := fun x h => by
    obtain ⟨d', e⟩ := hT x h
    exact PySem.W.tab_of G.T KX e (tabOk_in (hx x h)).1
  refine law_callTs (CX := CX0) (cs := tabs.map fun x => tabAt K x) (sp := spOf K (tabs.map fun x => (tabAt K x).2) LawC) KX G.T.g G.T.b G.T.builtins G.T.nolimit hg (fun p hp => ?_) (fun p hp => ?_) (fun p hp => ?_) G.T.bmain hobj hints (Nat.le_trans hlen (by decide)) hr (fun base kb nb tb => ?_) hb (fun H hH hS => ?_) fun H e s' z => z
  · obtain ⟨x, hx', rfl⟩ := List.mem_map.mp hp
    exact (tab x hx').2
  · obtain ⟨x, hx', rfl⟩ := List.mem_map.mp hp
    exact (tabOk_in (hx x hx')).2
  · obtain ⟨x, hx', rfl⟩ := List.mem_map.mp hp
    exact (tab x hx').1
  · exact hF base kb nb fun x h => tabB (tb _ (List.mem_map.mpr ⟨x, h, rfl⟩))
  · exact start_law hH hS hlen hbits
end Ev

set_option Elab.async false
set_option linter.all false
set_option maxRecDepth 100000
set_option maxHeartbeats 1000000
namespace EvT
open PySem PySem.Spec PyProof.Rows L2 Ow Ev
def m_is_name  : MS :=
  (mSeq (mIfS (mOr (mNot (mTru (mCB wIsi (mCons (mVar 0) (mCons (mC (.ty "str")) mNil))))) (mNot (mTest (mChain wLe wLe (mC (.int 1)) (mCB wLen (mCons (mVar 0) mNil)) (mC (.int (8)))))))
  (mRet (mC (.bl false)))
  mNext)
  (mRet (mAll (mIt (mVar 0)) (mgName 1) (mChain wLe wLe (mC (.str "a")) (mVar 1) (mC (.str "z"))) [1])))
def m_x_is_tuple  : MS :=
  (mRet (mAndV (mCB wIsi (mCons (mVar 0) (mCons (mC (.ty "tuple")) mNil))) (mChain wLe wLe (mVar 1) (mCB wLen (mCons (mVar 0) mNil)) (mVar 2))))
def m_x_are_names (C_x_is_tuple : Con) (C_is_name : Con) : MS :=
  (mRet (mAndV (mCB (conR C_x_is_tuple) (mCons (mVar 0) (mCons (mC (.int 0)) (mCons (mC (.int (3))) mNil)))) (mAll (mIt (mVar 0)) (mgName 1) (mCB (conR C_is_name) (mCons (mVar 1) mNil)) [1])))
def m_x_are_unlike  : MS :=
  (mRet (mBin wEq (mLenSet (mVar 0)) (mCB wLen (mCons (mVar 0) mNil))))
def m_x_is_num  : MS :=
  (mSeq (mIfS (mOr (mTest (mBin wNe (mCB wLen (mCons (mVar 0) mNil)) (mC (.int 2)))) (mOr (mTru (mCB wIsi (mCons (mBin wIx (mVar 0) (mC (.int 1))) (mCons (mC (.ty "bool")) mNil)))) (mNot (mTru (mCB wIsi (mCons (mBin wIx (mVar 0) (mC (.int 1))) (mCons (mC (.ty "int")) mNil)))))))
  (mRet (mC (.bl false)))
  mNext)
  (mRet (mChain wLe wLe (mC (.int (-1000000000000000000))) (mBin wIx (mVar 0) (mC (.int 1))) (mC (.int (1000000000000000000))))))
def m_x_is_asking (C_is_name : Con) : MS :=
  (mRet (mAndV (mBin wEq (mCB wLen (mCons (mVar 0) mNil)) (mC (.int 2))) (mCB (conR C_is_name) (mCons (mBin wIx (mVar 0) (mC (.int 1))) mNil))))
def m_x_is_fun (C_is_name : Con) : MS :=
  (mRet (mAndV (mBin wEq (mCB wLen (mCons (mVar 0) mNil)) (mC (.int 3))) (mCB (conR C_is_name) (mCons (mBin wIx (mVar 0) (mC (.int 1))) mNil))))
def m_x_is_of_two_names (C_is_name : Con) : MS :=
  (mRet (mAndV (mBin wEq (mCB wLen (mCons (mVar 0) mNil)) (mC (.int 3))) (mAndV (mCB (conR C_is_name) (mCons (mBin wIx (mVar 0) (mC (.int 1))) mNil)) (mCB (conR C_is_name) (mCons (mBin wIx (mVar 0) (mC (.int 2))) mNil)))))
def m_x_is_put_by (C_is_name : Con) : MS :=
  (mRet (mAndV (mBin wEq (mCB wLen (mCons (mVar 0) mNil)) (mC (.int 4))) (mCB (conR C_is_name) (mCons (mBin wIx (mVar 0) (mC (.int 1))) mNil))))
def m_x_is_pair (C_x_is_tuple : Con) (C_is_name : Con) : MS :=
  (mSeq (mIfS (mOr (mNot (mTru (mCB (conR C_x_is_tuple) (mCons (mVar 0) (mCons (mC (.int 2)) (mCons (mC (.int 2)) mNil)))))) (mNot (mTru (mCB (conR C_is_name) (mCons (mBin wIx (mVar 0) (mC (.int 0))) mNil)))))
  (mRet (mC (.bl false)))
  mNext)
  (mSeq (mAsg (mBin wIx (mVar 0) (mC (.int 1))) (mgName 1))
  (mSeq (mIfS (mOr (mNot (mTru (mCB wIsi (mCons (mVar 1) (mCons (mC (.ty "tuple")) mNil))))) (mOr (mTest (mBin wEq (mCB wLen (mCons (mVar 1) mNil)) (mC (.int 0)))) (mNot (mTru (mCB wIsi (mCons (mBin wIx (mVar 1) (mC (.int 0))) (mCons (mC (.ty "str")) mNil)))))))
  (mRet (mC (.bl false)))
  mNext)
  (mRet (mBin wIn (mBin wIx (mVar 1) (mC (.int 0))) (mTup (mCons (mC (.str "fun")) (mCons (mC (.str "made")) mNil))))))))
def m_x_is_letall (C_x_is_tuple : Con) (C_x_is_pair : Con) (C_x_are_unlike : Con) : MS :=
  (mSeq (mIfS (mOr (mTest (mBin wNe (mCB wLen (mCons (mVar 0) mNil)) (mC (.int 3)))) (mNot (mTru (mCB (conR C_x_is_tuple) (mCons (mBin wIx (mVar 0) (mC (.int 1))) (mCons (mC (.int 1)) (mCons (mC (.int (6))) mNil)))))))
  (mRet (mC (.bl false)))
  mNext)
  (mRet (mAndV (mAll (mIt (mBin wIx (mVar 0) (mC (.int 1)))) (mgName 1) (mCB (conR C_x_is_pair) (mCons (mVar 1) mNil)) [1]) (mCB (conR C_x_are_unlike) (mCons (mLc (mIt (mBin wIx (mVar 0) (mC (.int 1)))) (mgName 1) mYes (mBin wIx (mVar 1) (mC (.int 0))) [1]) mNil)))))
def m_x_is_made (C_is_name : Con) (C_x_are_names : Con) : MS :=
  (mRet (mAndV (mBin wEq (mCB wLen (mCons (mVar 0) mNil)) (mC (.int 3))) (mAndV (mCB (conR C_is_name) (mCons (mBin wIx (mVar 0) (mC (.int 1))) mNil)) (mCB (conR C_x_are_names) (mCons (mBin wIx (mVar 0) (mC (.int 2))) mNil)))))
def m_x_is_branch (C_x_is_tuple : Con) (C_is_name : Con) (C_x_are_names : Con) (C_x_are_unlike : Con) : MS :=
  (mSeq (mIfS (mOr (mNot (mTru (mCB (conR C_x_is_tuple) (mCons (mVar 0) (mCons (mC (.int 3)) (mCons (mC (.int 3)) mNil)))))) (mNot (mTru (mCB (conR C_is_name) (mCons (mBin wIx (mVar 0) (mC (.int 0))) mNil)))))
  (mRet (mC (.bl false)))
  mNext)
  (mRet (mAndV (mCB (conR C_x_are_names) (mCons (mBin wIx (mVar 0) (mC (.int 1))) mNil)) (mCB (conR C_x_are_unlike) (mCons (mBin wIx (mVar 0) (mC (.int 1))) mNil)))))
def m_x_is_by (C_is_name : Con) (C_x_is_tuple : Con) (C_x_is_branch : Con) (C_x_are_unlike : Con) : MS :=
  (mSeq (mIfS (mOr (mTest (mBin wNe (mCB wLen (mCons (mVar 0) mNil)) (mC (.int 3)))) (mOr (mNot (mTru (mCB (conR C_is_name) (mCons (mBin wIx (mVar 0) (mC (.int 1))) mNil)))) (mNot (mTru (mCB (conR C_x_is_tuple) (mCons (mBin wIx (mVar 0) (mC (.int 2))) (mCons (mC (.int 1)) (mCons (mC (.int (6))) mNil))))))))
  (mRet (mC (.bl false)))
  mNext)
  (mRet (mAndV (mAll (mIt (mBin wIx (mVar 0) (mC (.int 2)))) (mgName 1) (mCB (conR C_x_is_branch) (mCons (mVar 1) mNil)) [1]) (mCB (conR C_x_are_unlike) (mCons (mLc (mIt (mBin wIx (mVar 0) (mC (.int 2)))) (mgName 1) mYes (mBin wIx (mVar 1) (mC (.int 0))) [1]) mNil)))))
def m_x_is_shaped (T_SORTS : Str → Option Addr) (CA : Addr → Option Con) : MS :=
  (mSeq (mIfS (mOr (mNot (mTru (mCB wIsi (mCons (mVar 0) (mCons (mC (.ty "tuple")) mNil))))) (mOr (mTest (mBin wEq (mCB wLen (mCons (mVar 0) mNil)) (mC (.int 0)))) (mNot (mTru (mCB wIsi (mCons (mBin wIx (mVar 0) (mC (.int 0))) (mCons (mC (.ty "str")) mNil)))))))
  (mRet (mC (.bl false)))
  mNext)
  (mSeq (mIfS (mTest (mInKD true T_SORTS (mBin wIx (mVar 0) (mC (.int 0)))))
  (mRet (mC (.bl false)))
  mNext)
  (mSeq (mAsg (mIxKD T_SORTS (mBin wIx (mVar 0) (mC (.int 0)))) (mgName 1))
  (mRet (mCallL 1 CA (mCons (mVar 0) mNil))))))
def m_named  : MS :=
  (mSeq (mAsg (mBin wIx (mVar 0) (mC (.int 0))) (mgName 1))
  (mSeq (mIfS (mTest (mBin wEq (mVar 1) (mC (.str "made"))))
  (mRet (mBin wIx (mVar 0) (mC (.int 2))))
  mNext)
  (mSeq (mIfS (mTest (mBin wIn (mVar 1) (mTup (mCons (mC (.str "name")) (mCons (mC (.str "by")) mNil)))))
  (mRet (mSl (mVar 0) (mP (mC (.int 1))) (mP (mC (.int 2)))))
  mNext)
  (mSeq (mIfS (mTest (mBin wIn (mVar 1) (mTup (mCons (mC (.str "call")) (mCons (mC (.str "sum")) (mCons (mC (.str "minus")) (mCons (mC (.str "less")) (mCons (mC (.str "same")) mNil))))))))
  (mRet (mSl (mVar 0) (mP (mC (.int 1))) (mP (mC (.int 3)))))
  mNext)
  (mRet (mTup mNil))))))
def m_within  : MS :=
  (mSeq (mAsg (mBin wIx (mVar 0) (mC (.int 0))) (mgName 1))
  (mSeq (mIfS (mTest (mBin wEq (mVar 1) (mC (.str "fun"))))
  (mRet (mLst (mCons (mTup (mCons (mBin wIx (mVar 0) (mC (.int 2))) (mCons (mTup (mCons (mBin wIx (mVar 0) (mC (.int 1))) mNil)) mNil))) mNil)))
  mNext)
  (mSeq (mIfS (mTest (mBin wIn (mVar 1) (mTup (mCons (mC (.str "let")) (mCons (mC (.str "now")) mNil)))))
  (mRet (mLst (mCons (mTup (mCons (mBin wIx (mVar 0) (mC (.int 2))) (mCons (mTup mNil) mNil))) (mCons (mTup (mCons (mBin wIx (mVar 0) (mC (.int 3))) (mCons (mTup (mCons (mBin wIx (mVar 0) (mC (.int 1))) mNil)) mNil))) mNil))))
  mNext)
  (mSeq (mIfS (mTest (mBin wEq (mVar 1) (mC (.str "letall"))))
  (mSeq (mAsg (mCB wTuple (mCons (mLc (mIt (mBin wIx (mVar 0) (mC (.int 1)))) (mgName 3) mYes (mBin wIx (mVar 3) (mC (.int 0))) [3]) mNil)) (mgName 2))
  (mRet (mBin wAdd (mLc (mIt (mBin wIx (mVar 0) (mC (.int 1)))) (mgName 3) mYes (mTup (mCons (mBin wIx (mVar 3) (mC (.int 1))) (mCons (mVar 2) mNil))) [3]) (mLst (mCons (mTup (mCons (mBin wIx (mVar 0) (mC (.int 2))) (mCons (mVar 2) mNil))) mNil)))))
  mNext)
  (mSeq (mIfS (mTest (mBin wEq (mVar 1) (mC (.str "by"))))
  (mRet (mLc (mIt (mBin wIx (mVar 0) (mC (.int 2)))) (mgName 4) mYes (mTup (mCons (mBin wIx (mVar 4) (mC (.int 2))) (mCons (mBin wIx (mVar 4) (mC (.int 1))) mNil))) [4]))
  mNext)
  (mRet (mLst mNil)))))))
def m_is_term (C_x_is_shaped : Con) (C_within : Con) : MS :=
  (mSeq (mAsg (mLst (mCons (mTup (mCons (mVar 0) (mCons (mC (.int 1)) mNil))) mNil)) (mgName 1))
  (mSeq (mAsg (mC (.int 0)) (mgName 2))
  (mSeq (mWh (mTru (mVar 1))
  (mSeq (mAsg (mBM0 wPop (mVar 1)) (mgTup 2 (mgCons (mgName 3) (mgCons (mgName 4) mgNil))))
  (mSeq (mAug 2 (wInt (fun i j => i + j) fun _ _ => True) (mC (.int 1)))
  (mSeq (mIfS (mOr (mTest (mBin wGt (mVar 2) (mC (.int (300))))) (mOr (mTest (mBin wGt (mVar 4) (mC (.int (60))))) (mNot (mTru (mCB (conR C_x_is_shaped) (mCons (mVar 3) mNil))))))
  (mRet (mC (.bl false)))
  mNext)
  (mFor (mIt (mCB (conR C_within) (mCons (mVar 3) mNil))) (mgTup 2 (mgCons (mgName 5) (mgCons (mgName 6) mgNil)))
  (mDrop (mBM wAppend (mVar 1) (mCons (mTup (mCons (mVar 5) (mCons (mBin wAdd (mVar 4) (mC (.int 1))) mNil))) mNil))))))))
  (mRet (mC (.bl true))))))
def m_free_names (C_named : Con) (C_within : Con) : MS :=
  (mSeq (mAsg mDnew (mgName 1))
  (mSeq (mAsg (mLst (mCons (mTup (mCons (mVar 0) (mCons (mTup mNil) mNil))) mNil)) (mgName 2))
  (mSeq (mWh (mTru (mVar 2))
  (mSeq (mAsg (mBM0 wPop (mVar 2)) (mgTup 2 (mgCons (mgName 3) (mgCons (mgName 4) mgNil))))
  (mSeq (mFor (mIt (mCB (conR C_named) (mCons (mVar 3) mNil))) (mgName 5)
  (mIfS (mTest (mBin wNotIn (mVar 5) (mVar 4)))
  (mAsg (mC (.bl true)) (mgSub (mVar 1) (mVar 5)))
  mNext))
  (mFor (mIt (mCB (conR C_within) (mCons (mVar 3) mNil))) (mgTup 2 (mgCons (mgName 6) (mgCons (mgName 7) mgNil)))
  (mDrop (mBM wAppend (mVar 2) (mCons (mTup (mCons (mVar 6) (mCons (mBin wAdd (mVar 4) (mVar 7)) mNil))) mNil)))))))
  (mRet (mCB wSortD (mCons (mVar 1) mNil))))))
def m_is_program (C_is_term : Con) (C_free_names : Con) : MS :=
  (mRet (mAndV (mCB (conR C_is_term) (mCons (mVar 0) mNil)) (mBin wEq (mCB wLen (mCons (mCB (conR C_free_names) (mCons (mVar 0) mNil)) mNil)) (mC (.int 0)))))
end EvT

set_option Elab.async false
set_option linter.all false
set_option maxRecDepth 100000
set_option maxHeartbeats 1000000
namespace EvT
open PySem PySem.Spec PyProof.Rows L2 Ow Ev
theorem ifT {p q : Prop} (h : p) : if True then p else q := by simpa using h
theorem ifF {p q : Prop} (h : q) : if False then p else q := by simpa using h
/-- a test by a bool -/
theorem ifB {b : Bool} {p q : Prop} (ht : b = true → p) (hf : b = false → q) : if b = true then p else q := by
  cases b with
  | true => exact iteT (ht rfl)
  | false => exact iteF (hf rfl)
theorem ifNB {b : Bool} {p q : Prop} (ht : b = false → p) (hf : b = true → q) : if (!b) = true then p else q := by
  cases b with
  | true => exact iteF (hf rfl)
  | false => exact iteT (ht rfl)
def nameB : W → Bool
  | .str z => isNm z
  | _ => false
theorem isStr_name {x : W} (h : isStr x = false) : nameB x = false := by
  cases x <;> first | rfl | cases h
theorem isStr_str {x : W} (h : isStr x = true) : ∃ z, x = .str z := by
  cases x <;> first | exact ⟨_, rfl⟩ | cases h
theorem isTup_tup {x : W} (h : isTup x = true) : ∃ z, x = .tup z := by
  cases x <;> first | exact ⟨_, rfl⟩ | cases h
theorem all_map {α β : Type} (f : α → β) (p : β → Bool) (q : α → Bool) (h : ∀ a, p (f a) = q a) : ∀ l : List α, (l.map f).all p = l.all q
  | [] => rfl
  | a :: l => by rw [List.map_cons, List.all_cons, List.all_cons, h, all_map f p q h l]
def az (w : W) : Bool := match w with
  | .str z => !decide (z.cps.toList < (Str.ofString "a").cps.toList) && !decide ((Str.ofString "z").cps.toList < z.cps.toList)
  | _ => false
theorem vc_is_name {x : W} {S : Store} {D : MD} (h : dat S x) (k : ∀ S', Ex S S' → D.rt (.bl (nameB x)) S') : m_is_name D [some x, none] S := by
  unfold m_is_name
  simp only [mSeq, mIfS, mRet, mRetN, mAsg, mDrop, mTest, mBin, mChain, mTru, mAnd, mOr, mNot, mAndV, mOrV, mNotV, mIf, mVar, mC, mCons, mNil, mTup, mLst, mCB, mgName, mNext, mIt, mPar, mAug, lk]
  refine isi_str h ?_
  refine ifNB (fun e => ?_) fun e => ?_
  · have := k S Ex.refl
    rw [isStr_name e] at this
    exact ifT this
  · obtain ⟨z, rfl⟩ := isStr_str e
    refine ⟨h, ?_⟩
    have out : nameB (.str z) = false → D.rt (.bl false) S := fun e => e ▸ k S Ex.refl
    show if decide ((1 : Int) ≤ z.length) = true then _ else _
    refine ifB (fun e1 => ?_) fun e1 => iteT (out ?_)
    · show if (!decide ((z.length : Int) ≤ 8)) = true then _ else _
      refine ifNB (fun e2 => out ?_) fun e2 => ?_
      · show isNm z = false
        unfold isNm
        rw [decide_eq_false (show ¬ (1 ≤ z.length ∧ z.length ≤ 8) by have := of_decide_eq_false e2; omega), Bool.false_and]
      · refine allL_ex (S0 := S) az (fun w => [some (.str z), some w]) (fun _ _ => trivial) _ (fun w _ S2 R r => r) (fun w hw S2 k2 _ q => ?_) (fun S2 h2 => ?_) S Ex.refl
        · obtain ⟨c, hc, rfl⟩ := List.mem_map.mp hw
          show if (!decide ((⟨#[c]⟩ : Str).cps.toList < (Str.ofString "a").cps.toList)) = true then k2 (.bl (!decide ((Str.ofString "z").cps.toList < (⟨#[c]⟩ : Str).cps.toList))) S2 else k2 (.bl false) S2
          have q0 := q S2 Ex.refl
          unfold az signW at q0
          refine ifB (fun e => ?_) fun e => ?_
          · dsimp only at q0
            rw [e, Bool.true_and] at q0
            exact q0
          · dsimp only at q0
            rw [e, Bool.false_and] at q0
            exact q0
        · have := k S2 h2
          have e3 : nameB (.str z) = (z.cps.toList.map signW).all az := by
            rw [all_map signW az (fun c => decide (97 ≤ c ∧ c ≤ 122)) fun c => az_eq c]
            show isNm z = _
            unfold isNm
            rw [decide_eq_true (show 1 ≤ z.length ∧ z.length ≤ 8 by have := of_decide_eq_true e1; have := of_decide_eq_true e2; omega), Bool.true_and]
          rw [e3] at this
          exact this
    · show isNm z = false
      unfold isNm
      rw [decide_eq_false (show ¬ (1 ≤ z.length ∧ z.length ≤ 8) by have := of_decide_eq_false e1; omega), Bool.false_and]
end EvT

set_option Elab.async false
set_option linter.all false
set_option maxRecDepth 100000
set_option maxHeartbeats 1000000
namespace EvT
open PySem PySem.Spec PyProof.Rows L2 Ow Ev
section
variable {S : Store} {Q : WK} {l : List W} {a b c d : W} {i j : Int}
theorem wLen_tup : wLen [.tup l] S Q = Q (.int l.length) S := rfl
theorem wLe_int : wLe (.int i) (.int j) S Q = Q (.bl (decide (i ≤ j))) S := rfl
theorem wLt_int : wLt (.int i) (.int j) S Q = Q (.bl (decide (i < j))) S := rfl
theorem wGt_int : wGt (.int i) (.int j) S Q = Q (.bl (decide (j < i))) S := rfl
theorem wEq_int : wEq (.int i) (.int j) S Q = Q (.bl (decide (i = j))) S := congrArg (fun x => Q (.bl x) S) (Bool.false_xor _)
theorem wNe_int : wNe (.int i) (.int j) S Q = Q (.bl (!decide (i = j))) S := congrArg (fun x => Q (.bl x) S) (Bool.true_xor _)
theorem wEq_str {x y : Str} : wEq (.str x) (.str y) S Q = Q (.bl (decide (x = y))) S := congrArg (fun x => Q (.bl x) S) (Bool.false_xor _)
theorem wNe_str {x y : Str} : wNe (.str x) (.str y) S Q = Q (.bl (!decide (x = y))) S := congrArg (fun x => Q (.bl x) S) (Bool.true_xor _)
theorem wIx_tup : wIx (.tup l) (.int i) S Q = oW (wAt l i) (fun w => Q w S) := rfl
theorem wAt0 {α : Type} {a : α} {r : List α} : wAt (a :: r) 0 = some a := rfl
theorem wAt1 {α : Type} {a b : α} {r : List α} : wAt (a :: b :: r) 1 = some b := rfl
theorem wAt2 {α : Type} {a b c : α} {r : List α} : wAt (a :: b :: c :: r) 2 = some c := rfl
theorem wAt3 {α : Type} {a b c d : α} {r : List α} : wAt (a :: b :: c :: d :: r) 3 = some d := rfl
theorem oW_s {α : Type} {a : α} {k : α → Prop} : oW (some a) k = k a := rfl
theorem tru_bl {b : Bool} {k : Bool → Store → Prop} : Ev.wTru (.bl b) S k = k b S := rfl
end
theorem iteB {b c : Bool} {p : Bool → Prop} (h : p (b && c)) : if b = true then p c else p false := by
  cases b with
  | true => exact iteT (by simpa using h)
  | false => exact iteF (by simpa using h)
theorem of_len1 : ∀ {l : List W}, l.length = 1 → ∃ a, l = [a]
  | [a], _ => ⟨a, rfl⟩
theorem of_len2 : ∀ {l : List W}, l.length = 2 → ∃ a b, l = [a, b]
  | [a, b], _ => ⟨a, b, rfl⟩
theorem of_len3 : ∀ {l : List W}, l.length = 3 → ∃ a b c, l = [a, b, c]
  | [a, b, c], _ => ⟨a, b, c, rfl⟩
theorem of_len4 : ∀ {l : List W}, l.length = 4 → ∃ a b c d, l = [a, b, c, d]
  | [a, b, c, d], _ => ⟨a, b, c, d, rfl⟩
def tupB (x : W) (lo hi : Int) : Bool := match x with
  | .tup l => decide (lo ≤ l.length) && decide ((l.length : Int) ≤ hi)
  | _ => false
theorem tupB_no {x : W} {lo hi : Int} (h : isTup x = false) : tupB x lo hi = false := by
  cases x <;> first | rfl | cases h
abbrev NameC : Con := Pur 1 (fun _ => True) fun a => match a with
  | [x] => .bl (nameB x)
  | _ => .non
abbrev TupC : Con := Pur 3 (fun a => ∃ x lo hi, a = [x, .int lo, .int hi]) fun a => match a with
  | [x, .int lo, .int hi] => .bl (tupB x lo hi)
  | _ => .non
theorem vc_is_tuple {x : W} {lo hi : Int} {S : Store} {D : MD} (h : dat S x) (k : ∀ S', Ex S S' → D.rt (.bl (tupB x lo hi)) S') : m_x_is_tuple D [some x, some (.int lo), some (.int hi)] S := by
  unfold m_x_is_tuple
  simp only [mSeq, mIfS, mRet, mRetN, mAsg, mDrop, mTest, mBin, mChain, mTru, mAnd, mOr, mNot, mAndV, mOrV, mNotV, mIf, mVar, mC, mCons, mNil, mTup, mLst, mCB, mgName, mNext, mIt, mPar, mAug, lk, wLen_tup, wLe_int, wLt_int, wGt_int, wEq_int, wNe_int, wEq_str, wNe_str, wIx_tup, wAt0, wAt1, wAt2, wAt3, oW_s, tru_bl, List.set]
  refine isi_tup h ?_
  refine ifB (fun e => ?_) fun e => ?_
  · obtain ⟨l, rfl⟩ := isTup_tup e
    simp only [mSeq, mIfS, mRet, mRetN, mAsg, mDrop, mTest, mBin, mChain, mTru, mAnd, mOr, mNot, mAndV, mOrV, mNotV, mIf, mVar, mC, mCons, mNil, mTup, mLst, mCB, mgName, mNext, mIt, mPar, mAug, lk, wLen_tup, wLe_int, wLt_int, wGt_int, wEq_int, wNe_int, wEq_str, wNe_str, wIx_tup, wAt0, wAt1, wAt2, wAt3, oW_s, tru_bl, List.set]
    have := k S Ex.refl
    unfold tupB at this
    refine iteB (p := fun b => D.rt (.bl b) S) ?_
    exact this
  · have := k S Ex.refl
    rw [tupB_no e] at this
    exact this
theorem pur_name {x : W} {S : Store} {Q : WK} (h : dat S x) (q : ∀ S', Ex S S' → Q (.bl (nameB x)) S') : conR NameC [x] S Q := pur_call rfl trivial ⟨h, trivial⟩ q
theorem pur_tup {x : W} {lo hi : Int} {S : Store} {Q : WK} (h : dat S x) (q : ∀ S', Ex S S' → Q (.bl (tupB x lo hi)) S') : conR TupC [x, .int lo, .int hi] S Q := pur_call rfl ⟨_, _, _, rfl⟩ ⟨h, trivial, trivial, trivial⟩ q
def namesB (x : W) : Bool := match x with
  | .tup l => tupB x 0 3 && l.all nameB
  | _ => false
abbrev NamesC : Con := Pur 1 (fun _ => True) fun a => match a with
  | [x] => .bl (namesB x)
  | _ => .non
theorem vc_are_names {x : W} {S : Store} {D : MD} (h : dat S x) (k : ∀ S', Ex S S' → D.rt (.bl (namesB x)) S') : m_x_are_names TupC NameC D [some x, none] S := by
  unfold m_x_are_names
  simp only [mSeq, mIfS, mRet, mRetN, mAsg, mDrop, mTest, mBin, mChain, mTru, mAnd, mOr, mNot, mAndV, mOrV, mNotV, mIf, mVar, mC, mCons, mNil, mTup, mLst, mCB, mgName, mNext, mIt, mPar, mAug, lk, wLen_tup, wLe_int, wLt_int, wGt_int, wEq_int, wNe_int, wEq_str, wNe_str, wIx_tup, wAt0, wAt1, wAt2, wAt3, oW_s, tru_bl, List.set]
  refine pur_tup h fun S1 h1 => ?_
  refine ifB (fun e => ?_) fun e => ?_
  · cases x with
    | tup l =>
      refine allL_ex (S0 := S1) nameB (fun w => [some (.tup l), some w]) (fun _ _ => trivial) l (fun w _ S2 R r => r) (fun w hw S2 k2 hx q => pur_name ((h.2.mem hw).ex (h1.trans hx)) q) (fun S2 h2 => ?_) S1 Ex.refl
      have := k S2 (h1.trans h2)
      have e5 : namesB (.tup l) = l.all nameB := by
        show (tupB (.tup l) 0 3 && l.all nameB) = _
        rw [e, Bool.true_and]
      rw [e5] at this
      exact this
    | _ => cases e
  · have := k S1 h1
    have e2 : namesB x = false := by
      cases x with
      | tup l =>
        show (tupB (.tup l) 0 3 && l.all nameB) = false
        rw [e, Bool.false_and]
      | _ => rfl
    rw [e2] at this
    exact this
theorem pur_names {x : W} {S : Store} {Q : WK} (h : dat S x) (q : ∀ S', Ex S S' → Q (.bl (namesB x)) S') : conR NamesC [x] S Q := pur_call rfl trivial ⟨h, trivial⟩ q
def UnlikeC : Con := ⟨List Str, fun xs ws S => ∃ w, ws = [w] ∧ seqW w S = some (xs.map W.str) ∧ xs.length ≤ 4000, fun xs S w S' => w = .bl (decide xs.Nodup) ∧ Ex S S'⟩
theorem dup_split : ∀ {xs : List Str}, ¬ xs.Nodup → ∃ p x q, xs = p ++ x :: q ∧ x ∈ q
  | [], h => absurd List.nodup_nil h
  | x :: xs, h => by
    by_cases hx : x ∈ xs
    · exact ⟨[], x, xs, rfl, hx⟩
    · obtain ⟨p, y, q, e, hy⟩ := dup_split fun z => h (List.nodup_cons.mpr ⟨hx, z⟩)
      exact ⟨x :: p, y, q, by rw [e]; rfl, hy⟩
theorem nodup_len {xs ys : List Str} (hn : ys.Nodup) (hm : ∀ k, k ∈ ys ↔ k ∈ xs) : decide (ys.length = xs.length) = decide xs.Nodup := by
  rw [decide_eq_decide]
  constructor
  · intro e
    by_cases hx : xs.Nodup
    · exact hx
    · obtain ⟨p, x, q, rfl, hq⟩ := dup_split hx
      have := PySem.length_le_of_nodup_of_subset ys (p ++ q) hn fun z hz => by
        have := (hm z).mp hz
        rcases List.mem_append.mp this with h | h
        · exact List.mem_append_left _ h
        · rcases List.mem_cons.mp h with h | h
          · rw [h]
            exact List.mem_append_right _ hq
          · exact List.mem_append_right _ h
      rw [List.length_append] at this
      rw [List.length_append, List.length_cons] at e
      omega
  · intro hx
    have a := PySem.length_le_of_nodup_of_subset ys xs hn fun z hz => (hm z).mp hz
    have b := PySem.length_le_of_nodup_of_subset xs ys hx fun z hz => (hm z).mpr hz
    omega
theorem len_seq {w : W} {S : Store} {l : List W} {Q : WK} (h : seqW w S = some l) (q : Q (.int l.length) S) : wLen [w] S Q := by
  cases w with
  | tup m => cases h; exact q
  | cl m => cases h; exact q
  | ref n =>
    unfold seqW at h
    dsimp only at h
    show oLen S[n]? fun k => Q (.int k) S
    cases e : S[n]? with
    | none => rw [e] at h; cases h
    | some o =>
      rw [e] at h
      cases o with
      | lst m => cases h; exact q
      | _ => cases h
  | _ => cases h
theorem vc_are_unlike {w : W} {xs : List Str} {S : Store} {D : MD} (h : seqW w S = some (xs.map W.str)) (few : xs.length ≤ 4000) (k : ∀ S', Ex S S' → D.rt (.bl (decide xs.Nodup)) S') : m_x_are_unlike D [some w] S := by
  unfold m_x_are_unlike
  simp only [mSeq, mIfS, mRet, mRetN, mAsg, mDrop, mTest, mBin, mChain, mTru, mAnd, mOr, mNot, mAndV, mOrV, mNotV, mIf, mVar, mC, mCons, mNil, mTup, mLst, mCB, mgName, mNext, mIt, mPar, mAug, lk, wLen_tup, wLe_int, wLt_int, wGt_int, wEq_int, wNe_int, wEq_str, wNe_str, wIx_tup, wAt0, wAt1, wAt2, wAt3, oW_s, tru_bl, List.set]
  refine ⟨xs, h, few, fun ys nd mem => ?_⟩
  refine len_seq h ?_
  rw [wEq_int, List.length_map]
  have := k S Ex.refl
  rw [← nodup_len nd mem] at this
  have e : decide ((ys.length : Int) = (xs.length : Int)) = decide (ys.length = xs.length) := by
    rw [decide_eq_decide]
    omega
  rw [e]
  exact this
theorem un_call {w : W} {xs : List Str} {S : Store} {Q : WK} (h : seqW w S = some (xs.map W.str)) (few : xs.length ≤ 4000) (q : ∀ S', Ex S S' → Q (.bl (decide xs.Nodup)) S') : conR UnlikeC [w] S Q :=
  ⟨xs, ⟨w, rfl, h, few⟩, fun w S' ⟨e, x⟩ => by rw [e]; exact q S' x⟩
end EvT

set_option Elab.async false
set_option linter.all false
set_option maxRecDepth 100000
set_option maxHeartbeats 1000000
namespace EvT
open PySem PySem.Spec PyProof.Rows L2 Ow Ev
def intB (x : W) : Bool := match x with
  | .int i => decide (-(10 ^ 18) ≤ i) && decide (i ≤ 10 ^ 18)
  | _ => false
/-- what a term's tuple must be, by its sort -/
def numB (l : List W) : Bool := match l with
  | [_, x] => intB x
  | _ => false
def askB (l : List W) : Bool := match l with
  | [_, x] => nameB x
  | _ => false
def funB (l : List W) : Bool := match l with
  | [_, x, _] => nameB x
  | _ => false
def twoB (l : List W) : Bool := match l with
  | [_, x, y] => nameB x && nameB y
  | _ => false
def putB (l : List W) : Bool := match l with
  | [_, x, _, _] => nameB x
  | _ => false
def worthB (x : W) : Bool := match x with
  | .tup (.str z :: _) => decide (z = "fun") || decide (z = "made")
  | _ => false
def pairB (x : W) : Bool := match x with
  | .tup [n, v] => nameB n && worthB v
  | _ => false
def fstS (x : W) : Str := match x with
  | .tup (.str z :: _) => z
  | _ => Str.empty
def letallB (l : List W) : Bool := match l with
  | [_, x, _] => tupB x 1 6 && match x with
    | .tup ps => ps.all pairB && decide ((ps.map fstS).Nodup)
    | _ => false
  | _ => false
def madeB (l : List W) : Bool := match l with
  | [_, x, y] => nameB x && namesB y
  | _ => false
def strS (x : W) : Str := match x with
  | .str z => z
  | _ => Str.empty
def unlikeB (x : W) : Bool := match x with
  | .tup l => decide ((l.map strS).Nodup)
  | _ => false
def branchB (x : W) : Bool := match x with
  | .tup [n, ns, _] => nameB n && (namesB ns && unlikeB ns)
  | _ => false
def byB (l : List W) : Bool := match l with
  | [_, x, y] => nameB x && (tupB y 1 6 && match y with
    | .tup bs => bs.all branchB && decide ((bs.map fstS).Nodup)
    | _ => false)
  | _ => false
abbrev TC (f : List W → Bool) : Con := Pur 1 (fun a => ∃ l, a = [.tup l]) fun a => match a with
  | [.tup l] => .bl (f l)
  | _ => .non
theorem dec_len {l : List W} {n : Nat} : decide ((l.length : Int) = (n : Int)) = decide (l.length = n) := by
  rw [decide_eq_decide]
  omega
section
variable {S : Store} {D : MD} {l : List W}
theorem vc_is_num (h : dat S (.tup l)) (k : ∀ S', Ex S S' → D.rt (.bl (numB l)) S') : m_x_is_num D [some (.tup l)] S := by
  unfold m_x_is_num
  simp only [mSeq, mIfS, mRet, mRetN, mAsg, mDrop, mTest, mBin, mChain, mTru, mAnd, mOr, mNot, mAndV, mOrV, mNotV, mIf, mVar, mC, mCons, mNil, mTup, mLst, mCB, mgName, mNext, mIt, mPar, mAug, lk, wLen_tup, wLe_int, wLt_int, wGt_int, wEq_int, wNe_int, wEq_str, wNe_str, wIx_tup, wAt0, wAt1, wAt2, wAt3, oW_s, tru_bl, List.set]
  have out : numB l = false → D.rt (.bl false) S := fun e => e ▸ k S Ex.refl
  refine ifNB (fun e => ?_) fun e => ?_
  · refine ifT (out ?_)
    have hn : ¬ l.length = 2 := fun z => by simp [z] at e
    unfold numB
    split
    · exact absurd rfl hn
    · rfl
  · have h2 : l.length = 2 := by
      have := of_decide_eq_true e
      omega
    obtain ⟨a, x, rfl⟩ := of_len2 h2
    simp only [mSeq, mIfS, mRet, mRetN, mAsg, mDrop, mTest, mBin, mChain, mTru, mAnd, mOr, mNot, mAndV, mOrV, mNotV, mIf, mVar, mC, mCons, mNil, mTup, mLst, mCB, mgName, mNext, mIt, mPar, mAug, lk, wLen_tup, wLe_int, wLt_int, wGt_int, wEq_int, wNe_int, wEq_str, wNe_str, wIx_tup, wAt0, wAt1, wAt2, wAt3, oW_s, tru_bl, List.set]
    have hx : dat S x := h.2.2.1
    refine isi_bl hx ?_
    simp only [mSeq, mIfS, mRet, mRetN, mAsg, mDrop, mTest, mBin, mChain, mTru, mAnd, mOr, mNot, mAndV, mOrV, mNotV, mIf, mVar, mC, mCons, mNil, mTup, mLst, mCB, mgName, mNext, mIt, mPar, mAug, lk, wLen_tup, wLe_int, wLt_int, wGt_int, wEq_int, wNe_int, wEq_str, wNe_str, wIx_tup, wAt0, wAt1, wAt2, wAt3, oW_s, tru_bl, List.set]
    cases hb : isBl x with
    | true =>
      refine iteT (ifT (out ?_))
      cases x <;> first | rfl | cases hb
    | false =>
      refine iteF ?_
      refine isi_int hx ?_
      simp only [mSeq, mIfS, mRet, mRetN, mAsg, mDrop, mTest, mBin, mChain, mTru, mAnd, mOr, mNot, mAndV, mOrV, mNotV, mIf, mVar, mC, mCons, mNil, mTup, mLst, mCB, mgName, mNext, mIt, mPar, mAug, lk, wLen_tup, wLe_int, wLt_int, wGt_int, wEq_int, wNe_int, wEq_str, wNe_str, wIx_tup, wAt0, wAt1, wAt2, wAt3, oW_s, tru_bl, List.set]
      refine ifNB (fun e3 => out ?_) fun e3 => ?_
      · cases x <;> first | rfl | cases e3
      cases x with
      | int i =>
        have := k S Ex.refl
        refine iteB (p := fun b => D.rt (.bl b) S) ?_
        exact this
      | bl b => cases hb
      | _ => cases e3
theorem vc_is_asking (h : dat S (.tup l)) (k : ∀ S', Ex S S' → D.rt (.bl (askB l)) S') : m_x_is_asking NameC D [some (.tup l)] S := by
  unfold m_x_is_asking
  simp only [mSeq, mIfS, mRet, mRetN, mAsg, mDrop, mTest, mBin, mChain, mTru, mAnd, mOr, mNot, mAndV, mOrV, mNotV, mIf, mVar, mC, mCons, mNil, mTup, mLst, mCB, mgName, mNext, mIt, mPar, mAug, lk, wLen_tup, wLe_int, wLt_int, wGt_int, wEq_int, wNe_int, wEq_str, wNe_str, wIx_tup, wAt0, wAt1, wAt2, wAt3, oW_s, tru_bl, List.set]
  refine ifB (fun e => ?_) fun e => ?_
  · obtain ⟨a, x, rfl⟩ := of_len2 (l := l) (by have := of_decide_eq_true e; omega)
    simp only [mSeq, mIfS, mRet, mRetN, mAsg, mDrop, mTest, mBin, mChain, mTru, mAnd, mOr, mNot, mAndV, mOrV, mNotV, mIf, mVar, mC, mCons, mNil, mTup, mLst, mCB, mgName, mNext, mIt, mPar, mAug, lk, wLen_tup, wLe_int, wLt_int, wGt_int, wEq_int, wNe_int, wEq_str, wNe_str, wIx_tup, wAt0, wAt1, wAt2, wAt3, oW_s, tru_bl, List.set]
    exact pur_name h.2.2.1 k
  · have e2 : askB l = false := by
      have := of_decide_eq_false e
      unfold askB
      split
      · exact absurd rfl this
      · rfl
    exact e2 ▸ k S Ex.refl
theorem vc_is_fun (h : dat S (.tup l)) (k : ∀ S', Ex S S' → D.rt (.bl (funB l)) S') : m_x_is_fun NameC D [some (.tup l)] S := by
  unfold m_x_is_fun
  simp only [mSeq, mIfS, mRet, mRetN, mAsg, mDrop, mTest, mBin, mChain, mTru, mAnd, mOr, mNot, mAndV, mOrV, mNotV, mIf, mVar, mC, mCons, mNil, mTup, mLst, mCB, mgName, mNext, mIt, mPar, mAug, lk, wLen_tup, wLe_int, wLt_int, wGt_int, wEq_int, wNe_int, wEq_str, wNe_str, wIx_tup, wAt0, wAt1, wAt2, wAt3, oW_s, tru_bl, List.set]
  refine ifB (fun e => ?_) fun e => ?_
  · obtain ⟨a, x, y, rfl⟩ := of_len3 (l := l) (by have := of_decide_eq_true e; omega)
    simp only [mSeq, mIfS, mRet, mRetN, mAsg, mDrop, mTest, mBin, mChain, mTru, mAnd, mOr, mNot, mAndV, mOrV, mNotV, mIf, mVar, mC, mCons, mNil, mTup, mLst, mCB, mgName, mNext, mIt, mPar, mAug, lk, wLen_tup, wLe_int, wLt_int, wGt_int, wEq_int, wNe_int, wEq_str, wNe_str, wIx_tup, wAt0, wAt1, wAt2, wAt3, oW_s, tru_bl, List.set]
    exact pur_name h.2.2.1 k
  · have e2 : funB l = false := by
      have := of_decide_eq_false e
      unfold funB
      split
      · exact absurd rfl this
      · rfl
    exact e2 ▸ k S Ex.refl
theorem vc_is_two (h : dat S (.tup l)) (k : ∀ S', Ex S S' → D.rt (.bl (twoB l)) S') : m_x_is_of_two_names NameC D [some (.tup l)] S := by
  unfold m_x_is_of_two_names
  simp only [mSeq, mIfS, mRet, mRetN, mAsg, mDrop, mTest, mBin, mChain, mTru, mAnd, mOr, mNot, mAndV, mOrV, mNotV, mIf, mVar, mC, mCons, mNil, mTup, mLst, mCB, mgName, mNext, mIt, mPar, mAug, lk, wLen_tup, wLe_int, wLt_int, wGt_int, wEq_int, wNe_int, wEq_str, wNe_str, wIx_tup, wAt0, wAt1, wAt2, wAt3, oW_s, tru_bl, List.set]
  refine ifB (fun e => ?_) fun e => ?_
  · obtain ⟨a, x, y, rfl⟩ := of_len3 (l := l) (by have := of_decide_eq_true e; omega)
    simp only [mSeq, mIfS, mRet, mRetN, mAsg, mDrop, mTest, mBin, mChain, mTru, mAnd, mOr, mNot, mAndV, mOrV, mNotV, mIf, mVar, mC, mCons, mNil, mTup, mLst, mCB, mgName, mNext, mIt, mPar, mAug, lk, wLen_tup, wLe_int, wLt_int, wGt_int, wEq_int, wNe_int, wEq_str, wNe_str, wIx_tup, wAt0, wAt1, wAt2, wAt3, oW_s, tru_bl, List.set]
    refine pur_name h.2.2.1 fun S1 h1 => ?_
    refine ifB (fun e1 => ?_) fun e1 => ?_
    · refine pur_name (h.2.2.2.1.ex h1) fun S2 h2 => ?_
      have := k S2 (h1.trans h2)
      have e2 : twoB [a, x, y] = nameB y := by
        show (nameB x && nameB y) = _
        rw [e1, Bool.true_and]
      exact e2 ▸ this
    · have e2 : twoB [a, x, y] = false := by
        show (nameB x && nameB y) = _
        rw [e1, Bool.false_and]
      exact e2 ▸ k S1 h1
  · have e2 : twoB l = false := by
      have := of_decide_eq_false e
      unfold twoB
      split
      · exact absurd rfl this
      · rfl
    exact e2 ▸ k S Ex.refl
theorem vc_is_put (h : dat S (.tup l)) (k : ∀ S', Ex S S' → D.rt (.bl (putB l)) S') : m_x_is_put_by NameC D [some (.tup l)] S := by
  unfold m_x_is_put_by
  simp only [mSeq, mIfS, mRet, mRetN, mAsg, mDrop, mTest, mBin, mChain, mTru, mAnd, mOr, mNot, mAndV, mOrV, mNotV, mIf, mVar, mC, mCons, mNil, mTup, mLst, mCB, mgName, mNext, mIt, mPar, mAug, lk, wLen_tup, wLe_int, wLt_int, wGt_int, wEq_int, wNe_int, wEq_str, wNe_str, wIx_tup, wAt0, wAt1, wAt2, wAt3, oW_s, tru_bl, List.set]
  refine ifB (fun e => ?_) fun e => ?_
  · obtain ⟨a, x, y, z, rfl⟩ := of_len4 (l := l) (by have := of_decide_eq_true e; omega)
    simp only [mSeq, mIfS, mRet, mRetN, mAsg, mDrop, mTest, mBin, mChain, mTru, mAnd, mOr, mNot, mAndV, mOrV, mNotV, mIf, mVar, mC, mCons, mNil, mTup, mLst, mCB, mgName, mNext, mIt, mPar, mAug, lk, wLen_tup, wLe_int, wLt_int, wGt_int, wEq_int, wNe_int, wEq_str, wNe_str, wIx_tup, wAt0, wAt1, wAt2, wAt3, oW_s, tru_bl, List.set]
    exact pur_name h.2.2.1 k
  · have e2 : putB l = false := by
      have := of_decide_eq_false e
      unfold putB
      split
      · exact absurd rfl this
      · rfl
    exact e2 ▸ k S Ex.refl
theorem vc_is_made (h : dat S (.tup l)) (k : ∀ S', Ex S S' → D.rt (.bl (madeB l)) S') : m_x_is_made NameC NamesC D [some (.tup l)] S := by
  unfold m_x_is_made
  simp only [mSeq, mIfS, mRet, mRetN, mAsg, mDrop, mTest, mBin, mChain, mTru, mAnd, mOr, mNot, mAndV, mOrV, mNotV, mIf, mVar, mC, mCons, mNil, mTup, mLst, mCB, mgName, mNext, mIt, mPar, mAug, lk, wLen_tup, wLe_int, wLt_int, wGt_int, wEq_int, wNe_int, wEq_str, wNe_str, wIx_tup, wAt0, wAt1, wAt2, wAt3, oW_s, tru_bl, List.set]
  refine ifB (fun e => ?_) fun e => ?_
  · obtain ⟨a, x, y, rfl⟩ := of_len3 (l := l) (by have := of_decide_eq_true e; omega)
    simp only [mSeq, mIfS, mRet, mRetN, mAsg, mDrop, mTest, mBin, mChain, mTru, mAnd, mOr, mNot, mAndV, mOrV, mNotV, mIf, mVar, mC, mCons, mNil, mTup, mLst, mCB, mgName, mNext, mIt, mPar, mAug, lk, wLen_tup, wLe_int, wLt_int, wGt_int, wEq_int, wNe_int, wEq_str, wNe_str, wIx_tup, wAt0, wAt1, wAt2, wAt3, oW_s, tru_bl, List.set]
    refine pur_name h.2.2.1 fun S1 h1 => ?_
    refine ifB (fun e1 => ?_) fun e1 => ?_
    · refine pur_names (h.2.2.2.1.ex h1) fun S2 h2 => ?_
      have := k S2 (h1.trans h2)
      have e2 : madeB [a, x, y] = namesB y := by
        show (nameB x && namesB y) = _
        rw [e1, Bool.true_and]
      exact e2 ▸ this
    · have e2 : madeB [a, x, y] = false := by
        show (nameB x && namesB y) = _
        rw [e1, Bool.false_and]
      exact e2 ▸ k S1 h1
  · have e2 : madeB l = false := by
      have := of_decide_eq_false e
      unfold madeB
      split
      · exact absurd rfl this
      · rfl
    exact e2 ▸ k S Ex.refl
end
end EvT

set_option Elab.async false
set_option linter.all false
set_option maxRecDepth 100000
set_option maxHeartbeats 1000000
namespace EvT
open PySem PySem.Spec PyProof.Rows L2 Ow Ev
theorem in_strs (k : Str) : ∀ xs : List Str, inV (.str k) (xs.map V.str) = decide (k ∈ xs)
  | [] => rfl
  | x :: xs => by
    have ih := in_strs k xs
    unfold inV at ih ⊢
    rw [List.map_cons, List.any_cons, ih]
    show (x == k || _) = _
    by_cases h : x = k
    · subst h
      simp
    · have h2 : ¬ k = x := fun z => h z.symm
      simp [h, h2]
theorem flats (xs : List Str) : (xs.map W.str).all flatW = true := by
  induction xs with
  | nil => rfl
  | cons x xs ih => rw [List.map_cons, List.all_cons, ih]; rfl
theorem toVs (xs : List Str) : (xs.map W.str).map toV = xs.map V.str := by
  rw [List.map_map]
  rfl
theorem wIn_strs {neg : Bool} {z : Str} {xs : List Str} {S : Store} {Q : WK} (q : Q (.bl (neg ^^ decide (z ∈ xs))) S) : wInN neg (.str z) (.tup (xs.map W.str)) S Q := by
  refine ⟨⟨rfl, flats xs⟩, ?_⟩
  rw [toVs]
  show Q (.bl (neg ^^ inV (.str z) (xs.map V.str))) S
  rw [in_strs]
  exact q
theorem wIn_strsL {neg : Bool} {z : Str} {xs : List Str} {n : Nat} {S : Store} {Q : WK} (h : S[n]? = some (.lst (xs.map W.str))) (q : Q (.bl (neg ^^ decide (z ∈ xs))) S) : wInN neg (.str z) (.ref n) S Q := by
  show oIn (.str z) S[n]? fun b => Q (.bl (neg ^^ b)) S
  rw [h]
  refine ⟨⟨rfl, flats xs⟩, ?_⟩
  rw [toVs]
  show Q (.bl (neg ^^ inV (.str z) (xs.map V.str))) S
  rw [in_strs]
  exact q
theorem wIn_str2 {z x y : Str} {S : Store} {Q : WK} (q : Q (.bl (decide (z = x) || decide (z = y))) S) : wIn (.str z) (.tup [.str x, .str y]) S Q := by
  refine wIn_strs (xs := [x, y]) ?_
  have e : decide (z ∈ [x, y]) = (decide (z = x) || decide (z = y)) := by
    rw [← Bool.decide_or]
    rw [decide_eq_decide]
    simp
  rw [Bool.false_xor, e]
  exact q
theorem strs_of : ∀ {m : List W}, m.all nameB = true → m = (m.map strS).map W.str
  | [], _ => rfl
  | w :: m, h => by
    rw [List.all_cons, Bool.and_eq_true] at h
    rw [List.map_cons, List.map_cons, ← strs_of h.2]
    cases w with
    | str z => rfl
    | _ => cases h.1
section
variable {S : Store} {D : MD} {l : List W} {x : W}
theorem tup22 {x : W} (h : tupB x 2 2 = true) : ∃ a b, x = .tup [a, b] := by
  cases x with
  | tup l =>
    have h : (decide ((2 : Int) ≤ l.length) && decide ((l.length : Int) ≤ 2)) = true := h
    rw [Bool.and_eq_true] at h
    obtain ⟨a, b, rfl⟩ := of_len2 (l := l) (by have := of_decide_eq_true h.1; have := of_decide_eq_true h.2; omega)
    exact ⟨a, b, rfl⟩
  | _ => cases h
theorem tup33 {x : W} (h : tupB x 3 3 = true) : ∃ a b c, x = .tup [a, b, c] := by
  cases x with
  | tup l =>
    have h : (decide ((3 : Int) ≤ l.length) && decide ((l.length : Int) ≤ 3)) = true := h
    rw [Bool.and_eq_true] at h
    obtain ⟨a, b, c, rfl⟩ := of_len3 (l := l) (by have := of_decide_eq_true h.1; have := of_decide_eq_true h.2; omega)
    exact ⟨a, b, c, rfl⟩
  | _ => cases h
theorem vc_is_pair (h : dat S x) (k : ∀ S', Ex S S' → D.rt (.bl (pairB x)) S') : m_x_is_pair TupC NameC D [some x, none] S := by
  unfold m_x_is_pair
  simp only [mSeq, mIfS, mRet, mRetN, mAsg, mDrop, mTest, mBin, mChain, mTru, mAnd, mOr, mNot, mAndV, mOrV, mNotV, mIf, mVar, mC, mCons, mNil, mTup, mLst, mCB, mgName, mNext, mIt, mPar, mAug, lk, wLen_tup, wLe_int, wLt_int, wGt_int, wEq_int, wNe_int, wEq_str, wNe_str, wIx_tup, wAt0, wAt1, wAt2, wAt3, oW_s, tru_bl, List.set]
  have out : ∀ {S1 : Store}, Ex S S1 → pairB x = false → D.rt (.bl false) S1 := fun h e => e ▸ k _ h
  refine pur_tup h fun S1 h1 => ?_
  simp only [mSeq, mIfS, mRet, mRetN, mAsg, mDrop, mTest, mBin, mChain, mTru, mAnd, mOr, mNot, mAndV, mOrV, mNotV, mIf, mVar, mC, mCons, mNil, mTup, mLst, mCB, mgName, mNext, mIt, mPar, mAug, lk, wLen_tup, wLe_int, wLt_int, wGt_int, wEq_int, wNe_int, wEq_str, wNe_str, wIx_tup, wAt0, wAt1, wAt2, wAt3, oW_s, tru_bl, List.set]
  refine ifNB (fun e => ?_) fun e => ?_
  · refine ifT (out h1 ?_)
    unfold pairB
    split
    · cases e
    · rfl
  · obtain ⟨a, b, rfl⟩ := tup22 e
    simp only [mSeq, mIfS, mRet, mRetN, mAsg, mDrop, mTest, mBin, mChain, mTru, mAnd, mOr, mNot, mAndV, mOrV, mNotV, mIf, mVar, mC, mCons, mNil, mTup, mLst, mCB, mgName, mNext, mIt, mPar, mAug, lk, wLen_tup, wLe_int, wLt_int, wGt_int, wEq_int, wNe_int, wEq_str, wNe_str, wIx_tup, wAt0, wAt1, wAt2, wAt3, oW_s, tru_bl, List.set]
    refine pur_name (h.2.1.ex h1) fun S2 h2 => ?_
    have h12 := h1.trans h2
    simp only [mSeq, mIfS, mRet, mRetN, mAsg, mDrop, mTest, mBin, mChain, mTru, mAnd, mOr, mNot, mAndV, mOrV, mNotV, mIf, mVar, mC, mCons, mNil, mTup, mLst, mCB, mgName, mNext, mIt, mPar, mAug, lk, wLen_tup, wLe_int, wLt_int, wGt_int, wEq_int, wNe_int, wEq_str, wNe_str, wIx_tup, wAt0, wAt1, wAt2, wAt3, oW_s, tru_bl, List.set]
    refine ifNB (fun e1 => out h12 ?_) fun e1 => ?_
    · show (nameB a && worthB b) = false
      rw [e1, Bool.false_and]
    have ew : pairB (.tup [a, b]) = worthB b := by
      show (nameB a && worthB b) = _
      rw [e1, Bool.true_and]
    have hb : dat S2 b := h.2.2.1.ex h12
    refine isi_tup hb ?_
    simp only [mSeq, mIfS, mRet, mRetN, mAsg, mDrop, mTest, mBin, mChain, mTru, mAnd, mOr, mNot, mAndV, mOrV, mNotV, mIf, mVar, mC, mCons, mNil, mTup, mLst, mCB, mgName, mNext, mIt, mPar, mAug, lk, wLen_tup, wLe_int, wLt_int, wGt_int, wEq_int, wNe_int, wEq_str, wNe_str, wIx_tup, wAt0, wAt1, wAt2, wAt3, oW_s, tru_bl, List.set]
    refine ifNB (fun e2 => ?_) fun e2 => ?_
    · refine ifT (out h12 ?_)
      rw [ew]
      cases b <;> first | rfl | cases e2
    obtain ⟨m, rfl⟩ := isTup_tup e2
    simp only [mSeq, mIfS, mRet, mRetN, mAsg, mDrop, mTest, mBin, mChain, mTru, mAnd, mOr, mNot, mAndV, mOrV, mNotV, mIf, mVar, mC, mCons, mNil, mTup, mLst, mCB, mgName, mNext, mIt, mPar, mAug, lk, wLen_tup, wLe_int, wLt_int, wGt_int, wEq_int, wNe_int, wEq_str, wNe_str, wIx_tup, wAt0, wAt1, wAt2, wAt3, oW_s, tru_bl, List.set]
    cases m with
    | nil => exact iteT (ifT (out h12 (by rw [ew]; rfl)))
    | cons z r =>
      refine ifB (fun e3 => ?_) fun _ => ?_
      · have := of_decide_eq_true e3
        rw [List.length_cons] at this
        omega
      simp only [mSeq, mIfS, mRet, mRetN, mAsg, mDrop, mTest, mBin, mChain, mTru, mAnd, mOr, mNot, mAndV, mOrV, mNotV, mIf, mVar, mC, mCons, mNil, mTup, mLst, mCB, mgName, mNext, mIt, mPar, mAug, lk, wLen_tup, wLe_int, wLt_int, wGt_int, wEq_int, wNe_int, wEq_str, wNe_str, wIx_tup, wAt0, wAt1, wAt2, wAt3, oW_s, tru_bl, List.set]
      refine isi_str hb.2.1 ?_
      simp only [mSeq, mIfS, mRet, mRetN, mAsg, mDrop, mTest, mBin, mChain, mTru, mAnd, mOr, mNot, mAndV, mOrV, mNotV, mIf, mVar, mC, mCons, mNil, mTup, mLst, mCB, mgName, mNext, mIt, mPar, mAug, lk, wLen_tup, wLe_int, wLt_int, wGt_int, wEq_int, wNe_int, wEq_str, wNe_str, wIx_tup, wAt0, wAt1, wAt2, wAt3, oW_s, tru_bl, List.set]
      refine ifNB (fun e4 => out h12 ?_) fun e4 => ?_
      · rw [ew]
        cases z <;> first | rfl | cases e4
      obtain ⟨y, rfl⟩ := isStr_str e4
      refine ⟨by show 2 ≤ sizeLine; decide, wIn_str2 ?_⟩
      have := k S2 h12
      rw [ew] at this
      exact this
theorem vc_is_branch (h : dat S x) (k : ∀ S', Ex S S' → D.rt (.bl (branchB x)) S') : m_x_is_branch TupC NameC NamesC UnlikeC D [some x] S := by
  unfold m_x_is_branch
  simp only [mSeq, mIfS, mRet, mRetN, mAsg, mDrop, mTest, mBin, mChain, mTru, mAnd, mOr, mNot, mAndV, mOrV, mNotV, mIf, mVar, mC, mCons, mNil, mTup, mLst, mCB, mgName, mNext, mIt, mPar, mAug, lk, wLen_tup, wLe_int, wLt_int, wGt_int, wEq_int, wNe_int, wEq_str, wNe_str, wIx_tup, wAt0, wAt1, wAt2, wAt3, oW_s, tru_bl, List.set]
  have out : ∀ {S1 : Store}, Ex S S1 → branchB x = false → D.rt (.bl false) S1 := fun h e => e ▸ k _ h
  refine pur_tup h fun S1 h1 => ?_
  simp only [mSeq, mIfS, mRet, mRetN, mAsg, mDrop, mTest, mBin, mChain, mTru, mAnd, mOr, mNot, mAndV, mOrV, mNotV, mIf, mVar, mC, mCons, mNil, mTup, mLst, mCB, mgName, mNext, mIt, mPar, mAug, lk, wLen_tup, wLe_int, wLt_int, wGt_int, wEq_int, wNe_int, wEq_str, wNe_str, wIx_tup, wAt0, wAt1, wAt2, wAt3, oW_s, tru_bl, List.set]
  refine ifNB (fun e => ?_) fun e => ?_
  · refine ifT (out h1 ?_)
    unfold branchB
    split
    · cases e
    · rfl
  · obtain ⟨a, b, c, rfl⟩ := tup33 e
    simp only [mSeq, mIfS, mRet, mRetN, mAsg, mDrop, mTest, mBin, mChain, mTru, mAnd, mOr, mNot, mAndV, mOrV, mNotV, mIf, mVar, mC, mCons, mNil, mTup, mLst, mCB, mgName, mNext, mIt, mPar, mAug, lk, wLen_tup, wLe_int, wLt_int, wGt_int, wEq_int, wNe_int, wEq_str, wNe_str, wIx_tup, wAt0, wAt1, wAt2, wAt3, oW_s, tru_bl, List.set]
    refine pur_name (h.2.1.ex h1) fun S2 h2 => ?_
    have h12 := h1.trans h2
    simp only [mSeq, mIfS, mRet, mRetN, mAsg, mDrop, mTest, mBin, mChain, mTru, mAnd, mOr, mNot, mAndV, mOrV, mNotV, mIf, mVar, mC, mCons, mNil, mTup, mLst, mCB, mgName, mNext, mIt, mPar, mAug, lk, wLen_tup, wLe_int, wLt_int, wGt_int, wEq_int, wNe_int, wEq_str, wNe_str, wIx_tup, wAt0, wAt1, wAt2, wAt3, oW_s, tru_bl, List.set]
    refine ifNB (fun e1 => out h12 ?_) fun e1 => ?_
    · show (nameB a && (namesB b && unlikeB b)) = false
      rw [e1, Bool.false_and]
    have ew : branchB (.tup [a, b, c]) = (namesB b && unlikeB b) := by
      show (nameB a && (namesB b && unlikeB b)) = _
      rw [e1, Bool.true_and]
    have hb : dat S b := h.2.2.1
    refine pur_names (hb.ex h12) fun S3 h3 => ?_
    have h13 := h12.trans h3
    refine ifB (fun e2 => ?_) fun e2 => ?_
    · cases b with
      | tup m =>
        have hm : m.all nameB = true := by
          have : (tupB (.tup m) 0 3 && m.all nameB) = true := e2
          rw [Bool.and_eq_true] at this
          exact this.2
        have hl : m.length ≤ 3 := by
          have : (tupB (.tup m) 0 3 && m.all nameB) = true := e2
          rw [Bool.and_eq_true] at this
          have h3 : (decide ((0 : Int) ≤ m.length) && decide ((m.length : Int) ≤ 3)) = true := this.1
          rw [Bool.and_eq_true] at h3
          have := of_decide_eq_true h3.2
          omega
        refine un_call (xs := m.map strS) (by rw [← strs_of hm]; rfl) (by rw [List.length_map]; omega) fun S4 h4 => ?_
        have := k S4 (h13.trans h4)
        rw [ew, e2, Bool.true_and] at this
        exact this
      | _ => cases e2
    · have := k S3 h13
      rw [ew, e2, Bool.false_and] at this
      exact this
theorem filter_true {α : Type} : ∀ l : List α, l.filter (fun _ => true) = l
  | [] => rfl
  | a :: l => by rw [List.filter_cons_of_pos rfl, filter_true l]
/-- [p[0] for p in ps] of tuples that begin with texts -/
theorem firsts_ok {ps : List W} {m : ME} {i : Nat} {env : EvS} {Q : WK} {h0 : ∀ w : W, lk ((wpE env [i]).set i (some w)) i = some w} (hm : ∀ (S1 : Store) (R : (Store → Prop) → List W → Store → Prop), R (fun _ => True) ps S1 → mIt m env S1 R) (hl : ps.length ≤ sizeLine) (hp : ∀ p ∈ ps, ∃ z r, p = .tup (.str z :: r))
    (q : ∀ S', Ex S S' → S'[S.length]? = some (.lst ((ps.map fstS).map W.str)) → Q (.ref S.length) S') : mLc (mIt m) (mgName i) mYes (mBin wIx (mVar i) (mC (.int 0))) [i] env S Q := by
  refine hm S _ ?_
  refine lcL_ex (S0 := S) (fun _ => true) (fun w => .str (fstS w)) (fun w => (wpE env [i]).set i (some w)) (fun _ _ => trivial) ps [] (by simpa using hl) (fun w _ S2 R r => r) (fun w _ S2 k _ z => z S2 Ex.refl) (fun w hw _ S2 k _ z => ?_) (fun S2 h2 => ?_) _ Ex.refl
  · obtain ⟨y, r, rfl⟩ := hp w hw
    show mVar i _ S2 _
    unfold mVar
    rw [h0]
    exact z S2 Ex.refl
  · rw [filter_true] at h2
    obtain ⟨a, b⟩ := h2.new
    refine q S2 a ?_
    rw [b, List.nil_append, List.map_map]
    rfl
theorem pair_str {p : W} (h : pairB p = true) : ∃ z r, p = .tup (.str z :: r) := by
  unfold pairB at h
  split at h
  · rename_i n v
    rw [Bool.and_eq_true] at h
    cases n with
    | str z => exact ⟨z, [v], rfl⟩
    | _ => cases h.1
  · cases h
theorem branch_str {p : W} (h : branchB p = true) : ∃ z r, p = .tup (.str z :: r) := by
  unfold branchB at h
  split at h
  · rename_i n v u
    rw [Bool.and_eq_true] at h
    cases n with
    | str z => exact ⟨z, [v, u], rfl⟩
    | _ => cases h.1
  · cases h
theorem tup16 {x : W} (h : tupB x 1 6 = true) : ∃ m, x = .tup m ∧ m.length ≤ 6 := by
  cases x with
  | tup l =>
    have h : (decide ((1 : Int) ≤ l.length) && decide ((l.length : Int) ≤ 6)) = true := h
    rw [Bool.and_eq_true] at h
    exact ⟨l, rfl, by have := of_decide_eq_true h.2; omega⟩
  | _ => cases h
abbrev PairC : Con := Pur 1 (fun _ => True) fun a => match a with
  | [x] => .bl (pairB x)
  | _ => .non
abbrev BranchC : Con := Pur 1 (fun _ => True) fun a => match a with
  | [x] => .bl (branchB x)
  | _ => .non
theorem pur_pair {x : W} {S : Store} {Q : WK} (h : dat S x) (q : ∀ S', Ex S S' → Q (.bl (pairB x)) S') : conR PairC [x] S Q := pur_call rfl trivial ⟨h, trivial⟩ q
theorem pur_branch {x : W} {S : Store} {Q : WK} (h : dat S x) (q : ∀ S', Ex S S' → Q (.bl (branchB x)) S') : conR BranchC [x] S Q := pur_call rfl trivial ⟨h, trivial⟩ q
theorem vc_is_letall (h : dat S (.tup l)) (k : ∀ S', Ex S S' → D.rt (.bl (letallB l)) S') : m_x_is_letall TupC PairC UnlikeC D [some (.tup l), none] S := by
  unfold m_x_is_letall
  simp only [mSeq, mIfS, mRet, mRetN, mAsg, mDrop, mTest, mBin, mChain, mTru, mAnd, mOr, mNot, mAndV, mOrV, mNotV, mIf, mVar, mC, mCons, mNil, mTup, mLst, mCB, mgName, mNext, mIt, mPar, mAug, lk, wLen_tup, wLe_int, wLt_int, wGt_int, wEq_int, wNe_int, wEq_str, wNe_str, wIx_tup, wAt0, wAt1, wAt2, wAt3, oW_s, tru_bl, List.set]
  have out : ∀ {S1 : Store}, Ex S S1 → letallB l = false → D.rt (.bl false) S1 := fun h e => e ▸ k _ h
  refine ifNB (fun e => ?_) fun e => ?_
  · refine ifT (out Ex.refl ?_)
    have hn : ¬ l.length = 3 := fun z => by simp [z] at e
    unfold letallB
    split
    · exact absurd rfl hn
    · rfl
  · obtain ⟨a, x, y, rfl⟩ := of_len3 (l := l) (by have := of_decide_eq_true e; omega)
    simp only [mSeq, mIfS, mRet, mRetN, mAsg, mDrop, mTest, mBin, mChain, mTru, mAnd, mOr, mNot, mAndV, mOrV, mNotV, mIf, mVar, mC, mCons, mNil, mTup, mLst, mCB, mgName, mNext, mIt, mPar, mAug, lk, wLen_tup, wLe_int, wLt_int, wGt_int, wEq_int, wNe_int, wEq_str, wNe_str, wIx_tup, wAt0, wAt1, wAt2, wAt3, oW_s, tru_bl, List.set]
    have hx : dat S x := h.2.2.1
    refine pur_tup hx fun S1 h1 => ?_
    simp only [mSeq, mIfS, mRet, mRetN, mAsg, mDrop, mTest, mBin, mChain, mTru, mAnd, mOr, mNot, mAndV, mOrV, mNotV, mIf, mVar, mC, mCons, mNil, mTup, mLst, mCB, mgName, mNext, mIt, mPar, mAug, lk, wLen_tup, wLe_int, wLt_int, wGt_int, wEq_int, wNe_int, wEq_str, wNe_str, wIx_tup, wAt0, wAt1, wAt2, wAt3, oW_s, tru_bl, List.set]
    refine ifNB (fun e1 => out h1 ?_) fun e1 => ?_
    · unfold letallB
      dsimp only
      rw [e1, Bool.false_and]
    obtain ⟨ps, rfl, hl⟩ := tup16 e1
    have ew : letallB [a, .tup ps, y] = (ps.all pairB && decide ((ps.map fstS).Nodup)) := by
      unfold letallB
      dsimp only
      rw [e1, Bool.true_and]
    refine allL_ex (S0 := S1) pairB (fun w => [some (.tup [a, .tup ps, y]), some w]) (fun _ _ => trivial) ps (fun w _ S2 R r => r) (fun w hw S2 k2 hx2 q => pur_pair ((hx.2.mem hw).ex (h1.trans hx2)) q) (fun S2 h2 => ?_) S1 Ex.refl
    have h12 := h1.trans h2
    refine ifB (fun e2 => ?_) fun e2 => ?_
    · have e2' : ps.all pairB = true := e2
      refine firsts_ok (ps := ps) (h0 := fun _ => rfl) (fun S3 R r => r) (Nat.le_trans hl (by decide)) (fun p hp => pair_str (List.all_eq_true.mp e2' p hp)) fun S3 h3 at3 => ?_
      refine un_call (xs := ps.map fstS) ?_ (by rw [List.length_map]; omega) fun S4 h4 => ?_
      · show (match S3[S2.length]? with
          | some (.lst l) => some l
          | _ => none) = _
        rw [at3]
      · have := k S4 ((h12.trans h3).trans h4)
        rw [ew, e2', Bool.true_and] at this
        exact this
    · have e2' : ps.all pairB = false := e2
      have := k S2 h12
      rw [ew, e2', Bool.false_and] at this
      exact this
theorem vc_is_by (h : dat S (.tup l)) (k : ∀ S', Ex S S' → D.rt (.bl (byB l)) S') : m_x_is_by NameC TupC BranchC UnlikeC D [some (.tup l), none] S := by
  unfold m_x_is_by
  simp only [mSeq, mIfS, mRet, mRetN, mAsg, mDrop, mTest, mBin, mChain, mTru, mAnd, mOr, mNot, mAndV, mOrV, mNotV, mIf, mVar, mC, mCons, mNil, mTup, mLst, mCB, mgName, mNext, mIt, mPar, mAug, lk, wLen_tup, wLe_int, wLt_int, wGt_int, wEq_int, wNe_int, wEq_str, wNe_str, wIx_tup, wAt0, wAt1, wAt2, wAt3, oW_s, tru_bl, List.set]
  have out : ∀ {S1 : Store}, Ex S S1 → byB l = false → D.rt (.bl false) S1 := fun h e => e ▸ k _ h
  refine ifNB (fun e => ?_) fun e => ?_
  · refine ifT (out Ex.refl ?_)
    have hn : ¬ l.length = 3 := fun z => by simp [z] at e
    unfold byB
    split
    · exact absurd rfl hn
    · rfl
  · obtain ⟨a, n, x, rfl⟩ := of_len3 (l := l) (by have := of_decide_eq_true e; omega)
    simp only [mSeq, mIfS, mRet, mRetN, mAsg, mDrop, mTest, mBin, mChain, mTru, mAnd, mOr, mNot, mAndV, mOrV, mNotV, mIf, mVar, mC, mCons, mNil, mTup, mLst, mCB, mgName, mNext, mIt, mPar, mAug, lk, wLen_tup, wLe_int, wLt_int, wGt_int, wEq_int, wNe_int, wEq_str, wNe_str, wIx_tup, wAt0, wAt1, wAt2, wAt3, oW_s, tru_bl, List.set]
    have hx : dat S x := h.2.2.2.1
    refine pur_name h.2.2.1 fun S0 h0 => ?_
    simp only [mSeq, mIfS, mRet, mRetN, mAsg, mDrop, mTest, mBin, mChain, mTru, mAnd, mOr, mNot, mAndV, mOrV, mNotV, mIf, mVar, mC, mCons, mNil, mTup, mLst, mCB, mgName, mNext, mIt, mPar, mAug, lk, wLen_tup, wLe_int, wLt_int, wGt_int, wEq_int, wNe_int, wEq_str, wNe_str, wIx_tup, wAt0, wAt1, wAt2, wAt3, oW_s, tru_bl, List.set]
    refine ifNB (fun e0 => ?_) fun e0 => ?_
    · refine ifT (out h0 ?_)
      unfold byB
      dsimp only
      rw [e0, Bool.false_and]
    refine pur_tup (hx.ex h0) fun S1 h1' => ?_
    have h1 := h0.trans h1'
    simp only [mSeq, mIfS, mRet, mRetN, mAsg, mDrop, mTest, mBin, mChain, mTru, mAnd, mOr, mNot, mAndV, mOrV, mNotV, mIf, mVar, mC, mCons, mNil, mTup, mLst, mCB, mgName, mNext, mIt, mPar, mAug, lk, wLen_tup, wLe_int, wLt_int, wGt_int, wEq_int, wNe_int, wEq_str, wNe_str, wIx_tup, wAt0, wAt1, wAt2, wAt3, oW_s, tru_bl, List.set]
    refine ifNB (fun e1 => out h1 ?_) fun e1 => ?_
    · unfold byB
      dsimp only
      rw [e0, e1, Bool.false_and, Bool.and_false]
    obtain ⟨ps, rfl, hl⟩ := tup16 e1
    have ew : byB [a, n, .tup ps] = (ps.all branchB && decide ((ps.map fstS).Nodup)) := by
      unfold byB
      dsimp only
      rw [e0, e1, Bool.true_and, Bool.true_and]
    refine allL_ex (S0 := S1) branchB (fun w => [some (.tup [a, n, .tup ps]), some w]) (fun _ _ => trivial) ps (fun w _ S2 R r => r) (fun w hw S2 k2 hx2 q => pur_branch ((hx.2.mem hw).ex (h1.trans hx2)) q) (fun S2 h2 => ?_) S1 Ex.refl
    have h12 := h1.trans h2
    refine ifB (fun e2 => ?_) fun e2 => ?_
    · have e2' : ps.all branchB = true := e2
      refine firsts_ok (ps := ps) (h0 := fun _ => rfl) (fun S3 R r => r) (Nat.le_trans hl (by decide)) (fun p hp => branch_str (List.all_eq_true.mp e2' p hp)) fun S3 h3 at3 => ?_
      refine un_call (xs := ps.map fstS) ?_ (by rw [List.length_map]; omega) fun S4 h4 => ?_
      · show (match S3[S2.length]? with
          | some (.lst l) => some l
          | _ => none) = _
        rw [at3]
      · have := k S4 ((h12.trans h3).trans h4)
        rw [ew, e2', Bool.true_and] at this
        exact this
    · have e2' : ps.all branchB = false := e2
      have := k S2 h12
      rw [ew, e2', Bool.false_and] at this
      exact this
end
end EvT

set_option Elab.async false
set_option linter.all false
set_option maxRecDepth 100000
set_option maxHeartbeats 1000000
namespace EvT
open PySem PySem.Spec PyProof.Rows L2 Ow Ev
/-- by the word: what the tuple must be -/
def kindOf (z : Str) : Option (List W → Bool) :=
  if z = "num" then some numB else if z = "name" then some askB else if z = "fun" then some funB else if z = "call" then some twoB else if z = "let" then some putB else if z = "now" then some putB
  else if z = "letall" then some letallB else if z = "made" then some madeB else if z = "by" then some byB else if z = "sum" then some twoB else if z = "minus" then some twoB else if z = "less" then some twoB else if z = "same" then some twoB else none
def shapedB (x : W) : Bool := match x with
  | .tup (.str z :: r) => match kindOf z with
    | some g => g (.str z :: r)
    | none => false
  | _ => false
section
variable {S : Store} {D : MD} {l : List W} {x : W} {T : Str → Option Addr} {CA : Addr → Option Con}
theorem vc_is_shaped (hT : ∀ z, (T z).isSome = (kindOf z).isSome) (hC : ∀ z a g, T z = some a → kindOf z = some g → CA a = some (TC g)) (h : dat S x) (k : ∀ S', Ex S S' → D.rt (.bl (shapedB x)) S') : m_x_is_shaped T CA D [some x, none] S := by
  unfold m_x_is_shaped
  simp only [mSeq, mIfS, mRet, mRetN, mAsg, mDrop, mTest, mBin, mChain, mTru, mAnd, mOr, mNot, mAndV, mOrV, mNotV, mIf, mVar, mC, mCons, mNil, mTup, mLst, mCB, mgName, mNext, mIt, mPar, mAug, lk, wLen_tup, wLe_int, wLt_int, wGt_int, wEq_int, wNe_int, wEq_str, wNe_str, wIx_tup, wAt0, wAt1, wAt2, wAt3, oW_s, tru_bl, List.set]
  have out : shapedB x = false → D.rt (.bl false) S := fun e => e ▸ k S Ex.refl
  refine isi_tup h ?_
  simp only [mSeq, mIfS, mRet, mRetN, mAsg, mDrop, mTest, mBin, mChain, mTru, mAnd, mOr, mNot, mAndV, mOrV, mNotV, mIf, mVar, mC, mCons, mNil, mTup, mLst, mCB, mgName, mNext, mIt, mPar, mAug, lk, wLen_tup, wLe_int, wLt_int, wGt_int, wEq_int, wNe_int, wEq_str, wNe_str, wIx_tup, wAt0, wAt1, wAt2, wAt3, oW_s, tru_bl, List.set]
  refine ifNB (fun e => ?_) fun e => ?_
  · refine ifT (out ?_)
    cases x <;> first | rfl | cases e
  obtain ⟨m, rfl⟩ := isTup_tup e
  simp only [mSeq, mIfS, mRet, mRetN, mAsg, mDrop, mTest, mBin, mChain, mTru, mAnd, mOr, mNot, mAndV, mOrV, mNotV, mIf, mVar, mC, mCons, mNil, mTup, mLst, mCB, mgName, mNext, mIt, mPar, mAug, lk, wLen_tup, wLe_int, wLt_int, wGt_int, wEq_int, wNe_int, wEq_str, wNe_str, wIx_tup, wAt0, wAt1, wAt2, wAt3, oW_s, tru_bl, List.set]
  cases m with
  | nil => exact iteT (ifT (out rfl))
  | cons z r =>
    refine ifB (fun e3 => ?_) fun _ => ?_
    · have := of_decide_eq_true e3
      rw [List.length_cons] at this
      omega
    simp only [mSeq, mIfS, mRet, mRetN, mAsg, mDrop, mTest, mBin, mChain, mTru, mAnd, mOr, mNot, mAndV, mOrV, mNotV, mIf, mVar, mC, mCons, mNil, mTup, mLst, mCB, mgName, mNext, mIt, mPar, mAug, lk, wLen_tup, wLe_int, wLt_int, wGt_int, wEq_int, wNe_int, wEq_str, wNe_str, wIx_tup, wAt0, wAt1, wAt2, wAt3, oW_s, tru_bl, List.set]
    refine isi_str h.2.1 ?_
    simp only [mSeq, mIfS, mRet, mRetN, mAsg, mDrop, mTest, mBin, mChain, mTru, mAnd, mOr, mNot, mAndV, mOrV, mNotV, mIf, mVar, mC, mCons, mNil, mTup, mLst, mCB, mgName, mNext, mIt, mPar, mAug, lk, wLen_tup, wLe_int, wLt_int, wGt_int, wEq_int, wNe_int, wEq_str, wNe_str, wIx_tup, wAt0, wAt1, wAt2, wAt3, oW_s, tru_bl, List.set]
    refine ifNB (fun e4 => out ?_) fun e4 => ?_
    · cases z <;> first | rfl | cases e4
    obtain ⟨y, rfl⟩ := isStr_str e4
    unfold mInKD mIxKD mCallL
    simp only [mSeq, mIfS, mRet, mRetN, mAsg, mDrop, mTest, mBin, mChain, mTru, mAnd, mOr, mNot, mAndV, mOrV, mNotV, mIf, mVar, mC, mCons, mNil, mTup, mLst, mCB, mgName, mNext, mIt, mPar, mAug, lk, wLen_tup, wLe_int, wLt_int, wGt_int, wEq_int, wNe_int, wEq_str, wNe_str, wIx_tup, wAt0, wAt1, wAt2, wAt3, oW_s, tru_bl, List.set]
    rw [Bool.true_xor, hT y]
    cases hk : kindOf y with
    | none =>
      refine iteT (out ?_)
      show (match kindOf y with
        | some g => g (.str y :: r)
        | none => false) = false
      rw [hk]
    | some g =>
      refine iteF ?_
      cases ht : T y with
      | none =>
        have := hT y
        rw [ht, hk] at this
        cases this
      | some a =>
        show ∃ C, CA a = some C ∧ _
        refine ⟨_, hC y a g ht hk, ?_⟩
        have e5 : shapedB (.tup (.str y :: r)) = g (.str y :: r) := by
          show (match kindOf y with
            | some g => g (.str y :: r)
            | none => false) = _
          rw [hk]
        refine pur_call rfl ⟨_, rfl⟩ ⟨h, trivial⟩ fun S2 h2 => ?_
        have := k S2 h2
        rw [e5] at this
        exact this
end
end EvT

set_option Elab.async false
set_option linter.all false
set_option maxRecDepth 100000
set_option maxHeartbeats 4000000
/-! Terms: what they are, how they lie in the heap, which names are free. -/
namespace OwT
open PySem PySem.Spec PyProof.Rows L2 Ow
mutual
inductive T where
  | num (n : Int)
  | nam (x : Str)
  | fn (x : Str) (e : T)
  | two (w x y : Str)
  | lt (w x : Str) (e b : T)
  | all (ps : Ps) (b : T)
  | mk (c : Str) (xs : List Str)
  | by_ (x : Str) (bs : Bs)
inductive Ps where
  | nil
  | cons (x : Str) (e : T) (r : Ps)
inductive Bs where
  | nil
  | cons (c : Str) (ys : List Str) (e : T) (r : Bs)
end
def twos : List Str := ["call", "sum", "minus", "less", "same"]
mutual
inductive Tp (K : PySem.W.Frag) (H : Hp) : V → T → Prop
  | num {a : Addr} {n : Int} : SqT K H a [.str "num", .int n] → Tp K H (.ref a) (.num n)
  | nam {a : Addr} {x : Str} : SqT K H a [.str "name", .str x] → Tp K H (.ref a) (.nam x)
  | fn {a : Addr} {x : Str} {v : V} {e : T} : SqT K H a [.str "fun", .str x, v] → Tp K H v e → Tp K H (.ref a) (.fn x e)
  | two {a : Addr} {w x y : Str} : w ∈ twos → SqT K H a [.str w, .str x, .str y] → Tp K H (.ref a) (.two w x y)
  | lt {a : Addr} {w x : Str} {v u : V} {e b : T} : w = "let" ∨ w = "now" → SqT K H a [.str w, .str x, v, u] → Tp K H v e → Tp K H u b → Tp K H (.ref a) (.lt w x e b)
  | all {a q : Addr} {vs : List V} {u : V} {ps : Ps} {b : T} : SqT K H a [.str "letall", .ref q, u] → SqT K H q vs → PsP K H vs ps → Tp K H u b → Tp K H (.ref a) (.all ps b)
  | mk {a q : Addr} {c : Str} {xs : List Str} : SqT K H a [.str "made", .str c, .ref q] → SqT K H q (xs.map V.str) → Tp K H (.ref a) (.mk c xs)
  | by_ {a q : Addr} {x : Str} {vs : List V} {bs : Bs} : SqT K H a [.str "by", .str x, .ref q] → SqT K H q vs → BsP K H vs bs → Tp K H (.ref a) (.by_ x bs)
inductive PsP (K : PySem.W.Frag) (H : Hp) : List V → Ps → Prop
  | nil : PsP K H [] .nil
  | cons {q : Addr} {x : Str} {v : V} {vs : List V} {e : T} {r : Ps} : SqT K H q [.str x, v] → Tp K H v e → PsP K H vs r → PsP K H (.ref q :: vs) (.cons x e r)
inductive BsP (K : PySem.W.Frag) (H : Hp) : List V → Bs → Prop
  | nil : BsP K H [] .nil
  | cons {q z : Addr} {c : Str} {ys : List Str} {v : V} {vs : List V} {e : T} {r : Bs} : SqT K H q [.str c, .ref z, v] → SqT K H z (ys.map V.str) → Tp K H v e → BsP K H vs r → BsP K H (.ref q :: vs) (.cons c ys e r)
end
/-- tuples stay -/
def TS (K : PySem.W.Frag) (H H' : Hp) : Prop := ∀ a xs, SqT K H a xs → SqT K H' a xs
section
variable {K : PySem.W.Frag} {H H' H1 : Hp}
theorem TS.refl : TS K H H := fun _ _ h => h
theorem TS.trans (x : TS K H H1) (y : TS K H1 H') : TS K H H' := fun a xs h => y a xs (x a xs h)
theorem TS.of (k : ∀ b xs, (H b = some (.tup xs) → H' b = some (.tup xs)) ∧ ∀ o, H b = some (.frz o (.tup xs)) → H' b = some (.frz o (.tup xs))) : TS K H H' := fun a xs h => by
  rcases h with (h | ⟨o, h⟩) | h
  · exact .inl (.inl ((k a xs).1 h))
  · exact .inl (.inr ⟨o, (k a xs).2 o h⟩)
  · exact .inr h
theorem TS.same (s : Same H H') : TS K H H' := TS.of fun b xs => ⟨fun h => s b _ h, fun o h => s b _ h⟩
/-- a list (or a dict, a set) is changed -/
theorem TS.set {p : Addr} {o o' : HO} (h : H p = some o) (n1 : ∀ xs, o ≠ .tup xs) (n2 : ∀ u xs, o ≠ .frz u (.tup xs)) : TS K H (upd H p o') := TS.of fun b xs => by
  have ne : ∀ u, H b = some u → (u = .tup xs ∨ ∃ z, u = .frz z (.tup xs)) → b ≠ p := fun u e q z => by
    subst z
    rw [h] at e
    cases e
    rcases q with q | ⟨z, q⟩
    · exact n1 _ q
    · exact n2 _ _ q
  exact ⟨fun e => by rw [upd_ne (ne _ e (.inl rfl))]; exact e, fun u e => by rw [upd_ne (ne _ e (.inr ⟨u, rfl⟩))]; exact e⟩
theorem TS.new {p : Addr} {o : HO} (h : H p = none) : TS K H (upd H p o) := TS.same (same_upd h)
theorem TS.but {p : Addr} (b : But p H H') {o : HO} (h : H p = some o) (n1 : ∀ xs, o ≠ .tup xs) (n2 : ∀ u xs, o ≠ .frz u (.tup xs)) : TS K H H' := TS.of fun c xs => by
  have ne : ∀ u, H c = some u → (u = .tup xs ∨ ∃ z, u = .frz z (.tup xs)) → c ≠ p := fun u e q z => by
    subst z
    rw [h] at e
    cases e
    rcases q with q | ⟨z, q⟩
    · exact n1 _ q
    · exact n2 _ _ q
  exact ⟨fun e => by rw [b c (ne _ e (.inl rfl))]; exact e, fun u e => by rw [b c (ne _ e (.inr ⟨u, rfl⟩))]; exact e⟩
mutual
theorem Tp.keep (s : TS K H H') : ∀ {v : V} {t : T}, Tp K H v t → Tp K H' v t
  | _, _, .num h => .num (s _ _ h)
  | _, _, .nam h => .nam (s _ _ h)
  | _, _, .fn h e => .fn (s _ _ h) (Tp.keep s e)
  | _, _, .two w h => .two w (s _ _ h)
  | _, _, .lt w h e b => .lt w (s _ _ h) (Tp.keep s e) (Tp.keep s b)
  | _, _, .all h q ps b => .all (s _ _ h) (s _ _ q) (PsP.keep s ps) (Tp.keep s b)
  | _, _, .mk h q => .mk (s _ _ h) (s _ _ q)
  | _, _, .by_ h q bs => .by_ (s _ _ h) (s _ _ q) (BsP.keep s bs)
theorem PsP.keep (s : TS K H H') : ∀ {vs : List V} {ps : Ps}, PsP K H vs ps → PsP K H' vs ps
  | _, _, .nil => .nil
  | _, _, .cons h e r => .cons (s _ _ h) (Tp.keep s e) (PsP.keep s r)
theorem BsP.keep (s : TS K H H') : ∀ {vs : List V} {bs : Bs}, BsP K H vs bs → BsP K H' vs bs
  | _, _, .nil => .nil
  | _, _, .cons h z e r => .cons (s _ _ h) (s _ _ z) (Tp.keep s e) (BsP.keep s r)
end
end
/-! ### free names -/
def Ps.names : Ps → List Str
  | .nil => []
  | .cons x _ r => x :: r.names
mutual
def Free (k : Str) : T → Prop
  | .num _ => False
  | .nam x => k = x
  | .fn x e => Free k e ∧ k ≠ x
  | .two _ x y => k = x ∨ k = y
  | .lt _ x e b => Free k e ∨ (Free k b ∧ k ≠ x)
  | .all ps b => (FreePs k ps ∨ Free k b) ∧ k ∉ ps.names
  | .mk _ xs => k ∈ xs
  | .by_ x bs => k = x ∨ FreeBs k bs
def FreePs (k : Str) : Ps → Prop
  | .nil => False
  | .cons _ e r => Free k e ∨ FreePs k r
def FreeBs (k : Str) : Bs → Prop
  | .nil => False
  | .cons _ ys e r => (Free k e ∧ k ∉ ys) ∨ FreeBs k r
end
mutual
def size : T → Nat
  | .num _ => 1
  | .nam _ => 1
  | .fn _ e => 2 + size e
  | .two _ _ _ => 1
  | .lt _ _ e b => 2 + size e + size b
  | .all ps b => 1 + sizePs ps + size b
  | .mk _ xs => 1 + xs.length
  | .by_ _ bs => 1 + sizeBs bs
def sizePs : Ps → Nat
  | .nil => 0
  | .cons _ e r => 1 + size e + sizePs r
def sizeBs : Bs → Nat
  | .nil => 0
  | .cons _ ys e r => 1 + ys.length + size e + sizeBs r
end
/-- the names that a term has itself -/
def nmd : T → List Str
  | .nam x => [x]
  | .two _ x y => [x, y]
  | .mk _ xs => xs
  | .by_ x _ => [x]
  | _ => []
def Ps.subs (ns : List Str) : Ps → List (T × List Str)
  | .nil => []
  | .cons _ e r => (e, ns) :: r.subs ns
def Bs.subs : Bs → List (T × List Str)
  | .nil => []
  | .cons _ ys e r => (e, ys) :: r.subs
/-- the terms of a term, with the names bound there -/
def wn : T → List (T × List Str)
  | .fn x e => [(e, [x])]
  | .lt _ x e b => [(e, []), (b, [x])]
  | .all ps b => ps.subs ps.names ++ [(b, ps.names)]
  | .by_ _ bs => bs.subs
  | _ => []
def sizes (l : List (T × List Str)) : Nat := (l.map fun p => size p.1).sum
theorem sizes_nil : sizes [] = 0 := rfl
theorem sizes_cons (p : T × List Str) (l : List (T × List Str)) : sizes (p :: l) = size p.1 + sizes l := by
  unfold sizes
  rw [List.map_cons, List.sum_cons]
theorem sizes_app (l m : List (T × List Str)) : sizes (l ++ m) = sizes l + sizes m := by
  unfold sizes
  rw [List.map_append, List.sum_append]
theorem sizes_ps (ns : List Str) : ∀ ps : Ps, sizes (ps.subs ns) + ps.names.length = sizePs ps
  | .nil => rfl
  | .cons _ e r => by
    have ih := sizes_ps ns r
    unfold Ps.subs sizePs Ps.names
    rw [sizes_cons, List.length_cons]
    dsimp only
    omega
theorem sizes_bs : ∀ bs : Bs, sizes bs.subs ≤ sizeBs bs
  | .nil => Nat.le_refl _
  | .cons _ ys e r => by
    have ih := sizes_bs r
    unfold Bs.subs sizeBs
    rw [sizes_cons]
    dsimp only
    omega
theorem each_bs : ∀ bs : Bs, ∀ p ∈ bs.subs, p.2.length + size p.1 ≤ sizeBs bs
  | .nil, p, h => by cases h
  | .cons _ ys e r, p, h => by
    unfold Bs.subs at h
    unfold sizeBs
    rcases List.mem_cons.mp h with rfl | h
    · dsimp only
      omega
    · have := each_bs r p h
      omega
theorem each_ps (ns : List Str) : ∀ ps : Ps, ∀ p ∈ ps.subs ns, p.2 = ns ∧ size p.1 + ps.names.length ≤ sizePs ps
  | .nil, p, h => by cases h
  | .cons _ e r, p, h => by
    unfold Ps.subs at h
    have ih := sizes_ps ns r
    unfold sizePs Ps.names
    rw [List.length_cons]
    rcases List.mem_cons.mp h with rfl | h
    · refine ⟨rfl, ?_⟩
      dsimp only
      omega
    · obtain ⟨a, b⟩ := each_ps ns r p h
      exact ⟨a, by omega⟩
theorem sizes_wn (t : T) : sizes (wn t) + 1 ≤ size t := by
  cases t with
  | num n => exact Nat.le_refl _
  | nam x => exact Nat.le_refl _
  | fn x e =>
    unfold wn size
    rw [sizes_cons, sizes_nil]
    dsimp only
    omega
  | two w x y => exact Nat.le_refl _
  | lt w x e b =>
    unfold wn size
    rw [sizes_cons, sizes_cons, sizes_nil]
    dsimp only
    omega
  | all ps b =>
    unfold wn size
    have := sizes_ps ps.names ps
    rw [sizes_app, sizes_cons, sizes_nil]
    dsimp only
    omega
  | mk c xs =>
    show 0 + 1 ≤ 1 + xs.length
    omega
  | by_ x bs =>
    have := sizes_bs bs
    show sizes bs.subs + 1 ≤ 1 + sizeBs bs
    omega
theorem each_wn (t : T) : ∀ p ∈ wn t, p.2.length + size p.1 + 1 ≤ size t := by
  intro p hp
  cases t with
  | num n => cases hp
  | nam x => cases hp
  | fn x e =>
    unfold wn at hp
    cases List.mem_singleton.mp hp
    show 1 + size e + 1 ≤ 2 + size e
    omega
  | two w x y => cases hp
  | lt w x e b =>
    unfold wn at hp
    rcases List.mem_cons.mp hp with rfl | hp
    · show 0 + size e + 1 ≤ 2 + size e + size b
      omega
    · cases List.mem_singleton.mp hp
      show 1 + size b + 1 ≤ 2 + size e + size b
      omega
  | all ps b =>
    unfold wn at hp
    have h0 := sizes_ps ps.names ps
    rcases List.mem_append.mp hp with hp | hp
    · obtain ⟨a, c⟩ := each_ps ps.names ps p hp
      rw [a]
      show ps.names.length + size p.1 + 1 ≤ 1 + sizePs ps + size b
      omega
    · cases List.mem_singleton.mp hp
      show ps.names.length + size b + 1 ≤ 1 + sizePs ps + size b
      omega
  | mk c xs => cases hp
  | by_ x bs =>
    have := each_bs bs p hp
    show p.2.length + size p.1 + 1 ≤ 1 + sizeBs bs
    omega
theorem free_ps (k : Str) (ns : List Str) : ∀ ps : Ps, (∃ p ∈ ps.subs ns, Free k p.1 ∧ k ∉ p.2) ↔ FreePs k ps ∧ k ∉ ns
  | .nil => by
    unfold Ps.subs FreePs
    simp
  | .cons _ e r => by
    have ih := free_ps k ns r
    unfold Ps.subs FreePs
    constructor
    · rintro ⟨p, hp, h1, h2⟩
      rcases List.mem_cons.mp hp with rfl | hp
      · exact ⟨.inl h1, h2⟩
      · obtain ⟨a, b⟩ := ih.mp ⟨p, hp, h1, h2⟩
        exact ⟨.inr a, b⟩
    · rintro ⟨h | h, h2⟩
      · exact ⟨_, List.mem_cons_self, h, h2⟩
      · obtain ⟨p, hp, q⟩ := ih.mpr ⟨h, h2⟩
        exact ⟨p, List.mem_cons_of_mem _ hp, q⟩
theorem free_bs (k : Str) : ∀ bs : Bs, (∃ p ∈ bs.subs, Free k p.1 ∧ k ∉ p.2) ↔ FreeBs k bs
  | .nil => by
    unfold Bs.subs FreeBs
    simp
  | .cons _ ys e r => by
    have ih := free_bs k r
    unfold Bs.subs FreeBs
    constructor
    · rintro ⟨p, hp, h⟩
      rcases List.mem_cons.mp hp with rfl | hp
      · exact .inl h
      · exact .inr (ih.mp ⟨p, hp, h⟩)
    · rintro (h | h)
      · exact ⟨_, List.mem_cons_self, h⟩
      · obtain ⟨p, hp, q⟩ := ih.mpr h
        exact ⟨p, List.mem_cons_of_mem _ hp, q⟩
theorem free_iff (k : Str) (t : T) : Free k t ↔ k ∈ nmd t ∨ ∃ p ∈ wn t, Free k p.1 ∧ k ∉ p.2 := by
  cases t with
  | num n =>
    unfold Free nmd wn
    simp
  | nam x =>
    unfold Free nmd wn
    simp
  | fn x e =>
    show (Free k e ∧ k ≠ x) ↔ k ∈ ([] : List Str) ∨ ∃ p ∈ [(e, [x])], Free k p.1 ∧ k ∉ p.2
    simp
  | two w x y =>
    unfold Free nmd wn
    simp
  | lt w x e b =>
    show (Free k e ∨ (Free k b ∧ k ≠ x)) ↔ k ∈ ([] : List Str) ∨ ∃ p ∈ [(e, []), (b, [x])], Free k p.1 ∧ k ∉ p.2
    simp
  | all ps b =>
    show ((FreePs k ps ∨ Free k b) ∧ k ∉ ps.names) ↔ k ∈ ([] : List Str) ∨ ∃ p ∈ ps.subs ps.names ++ [(b, ps.names)], Free k p.1 ∧ k ∉ p.2
    constructor
    · rintro ⟨h | h, h2⟩
      · obtain ⟨p, hp, q⟩ := (free_ps k ps.names ps).mpr ⟨h, h2⟩
        exact .inr ⟨p, List.mem_append_left _ hp, q⟩
      · exact .inr ⟨_, List.mem_append_right _ (List.mem_singleton.mpr rfl), h, h2⟩
    · rintro (h | ⟨p, hp, h1, h2⟩)
      · cases h
      · rcases List.mem_append.mp hp with hp | hp
        · obtain ⟨a, b⟩ := (free_ps k ps.names ps).mp ⟨p, hp, h1, h2⟩
          exact ⟨.inl a, b⟩
        · cases List.mem_singleton.mp hp
          exact ⟨.inr h1, h2⟩
  | mk c xs =>
    unfold Free nmd wn
    simp
  | by_ x bs =>
    show (k = x ∨ FreeBs k bs) ↔ k ∈ [x] ∨ ∃ p ∈ bs.subs, Free k p.1 ∧ k ∉ p.2
    rw [free_bs]
    simp
end OwT
namespace OwT
open PySem PySem.Spec PyProof.Rows L2 Ow
/-- the list of pairs (term, names) -/
inductive Subs (K : PySem.W.Frag) (H : Hp) : List V → List (T × List Str) → Prop
  | nil : Subs K H [] []
  | cons {q b : Addr} {v : V} {vs : List V} {t : T} {ns : List Str} {r : List (T × List Str)} : SqT K H q [v, .ref b] → Tp K H v t → SqT K H b (ns.map V.str) → Subs K H vs r → Subs K H (.ref q :: vs) ((t, ns) :: r)
section
variable {K : PySem.W.Frag} {H H' H1 : Hp}
theorem Subs.keep (s : TS K H H') : ∀ {vs : List V} {l : List (T × List Str)}, Subs K H vs l → Subs K H' vs l
  | _, _, .nil => .nil
  | _, _, .cons a b c d => .cons (s _ _ a) (b.keep s) (s _ _ c) (Subs.keep s d)
theorem Subs.snoc {q b : Addr} {v : V} {t : T} {ns : List Str} (h1 : SqT K H q [v, .ref b]) (h2 : Tp K H v t) (h3 : SqT K H b (ns.map V.str)) : ∀ {vs : List V} {l : List (T × List Str)}, Subs K H vs l → Subs K H (vs ++ [.ref q]) (l ++ [(t, ns)])
  | _, _, .nil => .cons h1 h2 h3 .nil
  | _, _, .cons a b c d => .cons a b c (Subs.snoc h1 h2 h3 d)
theorem Subs.app {us : List V} {m : List (T × List Str)} (k : Subs K H us m) : ∀ {vs : List V} {l : List (T × List Str)}, Subs K H vs l → Subs K H (vs ++ us) (l ++ m)
  | _, _, .nil => k
  | _, _, .cons a b c d => .cons a b c (Subs.app k d)
theorem subs_at : ∀ (vs : List V) (l : List (T × List Str)) (i : Nat) (x : V), Subs K H vs l → vs[i]? = some x → ∃ q b v t ns, x = .ref q ∧ SqT K H q [v, .ref b] ∧ Tp K H v t ∧ SqT K H b (ns.map V.str) ∧ l[i]? = some (t, ns)
  | _, _, _, _, .nil, h => by simp at h
  | _, _, 0, _, .cons a b c _, h => by
    cases h
    exact ⟨_, _, _, _, _, rfl, a, b, c, rfl⟩
  | _, _, i + 1, x, .cons _ _ _ d, h => subs_at _ _ i x d h
theorem Subs.len : ∀ {vs : List V} {l : List (T × List Str)}, Subs K H vs l → vs.length = l.length
  | _, _, .nil => rfl
  | _, _, .cons _ _ _ d => congrArg (· + 1) d.len
theorem ps_at (ns : List Str) : ∀ (vs : List V) (ps : Ps) (i : Nat) (x : V), PsP K H vs ps → vs[i]? = some x → ∃ q nm v e, x = .ref q ∧ SqT K H q [.str nm, v] ∧ Tp K H v e ∧ ps.names[i]? = some nm ∧ (ps.subs ns)[i]? = some (e, ns)
  | _, _, _, _, .nil, h => by simp at h
  | _, _, 0, _, .cons a b _, h => by
    cases h
    exact ⟨_, _, _, _, rfl, a, b, rfl, rfl⟩
  | _, _, i + 1, x, .cons _ _ d, h => ps_at ns _ _ i x d h
theorem PsP.len : ∀ {vs : List V} {ps : Ps}, PsP K H vs ps → ps.names.length = vs.length
  | _, _, .nil => rfl
  | _, _, .cons _ _ d => congrArg (· + 1) d.len
theorem PsP.lenS (ns : List Str) : ∀ {vs : List V} {ps : Ps}, PsP K H vs ps → (ps.subs ns).length = vs.length
  | _, _, .nil => rfl
  | _, _, .cons _ _ d => congrArg (· + 1) (d.lenS ns)
theorem bs_at : ∀ (vs : List V) (bs : Bs) (i : Nat) (x : V), BsP K H vs bs → vs[i]? = some x → ∃ q c z ys v e, x = .ref q ∧ SqT K H q [.str c, .ref z, v] ∧ SqT K H z (ys.map V.str) ∧ Tp K H v e ∧ bs.subs[i]? = some (e, ys)
  | _, _, _, _, .nil, h => by simp at h
  | _, _, 0, _, .cons a b c _, h => by
    cases h
    exact ⟨_, _, _, _, _, _, rfl, a, b, c, rfl⟩
  | _, _, i + 1, x, .cons _ _ _ d, h => bs_at _ _ i x d h
theorem BsP.lenS : ∀ {vs : List V} {bs : Bs}, BsP K H vs bs → bs.subs.length = vs.length
  | _, _, .nil => rfl
  | _, _, .cons _ _ _ d => congrArg (· + 1) d.lenS
theorem same_set {D : Addr} {o : HO} (s : Same H H1) (hD : H D = none) : Same H (upd H1 D o) := fun b u e => by
  rw [upd_ne (ne_of_none e hD)]
  exact s b u e
theorem take_snoc {α : Type} {l : List α} {i : Nat} {x : α} (h : l[i]? = some x) : l.take (i + 1) = l.take i ++ [x] := by
  rw [List.take_add_one, h]
  rfl
/-- the tuples' lengths are within the line -/
theorem sqt_len {X : Cx} {pins : List (Addr × Obj)} {σ : L2.St} {s : Shared} {a : Addr} {xs : List V} (I : Inv X pins σ H s) (h : SqT X.K H a xs) : xs.length ≤ sizeLine := (I.tuple h).choose_spec.2.2
end
end OwT
namespace OwT
open PySem PySem.Spec PyProof.Rows L2 Ow
theorem size_pos : ∀ t : T, 1 ≤ size t := fun t => by
  have := sizes_wn t
  omega
section
variable {K : PySem.W.Frag} {H H' H1 : Hp}
theorem ps_few : ∀ (vs : List V) (ps : Ps), PsP K H vs ps → vs.length ≤ sizePs ps
  | _, _, .nil => Nat.le_refl _
  | _, _, .cons (e := e) (vs := vs) (r := r) _ _ d => by
    have h1 := ps_few vs r d
    have h2 := size_pos e
    unfold sizePs
    rw [List.length_cons]
    omega
theorem bs_few : ∀ (vs : List V) (bs : Bs), BsP K H vs bs → vs.length ≤ sizeBs bs
  | _, _, .nil => Nat.le_refl _
  | _, _, .cons (e := e) (vs := vs) (r := r) _ _ _ d => by
    have h1 := bs_few vs r d
    have h2 := size_pos e
    unfold sizeBs
    rw [List.length_cons]
    omega
end
end OwT
namespace OwT
open PySem PySem.Spec PyProof.Rows L2 Ow
/-- the keys of a dict of texts -/
def KD (kvs : List (Key × V)) (ks : List Str) : Prop := kvs.map (·.1) = ks.map Sum.inr ∧ ks.Nodup
theorem kd_put {kvs : List (Key × V)} {ks : List Str} (h : KD kvs ks) (x : Str) (v : V) : ∃ ks', KD (putK kvs (Sum.inr x : Key) v) ks' ∧ ∀ k, k ∈ ks' ↔ k ∈ ks ∨ k = x := by
  obtain ⟨h1, h2⟩ := h
  cases e : valV kvs (Sum.inr x : Key) with
  | none =>
    have nx : x ∉ ks := fun z => by
      have q := valV_not e
      rw [h1] at q
      exact q (List.mem_map.mpr ⟨x, z, rfl⟩)
    refine ⟨ks ++ [x], ⟨?_, ?_⟩, fun k => by rw [List.mem_append, List.mem_singleton]⟩
    · rw [putK_new v e, List.map_append, List.map_append, h1]
      rfl
    · exact List.nodup_append.mpr ⟨h2, by simp, fun a ha b hb => by
        rw [List.mem_singleton.mp hb]
        intro z
        rw [z] at ha
        exact nx ha⟩
  | some u =>
    have ix : x ∈ ks := by
      have q := valV_in e
      rw [h1] at q
      obtain ⟨y, hy, ey⟩ := List.mem_map.mp q
      cases ey
      exact hy
    have ek : (putK kvs (Sum.inr x : Key) v).map (·.1) = kvs.map (·.1) := by
      unfold putK
      rw [valV_any, e]
      show ((kvs.map fun kv => if kv.1 = (Sum.inr x : Key) then (kv.1, v) else kv).map (·.1)) = _
      rw [List.map_map]
      refine List.map_congr_left fun p _ => ?_
      show (if p.1 = (Sum.inr x : Key) then (p.1, v) else p).1 = p.1
      split <;> rfl
    refine ⟨ks, ⟨ek.trans h1, h2⟩, fun k => ⟨.inl, fun z => z.elim id fun z => by rw [z]; exact ix⟩⟩
theorem nodup_sub : ∀ (ks ns : List Str), ks.Nodup → (∀ k ∈ ks, k ∈ ns) → ks.length ≤ ns.length
  | [], _, _, _ => Nat.zero_le _
  | x :: r, ns, h, s => by
    obtain ⟨h1, h2⟩ := List.nodup_cons.mp h
    have hx := s x List.mem_cons_self
    have ih := nodup_sub r (ns.erase x) h2 fun k hk => by
      have q := s k (List.mem_cons_of_mem _ hk)
      exact (List.mem_erase_of_ne (fun z => h1 (by rw [← z]; exact hk))).mpr q
    rw [List.length_erase_of_mem hx] at ih
    have := List.length_pos_of_mem hx
    rw [List.length_cons]
    omega
end OwT
namespace OwT
open PySem PySem.Spec PyProof.Rows L2 Ow
theorem subs_last {K : PySem.W.Frag} {H : Hp} {es : List V} {L : List (T × List Str)} (h : Subs K H es L) : es ≠ [] → ∃ es' L' q b v t ns, es = es' ++ [.ref q] ∧ L = L' ++ [(t, ns)] ∧ Subs K H es' L' ∧ SqT K H q [v, .ref b] ∧ Tp K H v t ∧ SqT K H b (ns.map V.str) := by
  induction h with
  | nil => exact fun z => absurd rfl z
  | @cons q b v vs t ns r h1 h2 h3 h4 ih =>
    intro _
    cases hvs : vs with
    | nil =>
      subst hvs
      cases h4
      exact ⟨[], [], q, b, v, t, ns, rfl, rfl, .nil, h1, h2, h3⟩
    | cons x xs =>
      rw [← hvs]
      obtain ⟨es', L', q2, b2, v2, t2, ns2, e1, e2, k1, k2, k3, k4⟩ := ih (by rw [hvs]; simp)
      exact ⟨.ref q :: es', (t, ns) :: L', q2, b2, v2, t2, ns2, by rw [e1]; rfl, by rw [e2]; rfl, .cons h1 h2 h3 k1, k2, k3, k4⟩
theorem last_at (es : List V) (x : V) : (es ++ [x])[(es ++ [x]).length - 1]? = some x ∧ (es ++ [x]).dropLast = es := by
  constructor
  · rw [List.length_append, List.length_singleton, Nat.add_sub_cancel, List.getElem?_append_right (Nat.le_refl _), Nat.sub_self]
    rfl
  · exact List.dropLast_concat
end OwT
namespace OwT
open PySem PySem.Spec PyProof.Rows L2 Ow
theorem catA_read {K : PySem.W.Frag} {H : Hp} {a b : Addr} {xs ys : List V} {Q : VK} (ha : SqT K H a xs) (hb : SqT K H b ys) (hl : xs.length + ys.length ≤ sizeLine) (k : ∀ c H', Same H H' → SqT K H' c (xs ++ ys) → Q (.ref c) H') : rCatA K (.ref a) (.ref b) H Q := by
  refine ⟨a, b, xs, ys, rfl, rfl, ha, hb, hl, fun e => ?_, fun e1 e2 => ?_, fun e1 e2 p np => ?_⟩
  · subst e
    exact k b H (Same.refl H) hb
  · subst e2
    exact k a H (Same.refl H) (by rw [List.append_nil]; exact ha)
  · exact k p _ (same_upd np) (SqT.of upd_same)
theorem len_sizes : ∀ L : List (T × List Str), L.length ≤ sizes L
  | [] => Nat.le_refl _
  | p :: r => by
    have := len_sizes r
    have := size_pos p.1
    rw [sizes_cons, List.length_cons]
    omega
theorem sizes_map (ns : List Str) : ∀ L : List (T × List Str), sizes (L.map fun p => (p.1, ns ++ p.2)) = sizes L
  | [] => rfl
  | p :: r => by
    rw [List.map_cons, sizes_cons, sizes_cons, sizes_map ns r]
end OwT
namespace OwT
open PySem PySem.Spec PyProof.Rows L2 Ow
/-! ### frames: what stood stands, but for the addresses of S -/
def Fr (S : List Addr) (H H' : Hp) : Prop := ∀ b o, b ∉ S → H b = some o → H' b = some o
section
variable {K : PySem.W.Frag} {S : List Addr} {H H1 H2 : Hp} {p : Addr}
theorem Fr.refl : Fr S H H := fun _ _ _ e => e
theorem Fr.trans (a : Fr S H H1) (b : Fr S H1 H2) : Fr S H H2 := fun c o n e => b c o n (a c o n e)
theorem Fr.mono {S' : List Addr} (a : Fr S H H1) (h : ∀ b ∈ S, b ∈ S') : Fr S' H H1 := fun c o n e => a c o (fun z => n (h c z)) e
theorem Fr.same (s : Same H H1) : Fr S H H1 := fun c o _ e => s c o e
theorem Fr.but (b : But p H H1) (h : p ∈ S) : Fr S H H1 := fun c o n e => by
  rw [b c (fun z => n (by rw [z]; exact h))]
  exact e
theorem Fr.new {o : HO} (h : H p = none) : Fr S H (upd H p o) := Fr.same (same_upd h)
theorem Fr.set {o : HO} (h : p ∈ S) : Fr S H (upd H p o) := fun c u n e => by
  rw [upd_ne (fun z => n (by rw [z]; exact h))]
  exact e
/-- what wasn't there at first may be changed -/
theorem Fr.late {o : HO} (a : Fr S H H1) (h : H p = none) : Fr S H (upd H1 p o) := fun c u n e => by
  rw [upd_ne (ne_of_none e h)]
  exact a c u n e
theorem Fr.free (a : Fr S H H1) (h : H1 p = none) (n : p ∉ S) : H p = none := by
  cases e : H p with
  | none => rfl
  | some o =>
    rw [a p o n e] at h
    cases h
theorem Fr.ts (a : Fr S H H1) (h : ∀ b ∈ S, ∃ xs, H b = some (.lst xs)) : TS K H H1 := TS.of fun c xs => by
  have k : ∀ u, H c = some u → (∀ ys, u ≠ .lst ys) → H1 c = some u := fun u e n => a c u (fun z => by
    obtain ⟨ys, e2⟩ := h c z
    rw [e] at e2
    exact n ys (Option.some.inj e2)) e
  exact ⟨fun e => k _ e (fun _ z => by cases z), fun _ e => k _ e (fun _ z => by cases z)⟩
theorem Fr.fd (a : Fr S H H1) (h : Fd H p) (n : p ∉ S) : Fd H1 p := by
  obtain ⟨d, s, e, r⟩ := h
  exact ⟨d, s, a p _ n e, r⟩
theorem Fd.lst (h : Fd H p) : ∃ xs, H p = some (.lst xs) := by
  obtain ⟨d, s, e, r⟩ := h
  exact ⟨_, e⟩
end
/-! ### what the law's terms are like -/
mutual
def Good (ns : List Str) : T → Prop
  | .num n => n.natAbs ≤ 10 ^ 18
  | .nam x => x ∈ ns
  | .fn x e => x ∈ ns ∧ Good ns e
  | .two w x y => w ∈ twos ∧ x ∈ ns ∧ y ∈ ns
  | .lt w x e b => (w = "let" ∨ w = "now") ∧ x ∈ ns ∧ Good ns e ∧ Good ns b
  | .all ps b => GoodPs ns ps ∧ Good ns b
  | .mk c xs => c ∈ ns ∧ (∀ x ∈ xs, x ∈ ns) ∧ xs.length ≤ 3
  | .by_ x bs => x ∈ ns ∧ GoodBs ns bs
def GoodPs (ns : List Str) : Ps → Prop
  | .nil => True
  | .cons x e r => x ∈ ns ∧ Good ns e ∧ GoodPs ns r
def GoodBs (ns : List Str) : Bs → Prop
  | .nil => True
  | .cons c ys e r => c ∈ ns ∧ (∀ y ∈ ys, y ∈ ns) ∧ ys.length ≤ 3 ∧ Good ns e ∧ GoodBs ns r
end
mutual
def nodes : T → Nat
  | .num _ => 1
  | .nam _ => 1
  | .fn _ e => 1 + nodes e
  | .two _ _ _ => 1
  | .lt _ _ e b => 1 + nodes e + nodes b
  | .all ps b => 1 + nodesPs ps + nodes b
  | .mk _ _ => 1
  | .by_ _ bs => 1 + nodesBs bs
def nodesPs : Ps → Nat
  | .nil => 0
  | .cons _ e r => nodes e + nodesPs r
def nodesBs : Bs → Nat
  | .nil => 0
  | .cons _ _ e r => nodes e + nodesBs r
end
mutual
def deep : T → Nat
  | .num _ => 1
  | .nam _ => 1
  | .fn _ e => 1 + deep e
  | .two _ _ _ => 1
  | .lt _ _ e b => 1 + max (deep e) (deep b)
  | .all ps b => 1 + max (deepPs ps) (deep b)
  | .mk _ _ => 1
  | .by_ _ bs => 1 + deepBs bs
def deepPs : Ps → Nat
  | .nil => 0
  | .cons _ e r => max (deep e) (deepPs r)
def deepBs : Bs → Nat
  | .nil => 0
  | .cons _ _ e r => max (deep e) (deepBs r)
end
mutual
theorem size_le (ns : List Str) : ∀ t : T, Good ns t → size t + 4 ≤ 8 * nodes t
  | .num _, _ => by show 1 + 4 ≤ 8 * 1; omega
  | .nam _, _ => by show 1 + 4 ≤ 8 * 1; omega
  | .fn _ e, h => by
    have := size_le ns e h.2
    show 2 + size e + 4 ≤ 8 * (1 + nodes e)
    omega
  | .two _ _ _, _ => by show 1 + 4 ≤ 8 * 1; omega
  | .lt _ _ e b, h => by
    have := size_le ns e h.2.2.1
    have := size_le ns b h.2.2.2
    show 2 + size e + size b + 4 ≤ 8 * (1 + nodes e + nodes b)
    omega
  | .all ps b, h => by
    have := size_le ns b h.2
    have := size_lePs ns ps h.1
    show 1 + sizePs ps + size b + 4 ≤ 8 * (1 + nodesPs ps + nodes b)
    omega
  | .mk _ xs, h => by
    have := h.2.2
    show 1 + xs.length + 4 ≤ 8 * 1
    omega
  | .by_ _ bs, h => by
    have := size_leBs ns bs h.2
    show 1 + sizeBs bs + 4 ≤ 8 * (1 + nodesBs bs)
    omega
theorem size_lePs (ns : List Str) : ∀ ps : Ps, GoodPs ns ps → sizePs ps ≤ 8 * nodesPs ps
  | .nil, _ => Nat.le_refl _
  | .cons _ e r, h => by
    have := size_le ns e h.2.1
    have := size_lePs ns r h.2.2
    show 1 + size e + sizePs r ≤ 8 * (nodes e + nodesPs r)
    omega
theorem size_leBs (ns : List Str) : ∀ bs : Bs, GoodBs ns bs → sizeBs bs ≤ 8 * nodesBs bs
  | .nil, _ => Nat.le_refl _
  | .cons _ ys e r, h => by
    have := size_le ns e h.2.2.2.1
    have := size_leBs ns r h.2.2.2.2
    have := h.2.2.1
    show 1 + ys.length + size e + sizeBs r ≤ 8 * (nodes e + nodesBs r)
    omega
end
end OwT
namespace OwT
open PySem PySem.Spec PyProof.Rows L2 Ow
def Ps.snoc : Ps → Str → T → Ps
  | .nil, x, e => .cons x e .nil
  | .cons y f r, x, e => .cons y f (r.snoc x e)
def Bs.snoc : Bs → Str → List Str → T → Bs
  | .nil, c, ys, e => .cons c ys e .nil
  | .cons d zs f r, c, ys, e => .cons d zs f (r.snoc c ys e)
section
variable {K : PySem.W.Frag} {H : Hp}
theorem ps_snoc {q : Addr} {x : Str} {v : V} {e : T} (h1 : SqT K H q [.str x, v]) (h2 : Tp K H v e) : ∀ (vs : List V) (ps : Ps), PsP K H vs ps → PsP K H (vs ++ [.ref q]) (ps.snoc x e)
  | _, _, .nil => .cons h1 h2 .nil
  | _, _, .cons a b d => .cons a b (ps_snoc h1 h2 _ _ d)
theorem bs_snoc {q z : Addr} {c : Str} {ys : List Str} {v : V} {e : T} (h1 : SqT K H q [.str c, .ref z, v]) (h2 : SqT K H z (ys.map V.str)) (h3 : Tp K H v e) : ∀ (vs : List V) (bs : Bs), BsP K H vs bs → BsP K H (vs ++ [.ref q]) (bs.snoc c ys e)
  | _, _, .nil => .cons h1 h2 h3 .nil
  | _, _, .cons a b c d => .cons a b c (bs_snoc h1 h2 h3 _ _ d)
end
theorem snoc_nodes (x : Str) (e : T) : ∀ ps : Ps, nodesPs (ps.snoc x e) = nodesPs ps + nodes e
  | .nil => by show nodes e + 0 = 0 + nodes e; omega
  | .cons y f r => by
    show nodes f + nodesPs (r.snoc x e) = nodes f + nodesPs r + nodes e
    rw [snoc_nodes x e r]
    omega
theorem snoc_deep (x : Str) (e : T) : ∀ ps : Ps, deepPs (ps.snoc x e) = max (deepPs ps) (deep e)
  | .nil => by show max (deep e) 0 = max 0 (deep e); omega
  | .cons y f r => by
    show max (deep f) (deepPs (r.snoc x e)) = max (max (deep f) (deepPs r)) (deep e)
    rw [snoc_deep x e r]
    omega
theorem snoc_good {ns : List Str} {x : Str} {e : T} (hx : x ∈ ns) (he : Good ns e) : ∀ ps : Ps, GoodPs ns ps → GoodPs ns (ps.snoc x e)
  | .nil, _ => ⟨hx, he, trivial⟩
  | .cons _ _ r, h => ⟨h.1, h.2.1, snoc_good hx he r h.2.2⟩
theorem bsnoc_nodes (c : Str) (ys : List Str) (e : T) : ∀ bs : Bs, nodesBs (bs.snoc c ys e) = nodesBs bs + nodes e
  | .nil => by show nodes e + 0 = 0 + nodes e; omega
  | .cons _ _ f r => by
    show nodes f + nodesBs (r.snoc c ys e) = nodes f + nodesBs r + nodes e
    rw [bsnoc_nodes c ys e r]
    omega
theorem bsnoc_deep (c : Str) (ys : List Str) (e : T) : ∀ bs : Bs, deepBs (bs.snoc c ys e) = max (deepBs bs) (deep e)
  | .nil => by show max (deep e) 0 = max 0 (deep e); omega
  | .cons _ _ f r => by
    show max (deep f) (deepBs (r.snoc c ys e)) = max (max (deep f) (deepBs r)) (deep e)
    rw [bsnoc_deep c ys e r]
    omega
theorem bsnoc_good {ns : List Str} {c : Str} {ys : List Str} {e : T} (hc : c ∈ ns) (hy : ∀ y ∈ ys, y ∈ ns) (hl : ys.length ≤ 3) (he : Good ns e) : ∀ bs : Bs, GoodBs ns bs → GoodBs ns (bs.snoc c ys e)
  | .nil, _ => ⟨hc, hy, hl, he, trivial⟩
  | .cons _ _ _ r, h => ⟨h.1, h.2.1, h.2.2.1, h.2.2.2.1, bsnoc_good hc hy hl he r h.2.2.2.2⟩
/-! ### as data -/
theorem lay_strs : ∀ l : List Str, (∀ x ∈ l, Lo x) → PyData.canLayAll0 (l.map PyData.str) = true
  | [], _ => by simp [PyData.canLayAll0]
  | x :: r, h => by
    have h1 := h x List.mem_cons_self
    have h2 := lay_strs r fun d hd => h d (List.mem_cons_of_mem _ hd)
    have h3 : PyData.strOk x = true := by
      unfold PyData.strOk
      rw [Array.all_eq_true']
      intro c hc
      have := h1 c (by simpa using hc)
      simp
      omega
    rw [List.map_cons]
    unfold PyData.canLayAll0
    rw [h2, Bool.and_true]
    unfold PyData.canLay0
    exact h3
theorem depth_strs : ∀ l : List Str, PyData.depthAll (l.map PyData.str) = 0
  | [] => by simp [PyData.depthAll]
  | x :: r => by
    rw [List.map_cons]
    unfold PyData.depthAll
    rw [depth_strs r]
    simp [PyData.depth]
theorem dp_strs {K : PySem.W.Frag} {H : Hp} : ∀ l : List Str, DpAll K H (l.map V.str) (l.map PyData.str)
  | [] => .nil
  | x :: r => .cons (.str x) (dp_strs r)
theorem shaped_tup {l : List Str} (h : ∀ x ∈ l, Lo x) : SeqAt.shaped (.tuple (l.map PyData.str)) = true := by
  unfold SeqAt.shaped
  rw [Bool.and_eq_true]
  constructor
  · unfold PyData.canLay0
    exact lay_strs l h
  · unfold PyData.depth
    rw [depth_strs l]
    decide
theorem eqv_tnil : ∀ l : List PyData, PyData.eqv (.tuple l) (.tuple []) = l.isEmpty
  | [] => by simp [PyData.eqv, PyData.eqvAll]
  | _ :: _ => by simp [PyData.eqv, PyData.eqvAll]
end OwT

set_option Elab.async false
set_option linter.all false
set_option maxRecDepth 100000
set_option maxHeartbeats 1000000
/-! Terms as values. -/
namespace EvT
open PySem PySem.Spec PyProof.Rows L2 Ow Ev OwT
mutual
def tW : T → W
  | .num n => .tup [.str "num", .int n]
  | .nam x => .tup [.str "name", .str x]
  | .fn x e => .tup [.str "fun", .str x, tW e]
  | .two w x y => .tup [.str w, .str x, .str y]
  | .lt w x e b => .tup [.str w, .str x, tW e, tW b]
  | .all ps b => .tup [.str "letall", .tup (pW ps), tW b]
  | .mk c xs => .tup [.str "made", .str c, .tup (xs.map W.str)]
  | .by_ x bs => .tup [.str "by", .str x, .tup (bW bs)]
def pW : Ps → List W
  | .nil => []
  | .cons x e r => .tup [.str x, tW e] :: pW r
def bW : Bs → List W
  | .nil => []
  | .cons c ys e r => .tup [.str c, .tup (ys.map W.str), tW e] :: bW r
end
def worthT : T → Prop
  | .fn _ _ => True
  | .mk _ _ => True
  | _ => False
def headsB : Bs → List Str
  | .nil => []
  | .cons c _ _ r => c :: headsB r
mutual
def WF : T → Prop
  | .num n => -(10 ^ 18) ≤ n ∧ n ≤ 10 ^ 18
  | .nam x => isNm x = true
  | .fn x e => isNm x = true ∧ WF e
  | .two w x y => w ∈ twos ∧ isNm x = true ∧ isNm y = true
  | .lt w x e b => (w = "let" ∨ w = "now") ∧ isNm x = true ∧ WF e ∧ WF b
  | .all ps b => (1 ≤ ps.names.length ∧ ps.names.length ≤ 6) ∧ ps.names.Nodup ∧ WFp ps ∧ WF b
  | .mk c xs => isNm c = true ∧ xs.length ≤ 3 ∧ ∀ x ∈ xs, isNm x = true
  | .by_ x bs => isNm x = true ∧ (1 ≤ (headsB bs).length ∧ (headsB bs).length ≤ 6) ∧ (headsB bs).Nodup ∧ WFb bs
def WFp : Ps → Prop
  | .nil => True
  | .cons x e r => isNm x = true ∧ worthT e ∧ WF e ∧ WFp r
def WFb : Bs → Prop
  | .nil => True
  | .cons c ys e r => isNm c = true ∧ (ys.length ≤ 3 ∧ ys.Nodup ∧ ∀ y ∈ ys, isNm y = true) ∧ WF e ∧ WFb r
end
/-- what lies in a term, by its tuple -/
def subA (a b : W) : List W := match a with
  | .tup ps => ps.map (fun p => match p with
    | .tup [_, v] => v
    | _ => .non) ++ [b]
  | _ => []
def subB (b : W) : List W := match b with
  | .tup bs => bs.map fun p => match p with
    | .tup [_, _, v] => v
    | _ => .non
  | _ => []
def subsW (l : List W) : List W := match l with
  | [.str z, a, b] => if z = "fun" then [b] else if z = "letall" then subA a b else if z = "by" then subB b else []
  | [.str z, _, b, c] => if z = "let" ∨ z = "now" then [b, c] else []
  | _ => []
theorem isTwo {z : Str} (h : z ∈ twos) : z = "call" ∨ z = "sum" ∨ z = "minus" ∨ z = "less" ∨ z = "same" := by
  simpa [twos] using h
theorem subs_psn (ns : List Str) : ∀ ps : Ps, (pW ps).map (fun p => match p with
    | .tup [_, v] => v
    | _ => W.non) = (ps.subs ns).map fun p => tW p.1
  | .nil => rfl
  | .cons x e r => by
    show _ :: _ = _ :: _
    rw [subs_psn ns r]
theorem subs_ps (ps : Ps) : (pW ps).map (fun p => match p with
    | .tup [_, v] => v
    | _ => W.non) = (ps.subs ps.names).map fun p => tW p.1 := subs_psn _ ps
theorem subs_bs : ∀ bs : Bs, subB (.tup (bW bs)) = bs.subs.map fun p => tW p.1
  | .nil => rfl
  | .cons c ys e r => by
    show _ :: _ = _ :: _
    rw [← subs_bs r]
    rfl
/-- the tuple of a term: what lies in it -/
theorem subs_tW : ∀ (t : T), WF t → ∃ l, tW t = .tup l ∧ subsW l = (wn t).map fun p => tW p.1
  | .num n, _ => ⟨_, rfl, rfl⟩
  | .nam x, _ => ⟨_, rfl, rfl⟩
  | .fn x e, _ => ⟨_, rfl, rfl⟩
  | .two w x y, h => by
    refine ⟨_, rfl, ?_⟩
    rcases isTwo h.1 with rfl | rfl | rfl | rfl | rfl <;> rfl
  | .lt w x e b, h => by
    refine ⟨_, rfl, ?_⟩
    rcases h.1 with rfl | rfl <;> rfl
  | .all ps b, _ => by
    refine ⟨_, rfl, ?_⟩
    show subA (.tup (pW ps)) (tW b) = (ps.subs ps.names ++ [(b, ps.names)]).map fun p => tW p.1
    rw [List.map_append, ← subs_ps]
    rfl
  | .mk c xs, _ => ⟨_, rfl, rfl⟩
  | .by_ x bs, _ => by
    refine ⟨_, rfl, ?_⟩
    show subB (.tup (bW bs)) = _
    rw [subs_bs]
    rfl
theorem names_ok {xs : List Str} (hl : xs.length ≤ 3) (h : ∀ x ∈ xs, isNm x = true) : namesB (.tup (xs.map W.str)) = true := by
  show (tupB (.tup (xs.map W.str)) 0 3 && (xs.map W.str).all nameB) = true
  rw [Bool.and_eq_true]
  constructor
  · show (decide ((0 : Int) ≤ (xs.map W.str).length) && decide (((xs.map W.str).length : Int) ≤ 3)) = true
    rw [List.length_map, Bool.and_eq_true]
    exact ⟨decide_eq_true (by omega), decide_eq_true (by omega)⟩
  · rw [List.all_eq_true]
    intro w hw
    obtain ⟨x, hx, rfl⟩ := List.mem_map.mp hw
    exact h x hx
theorem names_of {x : W} (h : namesB x = true) : ∃ xs : List Str, x = .tup (xs.map W.str) ∧ xs.length ≤ 3 ∧ ∀ x ∈ xs, isNm x = true := by
  cases x with
  | tup m =>
    have h : (tupB (.tup m) 0 3 && m.all nameB) = true := h
    rw [Bool.and_eq_true] at h
    have h3 : (decide ((0 : Int) ≤ m.length) && decide ((m.length : Int) ≤ 3)) = true := h.1
    rw [Bool.and_eq_true] at h3
    have hl := of_decide_eq_true h3.2
    refine ⟨m.map strS, by rw [← strs_of h.2], by rw [List.length_map]; omega, fun x hx => ?_⟩
    obtain ⟨w, hw, rfl⟩ := List.mem_map.mp hx
    have := List.all_eq_true.mp h.2 w hw
    cases w with
    | str z => exact this
    | _ => cases this
  | _ => cases h
theorem strS_map (xs : List Str) : (xs.map W.str).map strS = xs := by
  rw [List.map_map]
  exact List.map_id'' (fun _ => rfl) xs
theorem pW_len : ∀ ps : Ps, (pW ps).length = ps.names.length
  | .nil => rfl
  | .cons x e r => by
    show _ + 1 = _ + 1
    rw [pW_len r]
theorem pW_fst : ∀ ps : Ps, (pW ps).map fstS = ps.names
  | .nil => rfl
  | .cons x e r => by
    show _ :: _ = _ :: _
    rw [pW_fst r]
    rfl
theorem bW_len : ∀ bs : Bs, (bW bs).length = (headsB bs).length
  | .nil => rfl
  | .cons c ys e r => by
    show _ + 1 = _ + 1
    rw [bW_len r]
theorem bW_fst : ∀ bs : Bs, (bW bs).map fstS = headsB bs
  | .nil => rfl
  | .cons c ys e r => by
    show _ :: _ = _ :: _
    rw [bW_fst r]
    rfl
theorem worth_ok {t : T} (h : worthT t) : worthB (tW t) = true := by
  cases t <;> first | exact h.elim | rfl
theorem pairs_ok : ∀ ps : Ps, WFp ps → (pW ps).all pairB = true
  | .nil, _ => rfl
  | .cons x e r, h => by
    show ((isNm x && worthB (tW e)) && (pW r).all pairB) = true
    rw [h.1, worth_ok h.2.1, pairs_ok r h.2.2.2]
    rfl
theorem branches_ok : ∀ bs : Bs, WFb bs → (bW bs).all branchB = true
  | .nil, _ => rfl
  | .cons c ys e r, h => by
    show ((isNm c && (namesB (.tup (ys.map W.str)) && decide (((ys.map W.str).map strS).Nodup))) && (bW r).all branchB) = true
    rw [h.1, names_ok h.2.1.1 h.2.1.2.2, strS_map, decide_eq_true h.2.1.2.1, branches_ok r h.2.2.2]
    rfl
theorem tup_ok {l : List W} {n : Nat} (h : l.length = n) (h1 : 1 ≤ n) (h6 : n ≤ 6) : tupB (.tup l) 1 6 = true := by
  show (decide ((1 : Int) ≤ l.length) && decide ((l.length : Int) ≤ 6)) = true
  rw [Bool.and_eq_true]
  exact ⟨decide_eq_true (by omega), decide_eq_true (by omega)⟩
theorem shaped_tW : ∀ (t : T), WF t → shapedB (tW t) = true
  | .num n, h => by
    show (decide _ && decide _) = true
    rw [Bool.and_eq_true]
    exact ⟨decide_eq_true h.1, decide_eq_true h.2⟩
  | .nam x, h => h
  | .fn x e, h => h.1
  | .two w x y, h => by
    have e : (isNm x && isNm y) = true := by rw [h.2.1, h.2.2]; rfl
    rcases isTwo h.1 with rfl | rfl | rfl | rfl | rfl <;> exact e
  | .lt w x e b, h => by
    rcases h.1 with rfl | rfl <;> exact h.2.1
  | .all ps b, h => by
    show (tupB (.tup (pW ps)) 1 6 && ((pW ps).all pairB && decide (((pW ps).map fstS).Nodup))) = true
    rw [tup_ok (pW_len ps) h.1.1 h.1.2, pairs_ok ps h.2.2.1, pW_fst, decide_eq_true h.2.1]
    rfl
  | .mk c xs, h => by
    show (isNm c && namesB (.tup (xs.map W.str))) = true
    rw [h.1, names_ok h.2.1 h.2.2]
    rfl
  | .by_ x bs, h => by
    show (isNm x && (tupB (.tup (bW bs)) 1 6 && ((bW bs).all branchB && decide (((bW bs).map fstS).Nodup)))) = true
    rw [h.1, tup_ok (bW_len bs) h.2.1.1 h.2.1.2, branches_ok bs h.2.2.2, bW_fst, decide_eq_true h.2.2.1]
    rfl
end EvT

set_option Elab.async false
set_option linter.all false
set_option maxRecDepth 100000
set_option maxHeartbeats 1000000
/-! Terms that are due: how many pieces, how deep. -/
namespace EvT
open PySem PySem.Spec PyProof.Rows L2 Ow Ev OwT
inductive Mx (B : Int) : List (W × Int) → Nat → Prop
  | nil : Mx B [] 0
  | cons {t : T} {d : Int} {L : List (W × Int)} {n : Nat} : WF t → d + deep t - 1 ≤ B → Mx B L n → Mx B ((tW t, d) :: L) (nodes t + n)
theorem Mx.app {B : Int} {C : List (W × Int)} {m : Nat} (k : Mx B C m) : ∀ {A : List (W × Int)} {n : Nat}, Mx B A n → Mx B (A ++ C) (n + m)
  | _, _, .nil => by rw [Nat.zero_add]; exact k
  | _, _, .cons a b c => by rw [Nat.add_assoc]; exact .cons a b (Mx.app k c)
theorem Mx.split {B : Int} {C : List (W × Int)} : ∀ {A : List (W × Int)} {n : Nat}, Mx B (A ++ C) n → ∃ a c, n = a + c ∧ Mx B A a ∧ Mx B C c
  | [], n, h => ⟨0, n, (Nat.zero_add n).symm, .nil, h⟩
  | (w, d) :: A, n, h => by
    cases h with
    | @cons t d L n a b c =>
      obtain ⟨x, y, e, p, q⟩ := Mx.split c
      exact ⟨nodes t + x, y, by rw [e, Nat.add_assoc], .cons a b p, q⟩
theorem Mx.rev {B : Int} : ∀ {A : List (W × Int)} {n : Nat}, Mx B A n → Mx B A.reverse n
  | _, _, .nil => .nil
  | _, _, .cons (t := t) (n := n) a b c => by
    rw [List.reverse_cons, Nat.add_comm]
    exact (Mx.app (.cons a b .nil) c.rev)
theorem Mx.unrev {B : Int} {A : List (W × Int)} {n : Nat} (h : Mx B A.reverse n) : Mx B A n := by
  have := h.rev
  rwa [List.reverse_reverse] at this
theorem Mx.one {B : Int} {w : W} {d : Int} {n : Nat} (h : Mx B [(w, d)] n) : ∃ t, w = tW t ∧ WF t ∧ d + deep t - 1 ≤ B ∧ n = nodes t := by
  cases h with
  | @cons t d L n a b c =>
    cases c
    exact ⟨t, rfl, a, b, rfl⟩
def due (d : Int) (l : List W) : List (W × Int) := l.map fun w => (w, d)
theorem nodes_pos : ∀ t : T, 1 ≤ nodes t
  | .num _ => Nat.le_refl _
  | .nam _ => Nat.le_refl _
  | .fn _ _ => Nat.le_add_right _ _
  | .two _ _ _ => Nat.le_refl _
  | .lt _ _ _ _ => Nat.le_trans (Nat.le_add_right _ _) (Nat.le_add_right _ _)
  | .all _ _ => Nat.le_trans (Nat.le_add_right _ _) (Nat.le_add_right _ _)
  | .mk _ _ => Nat.le_refl _
  | .by_ _ _ => Nat.le_add_right _ _
theorem deep_pos : ∀ t : T, 1 ≤ deep t
  | .num _ => Nat.le_refl _
  | .nam _ => Nat.le_refl _
  | .fn _ _ => Nat.le_add_right _ _
  | .two _ _ _ => Nat.le_refl _
  | .lt _ _ _ _ => Nat.le_add_right _ _
  | .all _ _ => Nat.le_add_right _ _
  | .mk _ _ => Nat.le_refl _
  | .by_ _ _ => Nat.le_add_right _ _
theorem mx_ps {B d : Int} (ns : List Str) : ∀ ps : Ps, WFp ps → d + deepPs ps - 1 ≤ B → Mx B (due d ((ps.subs ns).map fun p => tW p.1)) (nodesPs ps)
  | .nil, _, _ => .nil
  | .cons x e r, h, hb => by
    have e1 : deepPs (.cons x e r) = max (deep e) (deepPs r) := rfl
    rw [e1] at hb
    exact .cons (t := e) h.2.2.1 (by omega) (mx_ps ns r h.2.2.2 (by omega))
theorem mx_bs {B d : Int} : ∀ bs : Bs, WFb bs → d + deepBs bs - 1 ≤ B → Mx B (due d (bs.subs.map fun p => tW p.1)) (nodesBs bs)
  | .nil, _, _ => .nil
  | .cons c ys e r, h, hb => by
    have e1 : deepBs (.cons c ys e r) = max (deep e) (deepBs r) := rfl
    rw [e1] at hb
    exact .cons (t := e) h.2.2.1 (by omega) (mx_bs r h.2.2.2 (by omega))
/-- a term's parts are due -/
theorem mx_tW {B d : Int} : ∀ (t : T), WF t → d + deep t - 1 ≤ B → ∃ n, nodes t = 1 + n ∧ Mx B (due (d + 1) ((wn t).map fun p => tW p.1)) n
  | .num n, _, _ => ⟨0, rfl, .nil⟩
  | .nam x, _, _ => ⟨0, rfl, .nil⟩
  | .fn x e, h, hb => by
    have e1 : deep (.fn x e) = 1 + deep e := rfl
    rw [e1] at hb
    exact ⟨nodes e + 0, rfl, .cons (t := e) h.2 (by omega) .nil⟩
  | .two w x y, _, _ => ⟨0, rfl, .nil⟩
  | .lt w x e b, h, hb => by
    have e1 : deep (.lt w x e b) = 1 + max (deep e) (deep b) := rfl
    rw [e1] at hb
    exact ⟨nodes e + (nodes b + 0), by show 1 + nodes e + nodes b = _; omega, .cons (t := e) h.2.2.1 (by omega) (.cons (t := b) h.2.2.2 (by omega) .nil)⟩
  | .all ps b, h, hb => by
    have e1 : deep (.all ps b) = 1 + max (deepPs ps) (deep b) := rfl
    rw [e1] at hb
    refine ⟨nodesPs ps + (nodes b + 0), by show 1 + nodesPs ps + nodes b = _; omega, ?_⟩
    show Mx B (due (d + 1) ((ps.subs ps.names ++ [(b, ps.names)]).map fun p => tW p.1)) _
    unfold due
    rw [List.map_append, List.map_append]
    exact Mx.app (.cons (t := b) h.2.2.2 (by omega) .nil) (mx_ps _ ps h.2.2.1 (by omega))
  | .mk c xs, _, _ => ⟨0, rfl, .nil⟩
  | .by_ x bs, h, hb => by
    have e1 : deep (.by_ x bs) = 1 + deepBs bs := rfl
    rw [e1] at hb
    exact ⟨nodesBs bs, rfl, mx_bs bs h.2.2.2 (by omega)⟩
/-! ### what is shaped, and whose parts are terms, is a term -/
theorem worth_word {z : Str} {r : List W} (h : worthB (.tup (.str z :: r)) = true) : z = "fun" ∨ z = "made" := by
  have h : (decide (z = "fun") || decide (z = "made")) = true := h
  rw [Bool.or_eq_true] at h
  rcases h with h | h
  · exact .inl (of_decide_eq_true h)
  · exact .inr (of_decide_eq_true h)
theorem worth_of : ∀ {t : T}, WF t → worthB (tW t) = true → worthT t
  | .fn _ _, _, _ => trivial
  | .mk _ _, _, _ => trivial
  | .num _, _, h => by
    rcases worth_word h with e | e <;> exact absurd e (by decide)
  | .nam _, _, h => by
    rcases worth_word h with e | e <;> exact absurd e (by decide)
  | .two w _ _, f, h => by
    rcases isTwo f.1 with rfl | rfl | rfl | rfl | rfl <;> rcases worth_word h with e | e <;> exact absurd e (by decide)
  | .lt w _ _ _, f, h => by
    rcases f.1 with rfl | rfl <;> rcases worth_word h with e | e <;> exact absurd e (by decide)
  | .all _ _, _, h => by
    rcases worth_word h with e | e <;> exact absurd e (by decide)
  | .by_ _ _, _, h => by
    rcases worth_word h with e | e <;> exact absurd e (by decide)
theorem ps_of {B d : Int} : ∀ (ps : List W) (n : Nat), ps.all pairB = true → Mx B (due d (ps.map fun p => match p with
    | .tup [_, v] => v
    | _ => W.non)) n → ∃ P : Ps, ps = pW P ∧ WFp P ∧ nodesPs P = n ∧ (d - 1 ≤ B → d + deepPs P - 1 ≤ B)
  | [], n, _, h => by
    cases h
    exact ⟨.nil, rfl, trivial, rfl, fun h => by
      have e : ((deepPs .nil : Nat) : Int) = 0 := rfl
      omega⟩
  | p :: ps, n, ha, h => by
    rw [List.all_cons, Bool.and_eq_true] at ha
    obtain ⟨hp, hps⟩ := ha
    unfold pairB at hp
    split at hp
    · rename_i x v
      rw [Bool.and_eq_true] at hp
      cases x with
      | str z =>
        generalize hw : due d _ = L at h
        cases h with
        | nil => cases hw
        | @cons t d' L n a b c =>
          obtain ⟨e1, e2⟩ := List.cons.inj hw
          obtain ⟨ev, ed⟩ := Prod.mk.inj e1
          have ev : v = tW t := ev
          have ed : d = d' := ed
          subst ed
          subst ev
          rw [← e2] at c
          obtain ⟨P, q1, q2, q3, q4⟩ := ps_of ps n hps c
          refine ⟨.cons z t P, by rw [q1]; rfl, ⟨hp.1, worth_of a hp.2, a, q2⟩, by rw [← q3]; rfl, fun hd => ?_⟩
          have := q4 hd
          have e1 : deepPs (.cons z t P) = max (deep t) (deepPs P) := rfl
          rw [e1]
          omega
      | _ => cases hp.1
    · cases hp
theorem bs_of {B d : Int} : ∀ (bs : List W) (n : Nat), bs.all branchB = true → Mx B (due d (subB (.tup bs))) n → ∃ P : Bs, bs = bW P ∧ WFb P ∧ nodesBs P = n ∧ (d - 1 ≤ B → d + deepBs P - 1 ≤ B)
  | [], n, _, h => by
    cases h
    exact ⟨.nil, rfl, trivial, rfl, fun h => by
      have e : ((deepBs .nil : Nat) : Int) = 0 := rfl
      omega⟩
  | p :: bs, n, ha, h => by
    rw [List.all_cons, Bool.and_eq_true] at ha
    obtain ⟨hp, hps⟩ := ha
    unfold branchB at hp
    split at hp
    · rename_i x ns v
      rw [Bool.and_eq_true, Bool.and_eq_true] at hp
      cases x with
      | str z =>
        obtain ⟨ys, rfl, hy1, hy2⟩ := names_of hp.2.1
        have hy3 : ys.Nodup := by
          have : decide (((ys.map W.str).map strS).Nodup) = true := hp.2.2
          rw [strS_map] at this
          exact of_decide_eq_true this
        generalize hw : due d _ = L at h
        cases h with
        | nil => cases hw
        | @cons t d' L n a b c =>
          obtain ⟨e1, e2⟩ := List.cons.inj hw
          obtain ⟨ev, ed⟩ := Prod.mk.inj e1
          have ev : v = tW t := ev
          have ed : d = d' := ed
          subst ed
          subst ev
          rw [← e2] at c
          obtain ⟨P, q1, q2, q3, q4⟩ := bs_of bs n hps c
          refine ⟨.cons z ys t P, by rw [q1]; rfl, ⟨hp.1, ⟨hy1, hy3, hy2⟩, a, q2⟩, by rw [← q3]; rfl, fun hd => ?_⟩
          have := q4 hd
          have e1 : deepBs (.cons z ys t P) = max (deep t) (deepBs P) := rfl
          rw [e1]
          omega
      | _ => cases hp.1
    · cases hp
end EvT

set_option Elab.async false
set_option linter.all false
set_option maxRecDepth 100000
set_option maxHeartbeats 1000000
namespace EvT
open PySem PySem.Spec PyProof.Rows L2 Ow Ev OwT
theorem kind_cases {z : Str} {g : List W → Bool} (h : kindOf z = some g) : (z = "num" ∧ g = numB) ∨ (z = "name" ∧ g = askB) ∨ (z = "fun" ∧ g = funB) ∨ (z ∈ twos ∧ g = twoB) ∨ ((z = "let" ∨ z = "now") ∧ g = putB) ∨ (z = "letall" ∧ g = letallB) ∨ (z = "made" ∧ g = madeB) ∨ (z = "by" ∧ g = byB) := by
  unfold kindOf at h
  by_cases c : z = "num"
  · rw [if_pos c] at h
    exact .inl ⟨c, (Option.some.inj h).symm⟩
  rw [if_neg c] at h
  clear c
  by_cases c : z = "name"
  · rw [if_pos c] at h
    exact .inr (.inl ⟨c, (Option.some.inj h).symm⟩)
  rw [if_neg c] at h
  clear c
  by_cases c : z = "fun"
  · rw [if_pos c] at h
    exact .inr (.inr (.inl ⟨c, (Option.some.inj h).symm⟩))
  rw [if_neg c] at h
  clear c
  by_cases c : z = "call"
  · rw [if_pos c] at h
    exact .inr (.inr (.inr (.inl ⟨by rw [c]; decide, (Option.some.inj h).symm⟩)))
  rw [if_neg c] at h
  clear c
  by_cases c : z = "let"
  · rw [if_pos c] at h
    exact .inr (.inr (.inr (.inr (.inl ⟨.inl c, (Option.some.inj h).symm⟩))))
  rw [if_neg c] at h
  clear c
  by_cases c : z = "now"
  · rw [if_pos c] at h
    exact .inr (.inr (.inr (.inr (.inl ⟨.inr c, (Option.some.inj h).symm⟩))))
  rw [if_neg c] at h
  clear c
  by_cases c : z = "letall"
  · rw [if_pos c] at h
    exact .inr (.inr (.inr (.inr (.inr (.inl ⟨c, (Option.some.inj h).symm⟩)))))
  rw [if_neg c] at h
  clear c
  by_cases c : z = "made"
  · rw [if_pos c] at h
    exact .inr (.inr (.inr (.inr (.inr (.inr (.inl ⟨c, (Option.some.inj h).symm⟩))))))
  rw [if_neg c] at h
  clear c
  by_cases c : z = "by"
  · rw [if_pos c] at h
    exact .inr (.inr (.inr (.inr (.inr (.inr (.inr (⟨c, (Option.some.inj h).symm⟩)))))))
  rw [if_neg c] at h
  clear c
  by_cases c : z = "sum"
  · rw [if_pos c] at h
    exact .inr (.inr (.inr (.inl ⟨by rw [c]; decide, (Option.some.inj h).symm⟩)))
  rw [if_neg c] at h
  clear c
  by_cases c : z = "minus"
  · rw [if_pos c] at h
    exact .inr (.inr (.inr (.inl ⟨by rw [c]; decide, (Option.some.inj h).symm⟩)))
  rw [if_neg c] at h
  clear c
  by_cases c : z = "less"
  · rw [if_pos c] at h
    exact .inr (.inr (.inr (.inl ⟨by rw [c]; decide, (Option.some.inj h).symm⟩)))
  rw [if_neg c] at h
  clear c
  by_cases c : z = "same"
  · rw [if_pos c] at h
    exact .inr (.inr (.inr (.inl ⟨by rw [c]; decide, (Option.some.inj h).symm⟩)))
  rw [if_neg c] at h
  clear c
  cases h
theorem name_of {x : W} (h : nameB x = true) : ∃ z, x = .str z ∧ isNm z = true := by
  cases x <;> first | exact ⟨_, rfl, h⟩ | cases h
theorem tup1_6 {x : W} (h : tupB x 1 6 = true) : ∃ m, x = .tup m ∧ 1 ≤ m.length ∧ m.length ≤ 6 := by
  cases x with
  | tup l =>
    have h : (decide ((1 : Int) ≤ l.length) && decide ((l.length : Int) ≤ 6)) = true := h
    rw [Bool.and_eq_true] at h
    exact ⟨l, rfl, by have := of_decide_eq_true h.1; omega, by have := of_decide_eq_true h.2; omega⟩
  | _ => cases h
theorem num_inv {l : List W} (h : numB l = true) : ∃ a i, l = [a, .int i] ∧ -(10 ^ 18) ≤ i ∧ i ≤ 10 ^ 18 := by
  unfold numB at h
  split at h
  · rename_i a x
    cases x with
    | int i =>
      have h : (decide (-(10 ^ 18) ≤ i) && decide (i ≤ 10 ^ 18)) = true := h
      rw [Bool.and_eq_true] at h
      exact ⟨a, i, rfl, of_decide_eq_true h.1, of_decide_eq_true h.2⟩
    | _ => cases h
  · cases h
theorem ask_inv {l : List W} (h : askB l = true) : ∃ a x, l = [a, .str x] ∧ isNm x = true := by
  unfold askB at h
  split at h
  · obtain ⟨y, rfl, hy⟩ := name_of h
    exact ⟨_, y, rfl, hy⟩
  · cases h
theorem fun_inv {l : List W} (h : funB l = true) : ∃ a x v, l = [a, .str x, v] ∧ isNm x = true := by
  unfold funB at h
  split at h
  · obtain ⟨y, rfl, hy⟩ := name_of h
    exact ⟨_, y, _, rfl, hy⟩
  · cases h
theorem two_inv {l : List W} (h : twoB l = true) : ∃ a x y, l = [a, .str x, .str y] ∧ isNm x = true ∧ isNm y = true := by
  unfold twoB at h
  split at h
  · rw [Bool.and_eq_true] at h
    obtain ⟨y, rfl, hy⟩ := name_of h.1
    obtain ⟨u, rfl, hu⟩ := name_of h.2
    exact ⟨_, y, u, rfl, hy, hu⟩
  · cases h
theorem put_inv {l : List W} (h : putB l = true) : ∃ a x v u, l = [a, .str x, v, u] ∧ isNm x = true := by
  unfold putB at h
  split at h
  · obtain ⟨y, rfl, hy⟩ := name_of h
    exact ⟨_, y, _, _, rfl, hy⟩
  · cases h
theorem letall_inv {l : List W} (h : letallB l = true) : ∃ a ps v, l = [a, .tup ps, v] ∧ (1 ≤ ps.length ∧ ps.length ≤ 6) ∧ ps.all pairB = true ∧ (ps.map fstS).Nodup := by
  unfold letallB at h
  split at h
  · rename_i a x v
    rw [Bool.and_eq_true] at h
    obtain ⟨ps, rfl, p1, p6⟩ := tup1_6 h.1
    have h2 : (ps.all pairB && decide ((ps.map fstS).Nodup)) = true := h.2
    rw [Bool.and_eq_true] at h2
    exact ⟨a, ps, v, rfl, ⟨p1, p6⟩, h2.1, of_decide_eq_true h2.2⟩
  · cases h
theorem made_inv {l : List W} (h : madeB l = true) : ∃ (a : W) (x : Str) (xs : List Str), l = [a, .str x, .tup (xs.map W.str)] ∧ isNm x = true ∧ xs.length ≤ 3 ∧ ∀ x ∈ xs, isNm x = true := by
  unfold madeB at h
  split at h
  · rw [Bool.and_eq_true] at h
    obtain ⟨y, rfl, hy⟩ := name_of h.1
    obtain ⟨xs, rfl, h1, h2⟩ := names_of h.2
    exact ⟨_, y, xs, rfl, hy, h1, h2⟩
  · cases h
theorem by_inv {l : List W} (h : byB l = true) : ∃ a x bs, l = [a, .str x, .tup bs] ∧ isNm x = true ∧ (1 ≤ bs.length ∧ bs.length ≤ 6) ∧ bs.all branchB = true ∧ (bs.map fstS).Nodup := by
  unfold byB at h
  split at h
  · rename_i a n x
    rw [Bool.and_eq_true, Bool.and_eq_true] at h
    obtain ⟨y, rfl, hy⟩ := name_of h.1
    obtain ⟨ps, rfl, p1, p6⟩ := tup1_6 h.2.1
    have h2 : (ps.all branchB && decide ((ps.map fstS).Nodup)) = true := h.2.2
    rw [Bool.and_eq_true] at h2
    exact ⟨a, y, ps, rfl, hy, ⟨p1, p6⟩, h2.1, of_decide_eq_true h2.2⟩
  · cases h
theorem shaped_inv {l : List W} (h : shapedB (.tup l) = true) : ∃ z r g, l = .str z :: r ∧ kindOf z = some g ∧ g l = true := by
  cases l with
  | nil => cases h
  | cons w r =>
    cases w with
    | str z =>
      have h : (match kindOf z with
        | some g => g (.str z :: r)
        | none => false) = true := h
      cases hk : kindOf z with
      | none => rw [hk] at h; cases h
      | some g =>
        rw [hk] at h
        exact ⟨z, r, g, rfl, hk, h⟩
    | _ => cases h
theorem sound {B d : Int} {x : W} {l : List W} {n : Nat} (hx : x = .tup l) (hs : shapedB x = true) (hd : d ≤ B) (h : Mx B (due (d + 1) (subsW l)) n) : ∃ t, x = tW t ∧ WF t ∧ nodes t = 1 + n ∧ d + deep t - 1 ≤ B := by
  subst hx
  obtain ⟨z, r, g, el, hk, hg⟩ := shaped_inv hs
  rcases kind_cases hk with ⟨rfl, rfl⟩ | ⟨rfl, rfl⟩ | ⟨rfl, rfl⟩ | ⟨tw, rfl⟩ | ⟨lt, rfl⟩ | ⟨rfl, rfl⟩ | ⟨rfl, rfl⟩ | ⟨rfl, rfl⟩
  · obtain ⟨a, i, rfl, h1, h2⟩ := num_inv hg
    cases el
    cases h
    exact ⟨.num i, rfl, ⟨h1, h2⟩, rfl, by show d + (1 : Nat) - 1 ≤ B; omega⟩
  · obtain ⟨a, y, rfl, hy⟩ := ask_inv hg
    cases el
    cases h
    exact ⟨.nam y, rfl, hy, rfl, by show d + (1 : Nat) - 1 ≤ B; omega⟩
  · obtain ⟨a, y, v, rfl, hy⟩ := fun_inv hg
    cases el
    obtain ⟨t, rfl, w, b, rfl⟩ := Mx.one h
    exact ⟨.fn y t, rfl, ⟨hy, w⟩, rfl, by show d + (1 + deep t : Nat) - 1 ≤ B; omega⟩
  · obtain ⟨a, y, u, rfl, hy, hu⟩ := two_inv hg
    cases el
    have e : subsW [W.str z, .str y, .str u] = [] := by
      rcases isTwo tw with rfl | rfl | rfl | rfl | rfl <;> rfl
    rw [e] at h
    cases h
    exact ⟨.two z y u, rfl, ⟨tw, hy, hu⟩, rfl, by show d + (1 : Nat) - 1 ≤ B; omega⟩
  · obtain ⟨a, y, v, u, rfl, hy⟩ := put_inv hg
    cases el
    have e : subsW [W.str z, .str y, v, u] = [v, u] := if_pos lt
    rw [e] at h
    obtain ⟨a, c, rfl, h1, h2⟩ := Mx.split (A := [(v, d + 1)]) h
    obtain ⟨t, rfl, w1, b1, rfl⟩ := Mx.one h1
    obtain ⟨s, rfl, w2, b2, rfl⟩ := Mx.one h2
    exact ⟨.lt z y t s, rfl, ⟨lt, hy, w1, w2⟩, by show 1 + nodes t + nodes s = _; omega, by show d + (1 + max (deep t) (deep s) : Nat) - 1 ≤ B; omega⟩
  · obtain ⟨a, ps, v, rfl, ⟨p1, p6⟩, ha, hn⟩ := letall_inv hg
    cases el
    have e : due (d + 1) (subsW [W.str "letall", .tup ps, v]) = due (d + 1) (ps.map fun p => match p with
        | .tup [_, v] => v
        | _ => W.non) ++ [(v, d + 1)] := by
      show due (d + 1) (ps.map _ ++ [v]) = _
      unfold due
      rw [List.map_append]
      rfl
    rw [e] at h
    obtain ⟨a, c, rfl, h1, h2⟩ := Mx.split h
    obtain ⟨s, rfl, w2, b2, rfl⟩ := Mx.one h2
    obtain ⟨P, rfl, q2, rfl, q4⟩ := ps_of ps a ha h1
    have q5 := q4 (by omega)
    rw [pW_len] at p1 p6
    rw [pW_fst] at hn
    exact ⟨.all P s, rfl, ⟨⟨p1, p6⟩, hn, q2, w2⟩, by show 1 + nodesPs P + nodes s = _; omega, by show d + (1 + max (deepPs P) (deep s) : Nat) - 1 ≤ B; omega⟩
  · obtain ⟨a, y, xs, rfl, hy, h1, h2⟩ := made_inv hg
    cases el
    cases h
    exact ⟨.mk y xs, rfl, ⟨hy, h1, h2⟩, rfl, by show d + (1 : Nat) - 1 ≤ B; omega⟩
  · obtain ⟨a, y, bs, rfl, hy, ⟨p1, p6⟩, ha, hn⟩ := by_inv hg
    cases el
    have h : Mx B (due (d + 1) (subB (.tup bs))) n := h
    obtain ⟨P, rfl, q2, rfl, q4⟩ := bs_of bs n ha h
    have q5 := q4 (by omega)
    rw [bW_len] at p1 p6
    rw [bW_fst] at hn
    exact ⟨.by_ y P, rfl, ⟨hy, ⟨p1, p6⟩, hn, q2⟩, rfl, by show d + (1 + deepBs P : Nat) - 1 ≤ B; omega⟩
end EvT

set_option Elab.async false
set_option linter.all false
set_option maxRecDepth 100000
set_option maxHeartbeats 1000000
namespace EvT
open PySem PySem.Spec PyProof.Rows L2 Ow Ev OwT
/-- what within tells -/
def namesW (ps : List W) : W := .tup ((ps.map fstS).map W.str)
def secW (p : W) : W := match p with
  | .tup [_, v] => v
  | _ => .non
def brW (p : W) : W := match p with
  | .tup [_, ns, v] => .tup [v, ns]
  | _ => .non
def insA (a b : W) : List W := match a with
  | .tup ps => ps.map (fun p => .tup [secW p, namesW ps]) ++ [.tup [b, namesW ps]]
  | _ => []
def insB (b : W) : List W := match b with
  | .tup bs => bs.map brW
  | _ => []
def insW (l : List W) : List W := match l with
  | [.str z, a, b] => if z = "fun" then [.tup [b, .tup [a]]] else if z = "letall" then insA a b else if z = "by" then insB b else []
  | [.str z, a, b, c] => if z = "let" ∨ z = "now" then [.tup [b, .tup []], .tup [c, .tup [a]]] else []
  | _ => []
def WithinC : Con := ⟨List W, fun l ws S => ws = [.tup l] ∧ shapedB (.tup l) = true ∧ dat S (.tup l), fun l S w S' => ∃ n, w = .ref n ∧ Ex S S' ∧ S.length ≤ n ∧ S'[n]? = some (.lst (insW l))⟩
theorem pair_two {p : W} (h : pairB p = true) : ∃ z v, p = .tup [.str z, v] := by
  unfold pairB at h
  split at h
  · rename_i n v
    rw [Bool.and_eq_true] at h
    cases n with
    | str z => exact ⟨z, v, rfl⟩
    | _ => cases h.1
  · cases h
theorem branch_three {p : W} (h : branchB p = true) : ∃ (z : Str) (ys : List Str) (v : W), p = .tup [.str z, .tup (ys.map W.str), v] := by
  unfold branchB at h
  split at h
  · rename_i n ns v
    rw [Bool.and_eq_true, Bool.and_eq_true] at h
    obtain ⟨ys, rfl, _, _⟩ := names_of h.2.1
    cases n with
    | str z => exact ⟨z, ys, v, rfl⟩
    | _ => cases h.1
  · cases h
theorem add_lst {S : Store} {m n : Nat} {a b : List W} {Q : WK} (ha : S[m]? = some (.lst a)) (hb : S[n]? = some (.lst b)) (hl : a.length + b.length ≤ sizeLine) (q : Q (.ref S.length) (S ++ [.lst (a ++ b)])) : wAdd (.ref m) (.ref n) S Q := by
  show o2 S[m]? S[n]? fun a b => a.length + b.length ≤ sizeLine ∧ Q (.ref S.length) (S ++ [.lst (a ++ b)])
  rw [ha, hb]
  exact ⟨hl, q⟩
section
variable {S : Store} {D : MD} {z : Str} {r l : List W}
theorem within_else (n1 : z ≠ "fun") (n2 : z ≠ "let") (n3 : z ≠ "now") (n4 : z ≠ "letall") (n5 : z ≠ "by") (k : ∀ n S', Ex S S' → S.length ≤ n → S'[n]? = some (.lst []) → D.rt (.ref n) S') : m_within D [some (.tup (.str z :: r)), none, none, none, none] S := by
  unfold m_within
  simp only [mSeq, mIfS, mRet, mRetN, mAsg, mDrop, mTest, mBin, mChain, mTru, mAnd, mOr, mNot, mAndV, mOrV, mNotV, mIf, mVar, mC, mCons, mNil, mTup, mLst, mCB, mgName, mNext, mIt, mPar, mAug, lk, wLen_tup, wLe_int, wLt_int, wGt_int, wEq_int, wNe_int, wEq_str, wNe_str, wIx_tup, wAt0, wAt1, wAt2, wAt3, oW_s, tru_bl, List.set]
  refine ifB (fun e => absurd (of_decide_eq_true e) n1) fun _ => ?_
  refine ⟨by show 2 ≤ sizeLine; decide, wIn_str2 ?_⟩
  simp only [mSeq, mIfS, mRet, mRetN, mAsg, mDrop, mTest, mBin, mChain, mTru, mAnd, mOr, mNot, mAndV, mOrV, mNotV, mIf, mVar, mC, mCons, mNil, mTup, mLst, mCB, mgName, mNext, mIt, mPar, mAug, lk, wLen_tup, wLe_int, wLt_int, wGt_int, wEq_int, wNe_int, wEq_str, wNe_str, wIx_tup, wAt0, wAt1, wAt2, wAt3, oW_s, tru_bl, List.set]
  refine ifB (fun e => ?_) fun _ => ?_
  · rw [Bool.or_eq_true] at e
    exact e.elim (fun e => absurd (of_decide_eq_true e) n2) fun e => absurd (of_decide_eq_true e) n3
  refine ifB (fun e => absurd (of_decide_eq_true e) n4) fun _ => ?_
  refine ifB (fun e => absurd (of_decide_eq_true e) n5) fun _ => ?_
  exact ⟨Nat.zero_le _, k _ _ Ex.one (Nat.le_refl _) (new_at S _)⟩
theorem two_ne (h : z ∈ twos) : z ≠ "fun" ∧ z ≠ "let" ∧ z ≠ "now" ∧ z ≠ "letall" ∧ z ≠ "by" := by
  rcases isTwo h with rfl | rfl | rfl | rfl | rfl <;> decide
theorem small {n : Nat} (h : n ≤ 100) : n ≤ sizeLine := Nat.le_trans h (by decide)
theorem vc_within (hs : shapedB (.tup l) = true) (hd : dat S (.tup l)) (k : ∀ n S', Ex S S' → S.length ≤ n → S'[n]? = some (.lst (insW l)) → D.rt (.ref n) S') : m_within D [some (.tup l), none, none, none, none] S := by
  obtain ⟨z, r, g, el, hk, hg⟩ := shaped_inv hs
  rcases kind_cases hk with ⟨rfl, rfl⟩ | ⟨rfl, rfl⟩ | ⟨rfl, rfl⟩ | ⟨tw, rfl⟩ | ⟨lt, rfl⟩ | ⟨rfl, rfl⟩ | ⟨rfl, rfl⟩ | ⟨rfl, rfl⟩
  · obtain ⟨a, i, rfl, h1, h2⟩ := num_inv hg
    cases el
    exact within_else (by decide) (by decide) (by decide) (by decide) (by decide) k
  · obtain ⟨a, y, rfl, hy⟩ := ask_inv hg
    cases el
    exact within_else (by decide) (by decide) (by decide) (by decide) (by decide) k
  · obtain ⟨a, y, v, rfl, hy⟩ := fun_inv hg
    cases el
    unfold m_within
    simp only [mSeq, mIfS, mRet, mRetN, mAsg, mDrop, mTest, mBin, mChain, mTru, mAnd, mOr, mNot, mAndV, mOrV, mNotV, mIf, mVar, mC, mCons, mNil, mTup, mLst, mCB, mgName, mNext, mIt, mPar, mAug, lk, wLen_tup, wLe_int, wLt_int, wGt_int, wEq_int, wNe_int, wEq_str, wNe_str, wIx_tup, wAt0, wAt1, wAt2, wAt3, oW_s, tru_bl, List.set]
    refine ifB (fun _ => ?_) fun e => absurd e (by decide)
    exact ⟨by show 1 ≤ sizeLine; decide, by show 2 ≤ sizeLine; decide, by show 1 ≤ sizeLine; decide, k _ _ Ex.one (Nat.le_refl _) (new_at S _)⟩
  · obtain ⟨a, y, u, rfl, hy, hu⟩ := two_inv hg
    cases el
    have n := two_ne tw
    refine within_else n.1 n.2.1 n.2.2.1 n.2.2.2.1 n.2.2.2.2 fun m S' h1 h2 h3 => k m S' h1 h2 ?_
    rw [h3]
    rcases isTwo tw with rfl | rfl | rfl | rfl | rfl <;> rfl
  · obtain ⟨a, y, v, u, rfl, hy⟩ := put_inv hg
    cases el
    have n1 : z ≠ "fun" := by rcases lt with rfl | rfl <;> decide
    unfold m_within
    simp only [mSeq, mIfS, mRet, mRetN, mAsg, mDrop, mTest, mBin, mChain, mTru, mAnd, mOr, mNot, mAndV, mOrV, mNotV, mIf, mVar, mC, mCons, mNil, mTup, mLst, mCB, mgName, mNext, mIt, mPar, mAug, lk, wLen_tup, wLe_int, wLt_int, wGt_int, wEq_int, wNe_int, wEq_str, wNe_str, wIx_tup, wAt0, wAt1, wAt2, wAt3, oW_s, tru_bl, List.set]
    refine ifB (fun e => absurd (of_decide_eq_true e) n1) fun _ => ?_
    refine ⟨by show 2 ≤ sizeLine; decide, wIn_str2 ?_⟩
    simp only [mSeq, mIfS, mRet, mRetN, mAsg, mDrop, mTest, mBin, mChain, mTru, mAnd, mOr, mNot, mAndV, mOrV, mNotV, mIf, mVar, mC, mCons, mNil, mTup, mLst, mCB, mgName, mNext, mIt, mPar, mAug, lk, wLen_tup, wLe_int, wLt_int, wGt_int, wEq_int, wNe_int, wEq_str, wNe_str, wIx_tup, wAt0, wAt1, wAt2, wAt3, oW_s, tru_bl, List.set]
    refine ifB (fun _ => ?_) fun e => ?_
    · refine ⟨by show 0 ≤ sizeLine; decide, by show 2 ≤ sizeLine; decide, by show 1 ≤ sizeLine; decide, by show 2 ≤ sizeLine; decide, by show 2 ≤ sizeLine; decide, k _ _ Ex.one (Nat.le_refl _) ?_⟩
      have e : insW [W.str z, .str y, v, u] = [.tup [v, .tup []], .tup [u, .tup [.str y]]] := if_pos lt
      rw [e]
      exact new_at S _
    · rcases lt with rfl | rfl <;> exact absurd e (by decide)
  · obtain ⟨a, ps, v, rfl, ⟨p1, p6⟩, ha, hn⟩ := letall_inv hg
    cases el
    unfold m_within
    simp only [mSeq, mIfS, mRet, mRetN, mAsg, mDrop, mTest, mBin, mChain, mTru, mAnd, mOr, mNot, mAndV, mOrV, mNotV, mIf, mVar, mC, mCons, mNil, mTup, mLst, mCB, mgName, mNext, mIt, mPar, mAug, lk, wLen_tup, wLe_int, wLt_int, wGt_int, wEq_int, wNe_int, wEq_str, wNe_str, wIx_tup, wAt0, wAt1, wAt2, wAt3, oW_s, tru_bl, List.set]
    refine ifB (fun e => absurd e (by decide)) fun _ => ?_
    refine ⟨by show 2 ≤ sizeLine; decide, wIn_str2 ?_⟩
    simp only [mSeq, mIfS, mRet, mRetN, mAsg, mDrop, mTest, mBin, mChain, mTru, mAnd, mOr, mNot, mAndV, mOrV, mNotV, mIf, mVar, mC, mCons, mNil, mTup, mLst, mCB, mgName, mNext, mIt, mPar, mAug, lk, wLen_tup, wLe_int, wLt_int, wGt_int, wEq_int, wNe_int, wEq_str, wNe_str, wIx_tup, wAt0, wAt1, wAt2, wAt3, oW_s, tru_bl, List.set]
    refine ifB (fun e => absurd e (by decide)) fun _ => ?_
    refine ifB (fun _ => ?_) fun e => absurd e (by decide)
    refine firsts_ok (ps := ps) (h0 := fun _ => rfl) (fun S3 R r => r) (small (by omega)) (fun p hp => pair_str (List.all_eq_true.mp ha p hp)) fun S1 h1 at1 => ?_
    show oL S1[S.length]? _
    rw [at1]
    simp only [oL]
    unfold mLc
    refine lcL_ex (S0 := S1) (fun _ => true) (fun w => .tup [secW w, namesW ps]) (fun w => [some (.tup [.str "letall", .tup ps, v]), some (.str "letall"), some (namesW ps), some w, none]) (fun _ _ => trivial) ps [] (by simpa using small (by omega)) (fun w _ S2 R r => ?_) (fun w _ S2 k _ z => z S2 Ex.refl) (fun w hw _ S2 k _ z => ?_) (fun S2 h2 => ?_) _ Ex.refl
    · exact r
    · obtain ⟨y, u, rfl⟩ := pair_two (List.all_eq_true.mp ha w hw)
      simp only [mSeq, mIfS, mRet, mRetN, mAsg, mDrop, mTest, mBin, mChain, mTru, mAnd, mOr, mNot, mAndV, mOrV, mNotV, mIf, mVar, mC, mCons, mNil, mTup, mLst, mCB, mgName, mNext, mIt, mPar, mAug, lk, wLen_tup, wLe_int, wLt_int, wGt_int, wEq_int, wNe_int, wEq_str, wNe_str, wIx_tup, wAt0, wAt1, wAt2, wAt3, oW_s, tru_bl, List.set]
      exact ⟨by show 2 ≤ sizeLine; decide, z S2 Ex.refl⟩
    · rw [filter_true, List.nil_append] at h2
      obtain ⟨h3, h4⟩ := h2.new
      refine ⟨by show 2 ≤ sizeLine; decide, by show 1 ≤ sizeLine; decide, ?_⟩
      refine add_lst (Ex.one.at h4) (new_at S2 _) (by rw [List.length_map]; exact small (by show ps.length + 1 ≤ 100; omega)) ?_
      refine k _ _ (((h1.trans h3).trans Ex.one).trans Ex.one) ?_ (new_at _ _)
      exact Nat.le_trans (h1.trans h3).len (by rw [List.length_append]; omega)
  · obtain ⟨a, y, xs, rfl, hy, h1, h2⟩ := made_inv hg
    cases el
    exact within_else (by decide) (by decide) (by decide) (by decide) (by decide) k
  · obtain ⟨a, y, bs, rfl, hy, ⟨p1, p6⟩, ha, hn⟩ := by_inv hg
    cases el
    unfold m_within
    simp only [mSeq, mIfS, mRet, mRetN, mAsg, mDrop, mTest, mBin, mChain, mTru, mAnd, mOr, mNot, mAndV, mOrV, mNotV, mIf, mVar, mC, mCons, mNil, mTup, mLst, mCB, mgName, mNext, mIt, mPar, mAug, lk, wLen_tup, wLe_int, wLt_int, wGt_int, wEq_int, wNe_int, wEq_str, wNe_str, wIx_tup, wAt0, wAt1, wAt2, wAt3, oW_s, tru_bl, List.set]
    refine ifB (fun e => absurd e (by decide)) fun _ => ?_
    refine ⟨by show 2 ≤ sizeLine; decide, wIn_str2 ?_⟩
    simp only [mSeq, mIfS, mRet, mRetN, mAsg, mDrop, mTest, mBin, mChain, mTru, mAnd, mOr, mNot, mAndV, mOrV, mNotV, mIf, mVar, mC, mCons, mNil, mTup, mLst, mCB, mgName, mNext, mIt, mPar, mAug, lk, wLen_tup, wLe_int, wLt_int, wGt_int, wEq_int, wNe_int, wEq_str, wNe_str, wIx_tup, wAt0, wAt1, wAt2, wAt3, oW_s, tru_bl, List.set]
    refine ifB (fun e => absurd e (by decide)) fun _ => ?_
    refine ifB (fun e => absurd e (by decide)) fun _ => ?_
    refine ifB (fun _ => ?_) fun e => absurd e (by decide)
    unfold mLc
    refine lcL_ex (S0 := S) (fun _ => true) brW (fun w => [some (.tup [.str "by", .str y, .tup bs]), some (.str "by"), none, none, some w]) (fun _ _ => trivial) bs [] (by simpa using small (by omega)) (fun w _ S2 R r => ?_) (fun w _ S2 k _ z => z S2 Ex.refl) (fun w hw _ S2 k _ z => ?_) (fun S2 h2 => ?_) _ Ex.refl
    · exact r
    · obtain ⟨y, ys, u, rfl⟩ := branch_three (List.all_eq_true.mp ha w hw)
      simp only [mSeq, mIfS, mRet, mRetN, mAsg, mDrop, mTest, mBin, mChain, mTru, mAnd, mOr, mNot, mAndV, mOrV, mNotV, mIf, mVar, mC, mCons, mNil, mTup, mLst, mCB, mgName, mNext, mIt, mPar, mAug, lk, wLen_tup, wLe_int, wLt_int, wGt_int, wEq_int, wNe_int, wEq_str, wNe_str, wIx_tup, wAt0, wAt1, wAt2, wAt3, oW_s, tru_bl, List.set]
      exact ⟨by show 2 ≤ sizeLine; decide, z S2 Ex.refl⟩
    · rw [filter_true, List.nil_append] at h2
      obtain ⟨h3, h4⟩ := h2.new
      exact k _ _ h3 (Nat.le_refl _) h4
end
end EvT

set_option Elab.async false
set_option linter.all false
set_option maxRecDepth 100000
set_option maxHeartbeats 1000000
namespace EvT
open PySem PySem.Spec PyProof.Rows L2 Ow Ev OwT
def firstW (p : W) : W := match p with
  | .tup (s :: _) => s
  | _ => .non
structure InsOk (S : Store) (l : List W) : Prop where
  form : ∀ x ∈ insW l, ∃ s ns, x = .tup [s, ns]
  subs : (insW l).map firstW = subsW l
  few : (insW l).length ≤ 7
  dat : ∀ s ∈ subsW l, dat S s
theorem ins_ok {S : Store} {l : List W} (hs : shapedB (.tup l) = true) (hd : dat S (.tup l)) : InsOk S l := by
  obtain ⟨z, r, g, el, hk, hg⟩ := shaped_inv hs
  rcases kind_cases hk with ⟨rfl, rfl⟩ | ⟨rfl, rfl⟩ | ⟨rfl, rfl⟩ | ⟨tw, rfl⟩ | ⟨lt, rfl⟩ | ⟨rfl, rfl⟩ | ⟨rfl, rfl⟩ | ⟨rfl, rfl⟩
  · obtain ⟨a, i, rfl, h1, h2⟩ := num_inv hg
    cases el
    exact ⟨(fun x hx => by cases hx), rfl, Nat.zero_le _, (fun x hx => by cases hx)⟩
  · obtain ⟨a, y, rfl, hy⟩ := ask_inv hg
    cases el
    exact ⟨(fun x hx => by cases hx), rfl, Nat.zero_le _, (fun x hx => by cases hx)⟩
  · obtain ⟨a, y, v, rfl, hy⟩ := fun_inv hg
    cases el
    refine ⟨fun x hx => ?_, rfl, by show 1 ≤ 7; decide, fun x hx => ?_⟩
    · rw [List.mem_singleton.mp hx]
      exact ⟨_, _, rfl⟩
    · rw [List.mem_singleton.mp hx]
      exact hd.2.2.2.1
  · obtain ⟨a, y, u, rfl, hy, hu⟩ := two_inv hg
    cases el
    have e : insW [W.str z, .str y, .str u] = [] := by
      rcases isTwo tw with rfl | rfl | rfl | rfl | rfl <;> rfl
    have e2 : subsW [W.str z, .str y, .str u] = [] := by
      rcases isTwo tw with rfl | rfl | rfl | rfl | rfl <;> rfl
    refine ⟨fun x hx => ?_, by rw [e, e2]; rfl, by rw [e]; exact Nat.zero_le _, fun x hx => ?_⟩
    · rw [e] at hx
      cases hx
    · rw [e2] at hx
      cases hx
  · obtain ⟨a, y, v, u, rfl, hy⟩ := put_inv hg
    cases el
    have e : insW [W.str z, .str y, v, u] = [.tup [v, .tup []], .tup [u, .tup [.str y]]] := if_pos lt
    have e2 : subsW [W.str z, .str y, v, u] = [v, u] := if_pos lt
    refine ⟨fun x hx => ?_, by rw [e, e2]; rfl, by rw [e]; show 2 ≤ 7; decide, fun x hx => ?_⟩
    · rw [e] at hx
      rcases List.mem_cons.mp hx with rfl | hx
      · exact ⟨_, _, rfl⟩
      · rw [List.mem_singleton.mp hx]
        exact ⟨_, _, rfl⟩
    · rw [e2] at hx
      rcases List.mem_cons.mp hx with rfl | hx
      · exact hd.2.2.2.1
      · rw [List.mem_singleton.mp hx]
        exact hd.2.2.2.2.1
  · obtain ⟨a, ps, v, rfl, ⟨p1, p6⟩, ha, hn⟩ := letall_inv hg
    cases el
    have hps : dats S ps := hd.2.2.1.2
    refine ⟨fun x hx => ?_, ?_, ?_, fun x hx => ?_⟩
    · rcases List.mem_append.mp (show x ∈ ps.map (fun p => W.tup [secW p, namesW ps]) ++ [W.tup [v, namesW ps]] from hx) with hx | hx
      · obtain ⟨p, _, rfl⟩ := List.mem_map.mp hx
        exact ⟨_, _, rfl⟩
      · rw [List.mem_singleton.mp hx]
        exact ⟨_, _, rfl⟩
    · show (ps.map (fun p => W.tup [secW p, namesW ps]) ++ [W.tup [v, namesW ps]]).map firstW = ps.map _ ++ [v]
      rw [List.map_append, List.map_map]
      rfl
    · show (ps.map (fun p => W.tup [secW p, namesW ps]) ++ [W.tup [v, namesW ps]]).length ≤ 7
      rw [List.length_append, List.length_map]
      show ps.length + 1 ≤ 7
      omega
    · rcases List.mem_append.mp (show x ∈ ps.map secW ++ [v] from hx) with hx | hx
      · obtain ⟨p, hp, rfl⟩ := List.mem_map.mp hx
        obtain ⟨y, u, rfl⟩ := pair_two (List.all_eq_true.mp ha p hp)
        exact (hps.mem hp).2.2.1
      · rw [List.mem_singleton.mp hx]
        exact hd.2.2.2.1
  · obtain ⟨a, y, xs, rfl, hy, h1, h2⟩ := made_inv hg
    cases el
    exact ⟨(fun x hx => by cases hx), rfl, Nat.zero_le _, (fun x hx => by cases hx)⟩
  · obtain ⟨a, y, bs, rfl, hy, ⟨p1, p6⟩, ha, hn⟩ := by_inv hg
    cases el
    have hbs : dats S bs := hd.2.2.2.1.2
    have three : ∀ p ∈ bs, ∃ (z : Str) (ys : List Str) (v : W), p = .tup [.str z, .tup (ys.map W.str), v] := fun p hp => branch_three (List.all_eq_true.mp ha p hp)
    refine ⟨fun x hx => ?_, ?_, ?_, fun x hx => ?_⟩
    · obtain ⟨p, hp, rfl⟩ := List.mem_map.mp (show x ∈ bs.map brW from hx)
      obtain ⟨z, ys, v, rfl⟩ := three p hp
      exact ⟨_, _, rfl⟩
    · show (bs.map brW).map firstW = bs.map _
      rw [List.map_map]
      refine List.map_congr_left fun p hp => ?_
      obtain ⟨z, ys, v, rfl⟩ := three p hp
      rfl
    · show (bs.map brW).length ≤ 7
      rw [List.length_map]
      omega
    · obtain ⟨p, hp, rfl⟩ := List.mem_map.mp (show x ∈ bs.map _ from hx)
      obtain ⟨z, ys, v, rfl⟩ := three p hp
      exact (hbs.mem hp).2.2.2.1
def enc (L : List (W × Int)) : List W := L.map fun p => .tup [p.1, .int p.2]
def isT (x : W) : Prop := ∃ t, x = tW t ∧ WF t ∧ nodes t ≤ 300 ∧ deep t ≤ 60
theorem mid_at (S0 : Store) (o : O) (m : Store) : (S0 ++ [o] ++ m)[S0.length]? = some o := by
  rw [List.append_assoc, List.getElem?_append_right (Nat.le_refl _), Nat.sub_self]
  rfl
theorem mid_ne {S0 : Store} {o o' : O} {m : Store} {n : Nat} (h : n ≠ S0.length) : (S0 ++ [o] ++ m)[n]? = (S0 ++ [o'] ++ m)[n]? := by
  rw [← new_set S0 o o' m, List.getElem?_set_ne (Ne.symm h)]
/-- todo.append((inner, depth + 1)) for each -/
theorem push_all {S0 : Store} {x p : W} {pc d : Int} {n : Nat} {D : MD} {chkL : List W} (hn : n ≠ S0.length) : ∀ (R : List W) (L : List (W × Int)) (e5 e6 : Option W) (m : Store), (∀ y ∈ R, ∃ s ns, y = .tup [s, ns]) → L.length + R.length ≤ sizeLine → (S0 ++ [.lst (enc L)] ++ m)[n]? = some (.lst chkL) →
      (∀ e5 e6, D.nx [some x, some (.ref S0.length), some (.int pc), some p, some (.int d), e5, e6] (S0 ++ [.lst (enc (L ++ due (d + 1) (R.map firstW)))] ++ m)) →
      forL (fun S' => S'[n]? = some (.lst chkL)) (mgTup 2 (mgCons (mgName 5) (mgCons (mgName 6) mgNil)))
        (mDrop (mBM wAppend (mVar 1) (mCons (mTup (mCons (mVar 5) (mCons (mBin wAdd (mVar 4) (mC (.int 1))) mNil))) mNil))) D R [some x, some (.ref S0.length), some (.int pc), some p, some (.int d), e5, e6] (S0 ++ [.lst (enc L)] ++ m)
  | [], L, e5, e6, m, _, _, hc, q => by
    refine ⟨hc, ?_⟩
    have := q e5 e6
    simpa [due] using this
  | y :: R, L, e5, e6, m, hf, hl, hc, q => by
    obtain ⟨s, ns, rfl⟩ := hf y List.mem_cons_self
    rw [List.length_cons] at hl
    refine ⟨hc, rfl, ?_⟩
    refine ⟨rfl, ?_⟩
    show isLst (.ref S0.length) _ ∧ _
    refine ⟨?_, by show 2 ≤ sizeLine; decide, ?_⟩
    · show oL (S0 ++ [.lst (enc L)] ++ m)[S0.length]? _
      rw [mid_at]
      trivial
    · show oL (S0 ++ [.lst (enc L)] ++ m)[S0.length]? _
      rw [mid_at]
      refine ⟨by unfold enc; rw [List.length_map]; omega, ?_⟩
      rw [new_set]
      have e : enc L ++ [.tup [s, .int (d + 1)]] = enc (L ++ [(s, d + 1)]) := by
        unfold enc
        rw [List.map_append]
        rfl
      rw [e]
      refine push_all hn R (L ++ [(s, d + 1)]) _ _ m (fun y hy => hf y (List.mem_cons_of_mem _ hy)) (by rw [List.length_append, List.length_singleton]; omega) ?_ fun e5 e6 => ?_
      · rw [mid_ne hn (o' := .lst (enc L))]
        exact hc
      · have := q e5 e6
        have e9 : L ++ due (d + 1) ((W.tup [s, ns] :: R).map firstW) = (L ++ [(s, d + 1)]) ++ due (d + 1) (R.map firstW) := by
          rw [List.append_assoc]
          rfl
        rw [e9] at this
        exact this
abbrev ShapedC : Con := Pur 1 (fun _ => True) fun a => match a with
  | [x] => .bl (shapedB x)
  | _ => .non
theorem pur_shaped {x : W} {S : Store} {Q : WK} (h : dat S x) (q : ∀ S', Ex S S' → Q (.bl (shapedB x)) S') : conR ShapedC [x] S Q := pur_call rfl trivial ⟨h, trivial⟩ q
theorem within_call {l : List W} {S : Store} {Q : WK} (hs : shapedB (.tup l) = true) (hd : dat S (.tup l)) (q : ∀ n S', Ex S S' → S.length ≤ n → S'[n]? = some (.lst (insW l)) → Q (.ref n) S') : conR WithinC [.tup l] S Q :=
  ⟨l, ⟨rfl, hs, hd⟩, fun w S' ⟨n, e, a, b, c⟩ => by rw [e]; exact q n S' a b c⟩
theorem shaped_tup {x : W} (h : shapedB x = true) : ∃ l, x = .tup l := by
  cases x <;> first | exact ⟨_, rfl⟩ | cases h
theorem last_or {α : Type} : ∀ L : List α, L = [] ∨ ∃ L' x, L = L' ++ [x]
  | [] => .inl rfl
  | a :: L => .inr (by
    rcases last_or L with h | ⟨L', x, h⟩
    · exact ⟨[], a, by rw [h]; rfl⟩
    · exact ⟨a :: L', x, by rw [h]; rfl⟩)
structure TodoOk (S : Store) (x : W) (pc : Nat) (L : List (W × Int)) : Prop where
  most : pc ≤ 300
  len : L.length ≤ 1 + 7 * pc
  dat : ∀ p ∈ L, dat S p.1
  fin : ∀ n B, 60 ≤ B → Mx B L n → ∃ t, x = tW t ∧ WF t ∧ nodes t = pc + n ∧ deep t ≤ B
  all : ∀ t, x = tW t → WF t → nodes t ≤ 300 → deep t ≤ 60 → ∃ n, Mx 60 L n ∧ pc + n = nodes t
theorem enc_snoc (L : List (W × Int)) (p : W × Int) : enc (L ++ [p]) = enc L ++ [.tup [p.1, .int p.2]] := by
  unfold enc
  rw [List.map_append]
  rfl
def tPush : MS := (mFor (mIt (mCB (conR WithinC) (mCons (mVar 3) mNil))) (mgTup 2 (mgCons (mgName 5) (mgCons (mgName 6) mgNil)))
      (mDrop (mBM wAppend (mVar 1) (mCons (mTup (mCons (mVar 5) (mCons (mBin wAdd (mVar 4) (mC (.int 1))) mNil))) mNil))))
def tBody : MS := (mSeq (mAsg (mBM0 wPop (mVar 1)) (mgTup 2 (mgCons (mgName 3) (mgCons (mgName 4) mgNil))))
      (mSeq (mAug 2 (wInt (fun i j => i + j) fun _ _ => True) (mC (.int 1)))
      (mSeq (mIfS (mOr (mTest (mBin wGt (mVar 2) (mC (.int (300))))) (mOr (mTest (mBin wGt (mVar 4) (mC (.int (60))))) (mNot (mTru (mCB (conR ShapedC) (mCons (mVar 3) mNil))))))
      (mRet (mC (.bl false)))
      mNext)
      tPush)))
theorem walk_lst {S : Store} {n : Nat} {l : List W} {R : (Store → Prop) → List W → Store → Prop} (h : S[n]? = some (.lst l)) : wIt (.ref n) S R = R (fun S' => S'[n]? = some (.lst l)) l S := by
  show oIt n S[n]? S R = _
  rw [h]
  rfl
theorem pop_read {S0 : Store} {m : Store} {L : List (W × Int)} {p : W} {d : Int} {env : EvS} {Q : EvS → Store → Prop} (hv : lk env 1 = some (.ref S0.length)) (q : Q ((env.set 3 (some p)).set 4 (some (.int d))) (S0 ++ [.lst (enc L)] ++ m)) :
    mBM0 wPop (mVar 1) env (S0 ++ [.lst (enc (L ++ [(p, d)]))] ++ m) fun w S1 => mgTup 2 (mgCons (mgName 3) (mgCons (mgName 4) mgNil)) w env S1 Q := by
  unfold mBM0 mVar
  rw [hv]
  refine ⟨?_, ?_⟩
  · show oL (S0 ++ [.lst _] ++ m)[S0.length]? _
    rw [mid_at]
    trivial
  · show oL (S0 ++ [.lst _] ++ m)[S0.length]? _
    rw [mid_at]
    show oW (enc (L ++ [(p, d)])).getLast? _
    rw [enc_snoc, List.getLast?_concat, List.dropLast_concat, new_set]
    exact ⟨rfl, rfl, q⟩
mutual
theorem dat_mid {S0 m : Store} {a b : List W} : ∀ {w : W}, dat (S0 ++ [.lst a] ++ m) w → dat (S0 ++ [.lst b] ++ m) w
  | .non, _ => trivial
  | .bl _, _ => trivial
  | .int _, _ => trivial
  | .str _, q => q
  | .tup l, q => ⟨q.1, dats_mid q.2⟩
  | .cl _, _ => trivial
  | .ref n, ⟨l, e⟩ => by
    by_cases h : n = S0.length
    · subst h
      exact ⟨b, mid_at _ _ _⟩
    · exact ⟨l, by rw [mid_ne h (o' := .lst a)]; exact e⟩
  | .adr _, q => q.elim
  | .ty _, q => q.elim
theorem dats_mid {S0 m : Store} {a b : List W} : ∀ {l : List W}, dats (S0 ++ [.lst a] ++ m) l → dats (S0 ++ [.lst b] ++ m) l
  | [], _ => trivial
  | _ :: _, q => ⟨dat_mid q.1, dats_mid q.2⟩
end
theorem loop_term {S0 : Store} {x : W} {D : MD} (k : ∀ b S', (b = true ↔ isT x) → Ex S0 S' → D.rt (.bl b) S') (kn : D.nx = fun _ S' => D.rt (.bl true) S') : ∀ (f : Nat) (pc : Nat) (L : List (W × Int)) (e3 e4 e5 e6 : Option W) (m : Store), f = 302 - pc → TodoOk (S0 ++ [.lst (enc L)] ++ m) x pc L →
    whL (mTru (mVar 1)) tBody D f [some x, some (.ref S0.length), some (.int pc), e3, e4, e5, e6] (S0 ++ [.lst (enc L)] ++ m)
  | 0, pc, L, e3, e4, e5, e6, m, hf, ok => by
    have := ok.most
    omega
  | f + 1, pc, L, e3, e4, e5, e6, m, hf, ok => by
    have S0len : ∀ (o : O) (m : Store), Ex S0 (S0 ++ [o] ++ m) := fun o m => ⟨[o] ++ m, by rw [List.append_assoc]⟩
    unfold whL
    simp only [mTru, mVar, lk, Ev.wTru]
    rw [mid_at]
    simp only [oTru]
    rcases last_or L with rfl | ⟨L', ⟨p, d⟩, rfl⟩
    · refine iteF ?_
      rw [kn]
      obtain ⟨t, e, w, hn, hd⟩ := ok.fin 0 60 (by decide) .nil
      have := ok.most
      exact k true _ ⟨fun _ => ⟨t, e, w, by omega, by omega⟩, fun _ => rfl⟩ (S0len _ _)
    · have ne : (!(enc (L' ++ [(p, d)])).isEmpty) = true := by
        rw [enc_snoc]
        cases enc L' <;> rfl
      rw [ne]
      refine iteT ?_
      -- whatever is refused is no term
      have bad : (pc + 1 > 300 ∨ d > 60 ∨ shapedB p = false) → ¬ isT x := fun h ⟨t, e, w, hn, hd⟩ => by
        obtain ⟨n, hm, he⟩ := ok.all t e w hn hd
        obtain ⟨a, c, rfl, h1, h2⟩ := Mx.split hm
        obtain ⟨s, rfl, w2, b2, rfl⟩ := Mx.one h2
        have p1 := nodes_pos s
        have p2 := deep_pos s
        rcases h with h | h | h
        · omega
        · omega
        · rw [shaped_tW s w2] at h
          cases h
      have hp : dat (S0 ++ [.lst (enc (L' ++ [(p, d)]))] ++ m) p := ok.dat _ (List.mem_append_right _ List.mem_cons_self)
      have ih := loop_term k kn f
      generalize hN : whL (mTru (mVar 1)) tBody D f = NX at ih ⊢
      unfold tBody
      simp only [mSeq, mAsg]
      refine pop_read (p := p) (d := d) rfl ?_
      simp only [List.set]
      simp only [mSeq, mIfS, mRet, mRetN, mAsg, mDrop, mTest, mBin, mChain, mTru, mAnd, mOr, mNot, mAndV, mOrV, mNotV, mIf, mVar, mC, mCons, mNil, mTup, mLst, mCB, mgName, mNext, mIt, mPar, mAug, lk, wLen_tup, wLe_int, wLt_int, wGt_int, wEq_int, wNe_int, wEq_str, wNe_str, wIx_tup, wAt0, wAt1, wAt2, wAt3, oW_s, tru_bl, List.set]
      refine ⟨trivial, ?_⟩
      simp only [mSeq, mIfS, mRet, mRetN, mAsg, mDrop, mTest, mBin, mChain, mTru, mAnd, mOr, mNot, mAndV, mOrV, mNotV, mIf, mVar, mC, mCons, mNil, mTup, mLst, mCB, mgName, mNext, mIt, mPar, mAug, lk, wLen_tup, wLe_int, wLt_int, wGt_int, wEq_int, wNe_int, wEq_str, wNe_str, wIx_tup, wAt0, wAt1, wAt2, wAt3, oW_s, tru_bl, List.set]
      have bad' : ∀ S', Ex S0 S' → (pc + 1 > 300 ∨ d > 60 ∨ shapedB p = false) → D.rt (.bl false) S' := fun S' hx h => k false S' ⟨(fun z => by cases z), fun z => absurd z (bad h)⟩ hx
      refine ifB (fun e => ifT (bad' _ (S0len _ _) (.inl (by have := of_decide_eq_true e; omega)))) fun e1 => ?_
      refine ifB (fun e => ifT (bad' _ (S0len _ _) (.inr (.inl (by have := of_decide_eq_true e; omega))))) fun e2 => ?_
      have e1 := of_decide_eq_false e1
      have e2 := of_decide_eq_false e2
      refine pur_shaped (dat_mid hp) fun S1 h1 => ?_
      simp only [mSeq, mIfS, mRet, mRetN, mAsg, mDrop, mTest, mBin, mChain, mTru, mAnd, mOr, mNot, mAndV, mOrV, mNotV, mIf, mVar, mC, mCons, mNil, mTup, mLst, mCB, mgName, mNext, mIt, mPar, mAug, lk, wLen_tup, wLe_int, wLt_int, wGt_int, wEq_int, wNe_int, wEq_str, wNe_str, wIx_tup, wAt0, wAt1, wAt2, wAt3, oW_s, tru_bl, List.set]
      refine ifNB (fun e3 => bad' _ ((S0len _ _).trans h1) (.inr (.inr e3))) fun e3 => ?_
      obtain ⟨l, rfl⟩ := shaped_tup e3
      unfold tPush
      simp only [mFor, mIt, mCB, mCons, mNil, mVar, lk]
      have hp1 := (dat_mid (b := enc L') hp).ex h1
      refine within_call e3 hp1 fun n S2 h2 hlen at2 => ?_
      rw [walk_lst at2]
      obtain ⟨m2, e9⟩ := h1.trans h2
      have hlen2 : S0.length < n := by
        obtain ⟨m3, e8⟩ := h1
        rw [e8] at hlen
        simp only [List.length_append, List.length_cons] at hlen
        omega
      have io := ins_ok e3 (hp1.ex h2)
      rw [e9, List.append_assoc] at at2 io ⊢
      have lsub : (subsW l).length ≤ 7 := by
        rw [← io.subs, List.length_map]
        exact io.few
      have okl := ok.len
      have okm := ok.most
      have okd := ok.dat
      rw [List.length_append, List.length_singleton] at okl
      refine push_all (Nat.ne_of_gt hlen2) (insW l) L' e5 e6 (m ++ m2) io.form (by have := io.few; exact Nat.le_trans (show L'.length + (insW l).length ≤ 3000 by omega) (by decide)) at2 fun e5 e6 => ?_
      rw [io.subs]
      have := ih (pc + 1) (L' ++ due (d + 1) (subsW l)) (some (.tup l)) (some (.int d)) e5 e6 (m ++ m2) (by omega) ⟨by omega, by
        have : (due (d + 1) (subsW l)).length = (subsW l).length := List.length_map ..
        rw [List.length_append, this]
        omega, fun q hq => ?_, fun n B hB hm => ?_, fun t e w hn hd => ?_⟩
      · exact this
      · rcases List.mem_append.mp hq with hq | hq
        · have h5 := okd q (List.mem_append_left _ hq)
          have h6 : dat (S0 ++ [.lst (enc (L' ++ due (d + 1) (subsW l)))] ++ m) q.1 := dat_mid h5
          exact h6.ex ⟨m2, by rw [List.append_assoc _ m m2]⟩
        · obtain ⟨s, hs, rfl⟩ := List.mem_map.mp hq
          exact dat_mid (io.dat s hs)
      · obtain ⟨a, c, rfl, h1, h2⟩ := Mx.split hm
        obtain ⟨s, q1, q2, q3, q4⟩ := sound rfl e3 (by omega) h2
        have hm2 : Mx B (L' ++ [(.tup l, d)]) (a + (nodes s + 0)) := Mx.app (by rw [q1]; exact .cons q2 q4 .nil) h1
        obtain ⟨t, r1, r2, r3, r4⟩ := ok.fin _ B hB hm2
        exact ⟨t, r1, r2, by omega, r4⟩
      · obtain ⟨n, hm, he⟩ := ok.all t e w hn hd
        obtain ⟨a, c, rfl, h1, h2⟩ := Mx.split hm
        obtain ⟨s, q1, q2, q3, rfl⟩ := Mx.one h2
        obtain ⟨l', q5, q6⟩ := subs_tW s q2
        rw [← q1] at q5
        cases q5
        obtain ⟨n', q7, q8⟩ := mx_tW s q2 q3
        exact ⟨a + n', Mx.app (by rw [q6]; exact q8) h1, by omega⟩
theorem vc_is_term {x : W} {S : Store} {D : MD} (h : dat S x) (k : ∀ b S', (b = true ↔ isT x) → Ex S S' → D.rt (.bl b) S') : m_is_term ShapedC WithinC D [some x, none, none, none, none, none, none] S := by
  refine ⟨by show 2 ≤ sizeLine; decide, by show 1 ≤ sizeLine; decide, 302, ?_⟩
  have := loop_term (S0 := S) (x := x) (D := { D with nx := fun _ S' => D.rt (.bl true) S' }) k rfl 302 0 [(x, 1)] none none none none [] rfl ⟨Nat.zero_le _, Nat.le_refl 1, fun p hp => ?_, fun n B hB hm => ?_, fun t e w hn hd => ?_⟩
  · rw [List.append_nil] at this
    exact this
  · rw [List.mem_singleton.mp hp]
    rw [List.append_nil]
    exact h.ex Ex.one
  · obtain ⟨t, e, w, b, rfl⟩ := Mx.one hm
    exact ⟨t, e, w, by omega, by omega⟩
  · subst e
    exact ⟨nodes t + 0, .cons w (by omega) .nil, by omega⟩
def IsTC : Con := ⟨W, fun x ws S => ws = [x] ∧ dat S x, fun x S w S' => ∃ b, w = .bl b ∧ (b = true ↔ isT x) ∧ Ex S S'⟩
end EvT

set_option Elab.async false
set_option linter.all false
set_option maxRecDepth 100000
set_option maxHeartbeats 4000000
/-! More rules: tuples again and again, the greatest of a list. -/
namespace Ev
open PySem PySem.Spec PyProof.Rows L2 Ow
theorem tuple_mulZ (l : Addr) (items : Array Value) (n : Nat) (dd : Option Addr) (sl : Array (Option Value)) (x : Int) (u : Tok) (c0 : (decide (x < -(2 ^ 63)) || decide (x ≥ 2 ^ 63)) = false) (c1 : (items.isEmpty || x == 1) = false) (c2 : (decide (x ≤ 0) || items.isEmpty) = true) :
    Meets (Builtin.«tuple.__mul__» ⟨[.ref l, .int x u], []⟩) (fun _ R s => s.heap.get? l = some { cls := .type "tuple", dict := dd, data := .seq items n, slots := sl } ∧
      R (.ok (.ret (Value.ref s.heap.objs.size))) { s with heap := s.heap.push { cls := Value.type "tuple", data := Data.seq #[] }, toks := s.toks }) :=
  .of_wp fun prog w A R s h => by
    obtain ⟨hp, g, d, tk, os⟩ := s
    obtain ⟨hl, h⟩ := h
    have f1 := AutoSeq1.idx_int
    wp_walk using wpAny_loadPart' hl
    repeat (first
      | (refine wpAny_ite_false (decide_eq_false (by rw [c0]; exact Bool.false_ne_true)) ?_; wp_walk using wpAny_loadPart' hl)
      | (refine wpAny_ite_false (decide_eq_false (by rw [c1]; exact Bool.false_ne_true)) ?_; wp_walk using wpAny_loadPart' hl)
      | (refine wpAny_ite_true (decide_eq_true c2) ?_; wp_walk using wpAny_loadPart' hl))
    exact ⟨_, rfl, h⟩
theorem tuple_mul1 (l : Addr) (items : Array Value) (n : Nat) (dd : Option Addr) (sl : Array (Option Value)) (x : Int) (u : Tok) (c0 : (decide (x < -(2 ^ 63)) || decide (x ≥ 2 ^ 63)) = false) (c1 : (items.isEmpty || x == 1) = true) :
    Meets (Builtin.«tuple.__mul__» ⟨[.ref l, .int x u], []⟩) (fun _ R s => s.heap.get? l = some { cls := .type "tuple", dict := dd, data := .seq items n, slots := sl } ∧
      R (.ok (.ret (Value.ref l))) s) :=
  .of_wp fun prog w A R s h => by
    obtain ⟨hp, g, d, tk, os⟩ := s
    obtain ⟨hl, h⟩ := h
    have f1 := AutoSeq1.idx_int
    wp_walk using wpAny_loadPart' hl
    repeat (first
      | (refine wpAny_ite_false (decide_eq_false (by rw [c0]; exact Bool.false_ne_true)) ?_; wp_walk using wpAny_loadPart' hl)
      | (refine wpAny_ite_true (decide_eq_true c1) ?_; wp_walk using wpAny_loadPart' hl))
    exact ⟨_, rfl, h⟩
def rRepZ (K : PySem.W.Frag) : R2 := fun x y H Q => ∃ l k xs, x = .ref l ∧ y = .int k ∧ SqT K H l xs ∧ xs ≠ [] ∧ -1000 ≤ k ∧ k ≤ 1 ∧ (k = 1 → Q (.ref l) H) ∧ (k ≤ 0 → ∀ p, H p = none → Q (.ref p) (upd H p (.tup [])))
section
variable {X : Cx} {Tb : List Addr} {e a b f : Expr} {es : List Expr} {m ma mb : ME} {mr : MA} {p pos : Pos}
theorem op_repZ : OpR X (binaryOp .Mult) (rRepZ X.K) := by
  intro pins s σ H x y v u Q I rx ry h
  obtain ⟨l, k, xs, rfl, rfl, hT, hne, h1, h2, q1, q0⟩ := h
  cases rx
  obtain ⟨t, rfl⟩ := ry
  obtain ⟨its, r, ⟨⟨cls, dd, data, sl⟩, ho, hc, n, hd⟩, hs⟩ := I.tuple hT
  simp only at hc hd
  subst hc hd
  have hle : its.length = xs.length := r.length.symm
  have hn : its ≠ [] := fun e => hne (by
    rw [e] at hle
    exact List.eq_nil_of_length_eq_zero hle.symm)
  have hi : its.toArray.isEmpty = false := by
    cases its with
    | nil => exact absurd rfl hn
    | cons a b => rfl
  have c0 : (decide (k < -(2 ^ 63)) || decide (k ≥ 2 ^ 63)) = false := by
    rw [decide_eq_false (by omega), decide_eq_false (by omega)] <;> rfl
  by_cases hk : k = 1
  · have c1 : (its.toArray.isEmpty || k == 1) = true := by
      rw [hi, Bool.false_or]
      exact beq_iff_eq.mpr hk
    refine wpAny_binaryOp_repeat_ref (T := "tuple") (U := "int") (by decide) ⟨_, ho, rfl⟩ (fun s' => typeIs_int s' k t) noFill_tuple_mul F.fills_int_mul F.slot_int_rmul repeat_tuple F.slot_int_index.lookup
      (call_meets F.slot_int_rmul (typeIs_int s k t) F.entry_int_rmul (F.args_int_rmul_2 _ _) (int_rmul_tuple k t l its.toArray n dd sl)
        ⟨ho, rfl, ⟨_, ho, rfl⟩, call_meets F.slot_tuple_mul ⟨_, ho, rfl⟩ F.entry_tuple_mul (F.args_tuple_mul_2 _ _) (tuple_mul1 l its.toArray n dd sl k t c0 c1) ⟨ho, ?_⟩⟩)
    exact ⟨.ref l, H, I, rfl, q1 hk⟩
  · have c1 : (its.toArray.isEmpty || k == 1) = false := by
      rw [hi, Bool.false_or]
      exact beq_eq_false_iff_ne.mpr hk
    have c2 : (decide (k ≤ 0) || its.toArray.isEmpty) = true := by
      rw [decide_eq_true (by omega)]
      rfl
    refine wpAny_binaryOp_repeat_ref (T := "tuple") (U := "int") (by decide) ⟨_, ho, rfl⟩ (fun s' => typeIs_int s' k t) noFill_tuple_mul F.fills_int_mul F.slot_int_rmul repeat_tuple F.slot_int_index.lookup
      (call_meets F.slot_int_rmul (typeIs_int s k t) F.entry_int_rmul (F.args_int_rmul_2 _ _) (int_rmul_tuple k t l its.toArray n dd sl)
        ⟨ho, rfl, ⟨_, ho, rfl⟩, call_meets F.slot_tuple_mul ⟨_, ho, rfl⟩ F.entry_tuple_mul (F.args_tuple_mul_2 _ _) (tuple_mulZ l its.toArray n dd sl k t c0 c1 c2) ⟨ho, ?_⟩⟩)
    refine ⟨.ref s.heap.objs.size, _, I.laid (t' := s.toks) (o := .tup []) (fun b ob q => Heap.get?_push_of_some _ q) (Nat.le_refl _) ?_, rfl, q0 (by omega) _ (I.hok.fresh (Nat.le_refl _))⟩
    exact ⟨Nat.zero_le _, [], .nil, IsTup.new _ _⟩
/-- (..) * k -/
def wRepT : R2W := fun x y S Q => match x, y with
  | .tup l, .int k => (l ≠ [] ∧ l.length ≤ 1000 ∧ -1000 ≤ k ∧ k ≤ 1000) ∧ Q (.tup (List.replicate k.toNat l).flatten) S
  | _, _ => False
theorem mo_repT : MonoO wRepT := fun x y S Q Q' k h => by
  unfold wRepT at h ⊢
  split at h
  · exact ⟨h.1, k _ _ h.2⟩
  · exact h.elim
theorem vrs_rep {K : PySem.W.Frag} {ι : List Addr} {H : Hp} {l : List W} {vs : List V} (r : VRs K ι H l vs) : ∀ n : Nat, VRs K ι H (List.replicate n l).flatten (List.replicate n vs).flatten
  | 0 => rfl
  | n + 1 => by
    rw [List.replicate_succ, List.replicate_succ, List.flatten_cons, List.flatten_cons]
    exact r.app (vrs_rep r n)
theorem rl_repT {K : PySem.W.Frag} : RL K Tb (fun x y H Q => rRepT K x y H Q ∨ rRepZ K x y H Q) wRepT := fun ι S H w1 w2 v1 v2 Q Qv s r1 r2 h k => by
  unfold wRepT at h
  split at h
  · rename_i l i
    obtain ⟨⟨h1, h2, h3, h4⟩, q⟩ := h
    obtain ⟨a, vs, rfl, ha, ra⟩ := r1
    obtain rfl : v2 = _ := r2
    have hv : vs ≠ [] := fun e => h1 (List.eq_nil_of_length_eq_zero (by rw [← ra.len, e]; rfl))
    by_cases g : 2 ≤ i
    · refine .inl ⟨a, i, vs, rfl, rfl, ha, hv, g, h4, by rw [ra.len]; exact h2, fun p np => ?_⟩
      obtain ⟨s', g'⟩ := s.tup (xs := (List.replicate i.toNat vs).flatten) np
      exact k ι S _ _ _ q s' g' ⟨p, _, rfl, .inl (.inl upd_same), vrs_rep (VRs.grow g' _ ra) _⟩
    · refine .inr ⟨a, i, vs, rfl, rfl, ha, hv, h3, by omega, fun e => ?_, fun e p np => ?_⟩
      · subst e
        refine k ι S H _ _ q s Grow.refl ⟨a, vs, rfl, ha, ?_⟩
        have e9 : (List.replicate (1 : Int).toNat l).flatten = l := by
          show (List.replicate 1 l).flatten = l
          simp
        rw [e9]
        exact ra
      · obtain ⟨s', g'⟩ := s.tup (xs := []) np
        refine k ι S _ _ _ q s' g' ⟨p, [], rfl, .inl (.inl upd_same), ?_⟩
        have e0 : i.toNat = 0 := by omega
        rw [e0]
        rfl
  · exact h.elim
theorem e_repT (ha : EE X Tb a ma) (hb : EE X Tb b mb) : EE X Tb (.BinOp a .Mult b pos) (mBin wRepT ma mb) := e_op (OpR.or op_repT op_repZ) rl_repT mo_repT ha hb
/-! ### max of a list -/
def wMaxL : RCW := fun ws S Q => match ws with
  | [.ref n] => oL S[n]? fun l => ∃ ns : List Int, l = ns.map W.int ∧ 0 < ns.length ∧ ∀ i, i ∈ ns → (∀ y, y ∈ ns → y ≤ i) → Q (.int i) S
  | _ => False
theorem mo_maxL : MonoC wMaxL := fun x S Q Q' k h => by
  match x, h with
  | [.ref n], h => exact oL_mono (fun l ⟨ns, a, b, c⟩ => ⟨ns, a, b, fun i h1 h2 => k _ _ (c i h1 h2)⟩) h
theorem vrs_int {K : PySem.W.Frag} {ι : List Addr} {H : Hp} : ∀ {ns : List Int} {vs : List V}, VRs K ι H (ns.map W.int) vs → vs = ns.map V.int
  | [], _, h => h
  | n :: ns, _, ⟨v, r, e, h, t⟩ => by
    have h : v = .int n := h
    rw [e, h, vrs_int t]
    rfl
theorem cl_maxL {K : PySem.W.Frag} : CL K Tb (rMax K) wMaxL := fun ι S H ws vs Q Qv s r h k => by
  match ws, h with
  | [.ref n], h =>
    obtain ⟨v, rfl, a, ha, rfl⟩ := one_of r
    have h : oL S[n]? _ := h
    obtain ⟨l, e, ns, rfl, h2, h3⟩ := oL_some h
    obtain ⟨us, e1, rv⟩ := lst_at s ha e
    rw [vrs_int rv] at e1
    exact ⟨a, ns, rfl, SqL.of e1, h2, fun i h4 h5 => k ι S H _ _ (h3 i h4 h5) s Grow.refl rfl⟩
theorem e_maxL (hg : Gl X "max") (hm : X.mg "max" = none) (ha : EA X Tb [e] mr) (hc : X.calm = true := by rfl) (he : starEach [e] X.env = (false, eval e X.env) :: starEach [] X.env := by rfl) (hpl : (backTo pos (starEach [] X.env)).any (·.1) = false := by rfl) : EE X Tb (.Call (.Name "max" p) [e] [] pos) (mCB wMaxL mr) :=
  e_callB (cr_max hc) cl_maxL mo_maxL hg hm (by decide +kernel) ha (by decide) (by decide) he hpl
end
end Ev

set_option Elab.async false
set_option linter.all false
set_option maxRecDepth 100000
set_option maxHeartbeats 1000000
/-! Expressions that only tell a value; statement by statement. -/
namespace Ev
open PySem PySem.Spec PyProof.Rows L2 Ow EvT
theorem sz0 {α : Type} : ([] : List α).length ≤ sizeLine := Nat.zero_le _
theorem sz1 {α : Type} {a : α} : [a].length ≤ sizeLine := by show 1 ≤ sizeLine; decide
theorem sz2 {α : Type} {a b : α} : [a, b].length ≤ sizeLine := by show 2 ≤ sizeLine; decide
theorem sz3 {α : Type} {a b c : α} : [a, b, c].length ≤ sizeLine := by show 3 ≤ sizeLine; decide
theorem sz4 {α : Type} {a b c d : α} : [a, b, c, d].length ≤ sizeLine := by show 4 ≤ sizeLine; decide
theorem sz5 {α : Type} {a b c d e : α} : [a, b, c, d, e].length ≤ sizeLine := by show 5 ≤ sizeLine; decide
/-- in env m tells w, whatever the store is, and changes nothing -/
def PV (m : ME) (env : EvS) (w : W) : Prop := ∀ (S : Store) (Q : WK), Q w S → m env S Q
def PL (m : MA) (env : EvS) (ws : List W) : Prop := ∀ (S : Store) (Q : List W → Store → Prop), Q ws S → m env S Q
section
variable {env : EvS} {m a b : ME} {mr : MA} {w x y : W} {ws l : List W} {S : Store} {Q : WK}
theorem PV.c : PV (mC w) env w := fun _ _ q => q
theorem PV.var {i : Nat} (h : lk env i = some w) : PV (mVar i) env w := fun S Q q => by
  unfold mVar
  rw [h]
  exact q
theorem PL.nil : PL mNil env [] := fun _ _ q => q
theorem PL.cons (h : PV m env w) (t : PL mr env ws) : PL (mCons m mr) env (w :: ws) := fun S Q q => h S _ (t S _ q)
theorem PV.tup (h : PL mr env ws) (hl : ws.length ≤ 100) : PV (mTup mr) env (.tup ws) := fun S Q q => h S _ ⟨Nat.le_trans hl (by decide), q⟩
theorem PV.ix {i : Int} (h : PV a env (.tup l)) (hi : PV b env (.int i)) (e : wAt l i = some w) : PV (mBin wIx a b) env w := fun S Q q => h S _ (hi S _ (by
  show oW (wAt l i) _
  rw [e]
  exact q))
theorem PV.add {i j : Int} (h : PV a env (.int i)) (hj : PV b env (.int j)) : PV (mBin wAdd a b) env (.int (i + j)) := fun S Q q => h S _ (hj S _ q)
theorem PV.sub {i j : Int} (h : PV a env (.int i)) (hj : PV b env (.int j)) : PV (mBin wSub a b) env (.int (i - j)) := fun S Q q => h S _ (hj S _ ⟨trivial, q⟩)
theorem PV.le {i j : Int} (h : PV a env (.int i)) (hj : PV b env (.int j)) : PV (mBin wLe a b) env (.bl (decide (i ≤ j))) := fun S Q q => h S _ (hj S _ q)
theorem PV.lt {i j : Int} (h : PV a env (.int i)) (hj : PV b env (.int j)) : PV (mBin wLt a b) env (.bl (decide (i < j))) := fun S Q q => h S _ (hj S _ q)
theorem PV.cat {k l : List W} (h : PV a env (.tup k)) (hj : PV b env (.tup l)) (hl : k.length + l.length ≤ sizeLine) : PV (mBin wAdd a b) env (.tup (k ++ l)) := fun S Q q => h S _ (hj S _ ⟨hl, q⟩)
/-- a new list -/
theorem lst_pa (h : PL mr env ws) (hl : ws.length ≤ 100) (q : Q (.ref S.length) (S ++ [.lst ws])) : mLst mr env S Q := h S _ ⟨Nat.le_trans hl (by decide), q⟩
/-- xs = xs + [..] -/
theorem grow_pa {i n : Nat} (h : PL mr env ws) (hl : l.length + ws.length ≤ 100) (hi : lk env i = some (.ref n)) (hn : S[n]? = some (.lst l)) (q : ∀ S' k, Ex S S' → S.length ≤ k → S'[k]? = some (.lst (l ++ ws)) → Q (.ref k) S') : mBin wAdd (mVar i) (mLst mr) env S Q := by
  unfold mBin mVar
  rw [hi]
  refine lst_pa h (by omega) ?_
  refine add_lst (Ex.one.at hn) (new_at S _) (Nat.le_trans hl (by decide)) ?_
  exact q _ _ (Ex.one.trans Ex.one) (by rw [List.length_append]; omega) (new_at _ _)
theorem seq_ok {p q : MS} {D : MD} {e : EvS} (h : p { D with nx := fun e S' => q D e S' } e S) : mSeq p q D e S := h
theorem asg_ok {i : Nat} {D : MD} {e : EvS} (h : m e S fun w S' => D.nx (e.set i (some w)) S') : mAsg m (mgName i) D e S := h
theorem sa {i : Nat} {q : MS} {D : MD} {e : EvS} (h : m e S fun w S' => q D (e.set i (some w)) S') : mSeq (mAsg m (mgName i)) q D e S := h
theorem si {c : MT} {p q r : MS} {D : MD} {e : EvS} (h : c e S fun b S1 => if b = true then p { D with nx := fun e S' => r D e S' } e S1 else q { D with nx := fun e S' => r D e S' } e S1) : mSeq (mIfS c p q) r D e S := h
/-- if c: p; r -/
theorem si0 {c : MT} {p r : MS} {D : MD} {e : EvS} (h : c e S fun b S1 => if b = true then p { D with nx := fun e S' => r D e S' } e S1 else r D e S1) : mSeq (mIfS c p mNext) r D e S := h
theorem ret_ok {D : MD} {e : EvS} (h : m e S D.rt) : mRet m D e S := h
end
end Ev

set_option Elab.async false
set_option linter.all false
set_option maxRecDepth 100000
set_option maxHeartbeats 4000000
/-! repr of data, in a law's own run. -/
namespace Ev
open PySem PySem.Spec PyProof.Rows L2 Ow
theorem call_reprD {X : Cx} (hg : X.A.guards = some []) : CallR X (.builtin "repr") (fun xs H Q => ∃ v d, xs = [v] ∧ Dp X.K H v d ∧ d.showable = true ∧ d.hasDict = false ∧ X.A.units + (d.depth + 1) < cLine ∧ d.shown.length ≤ sizeLine ∧ Q (.str d.shown) H) := by
  intro pins s σ H xs us Q I r h
  obtain ⟨v, d, rfl, hd, hs, hn, hu, hz, q⟩ := h
  have ref : ∀ a, v = .ref a → wpAny (model X.prog X.w) X.A (call (.builtin "repr") us) (EP X pins σ Q) X.xe s := fun a e => by
    subst e
    exact Ow.call_repr hg pins s σ H _ us Q I r ⟨a, d, rfl, hd, hs, hn, hu, hz, q⟩
  obtain ⟨u, rfl, rx⟩ := vals1 r
  cases hd with
  | non =>
    cases rx
    exact PySem.P.repr_of_none ⟨.str _, H, I.tok _, ⟨_, rfl⟩, by simpa [PyData.shown] using q⟩
  | bl b =>
    cases rx
    exact PySem.P.repr_of_bool ⟨.str _, H, I.tok _, ⟨_, rfl⟩, by simpa [PyData.shown] using q⟩
  | int i =>
    obtain ⟨t, rfl⟩ := rx
    have hs' : i.natAbs.log2 < 1920 := by simpa [PyData.showable] using hs
    exact PySem.P.repr_of_int hs' ⟨.str _, H, I.tok _, ⟨_, rfl⟩, by simpa [PyData.shown] using q⟩
  | str x =>
    obtain ⟨t, rfl⟩ := rx
    have hz' : (reprText x).length ≤ sizeLine := by simpa [PyData.shown] using hz
    exact PySem.P.repr_of_str ⟨.str _, H, I.tok _, ⟨_, rfl⟩, by simpa [PyData.shown] using q⟩ hz'
  | _ => exact ref _ rfl
/-- repr(x): the store is as it was -/
def wRepr : RCW := fun ws S Q => match ws with
  | [w] => ∃ d, DW S w d ∧ d.showable = true ∧ d.hasDict = false ∧ d.depth ≤ 3000 ∧ d.shown.length ≤ sizeLine ∧ Q (.str d.shown) S
  | _ => False
theorem mo_repr : MonoC wRepr := fun x S Q Q' k h => by
  match x, h with
  | [w], ⟨d, a, b, c, e, f, g⟩ => exact ⟨d, a, b, c, e, f, k _ _ g⟩
structure ReprOk (A : Around) : Prop where
  g : A.guards = some []
  u : A.units + 3100 < cLine
theorem cl_repr {Tb : List Addr} {K : PySem.W.Frag} {u : Nat} (hu : u + 3100 < cLine) : CL K Tb (fun xs H Q => ∃ v d, xs = [v] ∧ Dp K H v d ∧ d.showable = true ∧ d.hasDict = false ∧ u + (d.depth + 1) < cLine ∧ d.shown.length ≤ sizeLine ∧ Q (.str d.shown) H) wRepr := fun ι S H ws vs Q Qv s r h k => by
  match ws, h with
  | [w], ⟨d, a, b, c, e, f, g⟩ =>
    obtain ⟨v, rfl, rv⟩ := one_of r
    exact ⟨v, d, rfl, DW.dp s a rv, b, c, by omega, f, k ι S H _ _ g s Grow.refl rfl⟩
section
variable {X : Cx} {Tb : List Addr} {e : Expr} {mr : MA} {p pos : Pos}
theorem e_repr (h : ReprOk X.A) (hg : Gl X "repr") (hm : X.mg "repr" = none) (ha : EA X Tb [e] mr) (he : starEach [e] X.env = (false, eval e X.env) :: starEach [] X.env := by rfl) (hpl : (backTo pos (starEach [] X.env)).any (·.1) = false := by rfl) : EE X Tb (.Call (.Name "repr" p) [e] [] pos) (mCB wRepr mr) :=
  e_callB (call_reprD h.g) (cl_repr h.u) mo_repr hg hm (by decide +kernel) ha (by decide) (by decide) he hpl
end
/-! ### a law that uses repr -/
section
variable {P : Program} {w : World} {K : PySem.W.Frag} {mg : Str → Option Value} {base : Heap} {Tb : List Addr} {x : Str} {st : Stmt} {f : Addr} {fd : FuncData} {N ps : List Str} {k : Nat} {C : Con} {m : MS}
theorem fun_of (F : FnP K x st f fd) : Fun K x x st f fd := by
  obtain ⟨oc, od, dV, kV, doc, pm, an, cdv, ct, osl, rfl, lk, hcd, hD, hK⟩ := F.ex
  rcases hD with ⟨_, rfl⟩ | ⟨e, _⟩
  · exact ⟨⟨oc, od, kV, doc, pm, an, cdv, ct, osl, rfl, lk, hcd⟩, F.kp⟩
  · exact absurd rfl e
theorem rz_of {A : Around} (F : FnP K x st f fd) (Sc : FnScope N ps (defScope st)) (len : ∀ a ws S, C.pre a ws S → ws.length = ps.length) (hr : Room (k + 1) A)
    (hm : ∀ (cdv : Value) (outer : List Env) (s : Shared) (H : Hp) (E : XK), Room k (A.deeper (envOfC x (defScope st) s.heap.objs.size f cdv)) → ESs (cxOf CX0 P w K mg base N x (defScope st) f cdv A outer s H E).nox Tb (defBody st) m)
    (vc : ∀ a ws S, C.pre a ws S → m { nx := fun _ S' => C.post a S .non S', rt := fun w S' => C.post a S w S' } (stE N.length ws) S) : RunAt P w K mg base A f fd ps (spOf K Tb C) := by
  refine run_at (fun_of F) Sc (fun vs H Q E h => ?_) hr fun cdv outer s H vs Q E hr h => ?_
  · obtain ⟨ι, ws, S, a, s, r, hp, _⟩ := h
    rw [r.len, len a ws S hp]
  · obtain ⟨ι, ws, S, a, si, r, hp, q⟩ := h
    have hm' := hm cdv outer s H E hr
    exact ⟨_, hm'.ps, sp_body (X := (cxOf CX0 P w K mg base N x (defScope st) f cdv A outer s H E).nox) hm' rfl si r hp q vc⟩
end
/-! the law's walk, where what stands around is known -/
open LamX in
theorem walk_ya {l : PySem.W.OpenLaw} {q : Program} {loose : List Str} {XP : (Str → Option Value) → Heap → Prop} {YP : World → Heap → Prop} {d : DefRec} {hd : Hd} {KF : Params → PySem.W.Frag} (hY : ∀ (w : World) (h : Heap), YP w h → (KF w.params).In h) (hS : ∀ w : World, hd.says w (KF w.params)) (tabs : List Str) (hT : ∀ x ∈ tabs, ∃ d', (recsOf q).find? (fun e => e.name == x) = some d')
    (hn : l.most = some 63) (hdf : d.params.defaults = []) (hx : ∀ K, hd.ex K = true → ∀ x ∈ tabs, tabOk K x = true)
    (F : ∀ (w : World) (mg : Str → Option Value) (fa : Addr) (h : Heap) (K : PySem.W.Frag), K.In h → hd.says w K → h.Ns mainGlobals mg → mg d.name = some (.ref fa) →
      ∃ fd : FuncData, (∀ (s : Shared) (u : Value), BindsTo s fd ⟨[u], []⟩ [("script", u)]) ∧ ∀ base : Heap, K.In base → base.Ns mainGlobals mg → (∀ x ∈ tabs, GxR.TabB base mg (tabAt K x).1 (tabAt K x).2) →
        RunAt l.prog w K mg base callerA fa fd ["script"] (spOf K (tabs.map fun x => (tabAt K x).2) LawC)) :
    PySem.W.WalkO q loose XP YP l.row.toRowW d [] (fun f vs => PySem.call f vs) := by
  refine Att.attach_callB hn hdf fun w s₀ s₁ mg mb fa o pm cd doc a vs ns G Y ho hd' hcd hmg hobj hints hlen hbits hg => ?_
  have KX := hY w _ Y
  have c := hS w
  generalize KF w.params = K at KX c
  have hx := hx K c.x
  obtain ⟨fd, hb, hF⟩ := F w mg fa _ K KX c G.T.g hmg
  have tab : ∀ x ∈ tabs, PySem.W.CodeHd s₁.heap (tabAt K x).1 (tabAt K x).2 ∧ s₁.heap.get? (tabAt K x).2 = some { cls := .none, data := .fields #[] } := fun x h => by
    obtain ⟨d', e⟩ := hT x h
    exact PySem.W.tab_of G.T KX e (tabOk_in (hx x h)).1
  refine law_at (cs := tabs.map fun x => tabAt K x) (sp := spOf K (tabs.map fun x => (tabAt K x).2) LawC) KX G.T.g G.T.b G.T.builtins G.T.nolimit hg (fun p hp => ?_) (fun p hp => ?_) (fun p hp => ?_) G.T.bmain hobj hints (Nat.le_trans hlen (by decide)) (fun base kb nb tb => ?_) hb (fun H hH hS => ?_)
  · obtain ⟨x, hx', rfl⟩ := List.mem_map.mp hp
    exact (tab x hx').2
  · obtain ⟨x, hx', rfl⟩ := List.mem_map.mp hp
    exact (tabOk_in (hx x hx')).2
  · obtain ⟨x, hx', rfl⟩ := List.mem_map.mp hp
    exact (tab x hx').1
  · exact hF base kb nb fun x h => tabB (tb _ (List.mem_map.mpr ⟨x, h, rfl⟩))
  · exact start_law hH hS hlen hbits
end Ev

set_option Elab.async false
set_option linter.all false
set_option maxRecDepth 100000
set_option maxHeartbeats 4000000
/-! More rules: str, join, reversed ranges, defs as values, what is never reached, deep equality, all of a list. -/
namespace Ev
open PySem PySem.Spec PyProof.Rows L2 Ow
section
variable {X : Cx} {Tb : List Addr} {e o a b tg : Expr} {es : List Expr} {m mo ma mb : ME} {mr : MA} {p pos : Pos}
/-! ### str(x) -/
def wStrC : RCW := fun ws S Q => match ws with
  | [.int i] => i.natAbs.log2 < 1920 ∧ Q (.str (toString i)) S
  | [.str z] => Q (.str z) S
  | _ => False
theorem mo_strC : MonoC wStrC := fun x S Q Q' k h => by
  unfold wStrC at h ⊢
  split at h
  · exact ⟨h.1, k _ _ h.2⟩
  · exact k _ _ h
  · exact h.elim
theorem cl_strC {K : PySem.W.Frag} : CL K Tb (fun xs H Q => (∃ i, xs = [V.int i] ∧ i.natAbs.log2 < 1920 ∧ Q (.str (toString i)) H) ∨ ∃ z, xs = [V.str z] ∧ Q (.str z) H) wStrC := fun ι S H ws vs Q Qv s r h k => by
  unfold wStrC at h
  split at h
  · obtain ⟨v, rfl, rv⟩ := one_of r
    obtain rfl : v = .int _ := rv
    exact .inl ⟨_, rfl, h.1, k ι S H _ _ h.2 s Grow.refl rfl⟩
  · obtain ⟨v, rfl, rv⟩ := one_of r
    obtain rfl : v = .str _ := rv
    exact .inr ⟨_, rfl, k ι S H _ _ h s Grow.refl rfl⟩
  · exact h.elim
theorem e_strC (hg : Gl X "str") (hm : X.mg "str" = none) (ha : EA X Tb [e] mr) (he : starEach [e] X.env = (false, eval e X.env) :: starEach [] X.env := by rfl) (hpl : (backTo pos (starEach [] X.env)).any (·.1) = false := by rfl) : EE X Tb (.Call (.Name "str" p) [e] [] pos) (mCB wStrC mr) :=
  e_callTy (callR_or call_str_int SkE.call_str_str) cl_strC mo_strC hg hm (by decide +kernel) ha (by decide) (by decide) he hpl
/-! ### all of a list -/
def wAllL : RCW := fun ws S Q => match ws with
  | [.ref n] => oL S[n]? fun l => ∃ bs : List Bool, l = bs.map W.bl ∧ Q (.bl (bs.all id)) S
  | _ => False
theorem mo_allL : MonoC wAllL := fun x S Q Q' k h => by
  match x, h with
  | [.ref n], h => exact oL_mono (fun l ⟨bs, a, b⟩ => ⟨bs, a, k _ _ b⟩) h
theorem vrs_bls {K : PySem.W.Frag} {ι : List Addr} {H : Hp} : ∀ {bs : List Bool} {vs : List V}, VRs K ι H (bs.map W.bl) vs → vs = bs.map V.bl
  | [], _, h => h
  | n :: ns, _, ⟨v, r, e, h, t⟩ => by
    have h : v = .bl n := h
    rw [e, h, vrs_bls t]
    rfl
theorem cl_allL {K : PySem.W.Frag} : CL K Tb (rAll K) wAllL := fun ι S H ws vs Q Qv s r h k => by
  match ws, h with
  | [.ref n], h =>
    obtain ⟨v, rfl, a, ha, rfl⟩ := one_of r
    have h : oL S[n]? _ := h
    obtain ⟨l, e, bs, rfl, h2⟩ := oL_some h
    obtain ⟨us, e1, rv⟩ := lst_at s ha e
    rw [vrs_bls rv] at e1
    exact ⟨a, bs, rfl, SqL.of e1, k ι S H _ _ h2 s Grow.refl rfl⟩
theorem e_allL (hg : Gl X "all") (hm : X.mg "all" = none) (ha : EA X Tb [e] mr) (hc : X.calm = true := by rfl) (he : starEach [e] X.env = (false, eval e X.env) :: starEach [] X.env := by rfl) (hpl : (backTo pos (starEach [] X.env)).any (·.1) = false := by rfl) : EE X Tb (.Call (.Name "all" p) [e] [] pos) (mCB wAllL mr) :=
  e_callB (cr_all hc) cl_allL mo_allL hg hm (by decide +kernel) ha (by decide) (by decide) he hpl
/-! ### sep.join(xs) -/
def joinW (a : Str) (w : W) (S : Store) (Q : WK) : Prop := ∃ ys : List Str, seqW w S = some (ys.map W.str) ∧ (ys.map (·.length)).sum + ys.length * a.length ≤ 16777216 ∧ Q (.str (Txt.join a ys)) S
def mJoin (mo m : ME) : ME := fun env S Q => mo env S fun x S1 => match x with
  | .str a => m env S1 fun w S2 => joinW a w S2 Q
  | _ => False
theorem e_join {apos : Pos} (ho : EE X Tb o mo) (he : EE X Tb e m) (hs : starEach [e] X.env = [(false, eval e X.env)] := by rfl) (hbase : attributeBase o "join" X.env (eval o X.env) = eval o X.env := by rfl) (hline : (apos.endLine == pos.line) = true := by rfl) :
    EE X Tb (.Call (.Attribute o "join" apos) [e] [] pos) (mJoin mo m) := by
  refine ⟨pe_imp (pe_join ho.pe he.pe hs hbase hline) fun σ H Q q => ?_, fun env S Q Q' k q => ho.mono _ _ _ _ (fun x S1 q1 => ?_) q⟩
  · obtain ⟨ι, env, S, s, er, q⟩ := q
    refine ⟨ι, env, S, s, er, ho.mono _ _ _ _ (fun x S1 q1 ι1 H1 v1 s1 g1 r1 => ?_) q⟩
    cases x with
    | str z =>
      obtain rfl : v1 = .str z := r1
      refine ⟨⟨z, rfl⟩, ι1, env, S1, s1, er.grow g1, he.mono _ _ _ _ (fun w S2 q2 ι2 H2 v2 s2 g2 r2 => ?_) q1⟩
      obtain ⟨ys, h1, h2, h3⟩ := q2
      obtain ⟨c, vs, rfl, rv, hq⟩ := seq_lies s2 r2 h1
      rw [VRs.strs rv] at hq
      exact ⟨z, c, ys, rfl, rfl, hq, h2, h3 ι2 H2 _ s2 (g1.trans g2) rfl⟩
    | _ => exact q1.elim
  · cases x with
    | str z => exact he.mono _ _ _ _ (fun w S2 ⟨ys, a, b, c⟩ => ⟨ys, a, b, k _ _ c⟩) q1
    | _ => exact q1.elim
/-! ### for i in reversed(range(n)) -/
def rrW (n : Nat) : List W := (List.range n).map fun (j : Nat) => W.int ((n : Int) - 1 - j)
def mRevR (m : ME) : MI := fun env S R => m env S fun w S1 => match w with
  | .int j => (-(2 ^ 62) ≤ j ∧ j < 2 ^ 62) ∧ R (fun _ => True) (rrW j.toNat) S1
  | _ => False
theorem feeds_rr {K : PySem.W.Frag} {n : Nat} {ι0 : List Addr} {H0 : Hp} {lo : Int} (e : lo = (n : Int) - 1) : Feeds K Tb (Itc lo (-1) n) (fun _ => True) (rrW n) ι0 H0 := by
  subst e
  intro ι H S i g s _
  constructor
  · intro w hw
    have hi : i < n := by
      have := (List.getElem?_eq_some_iff.mp hw).1
      simpa [rrW] using this
    refine ⟨hi, fun x H' hy => ?_⟩
    obtain ⟨rfl, rfl⟩ := hy
    obtain rfl : W.int ((n : Int) - 1 - i) = w := by
      simpa [rrW, hi] using hw
    exact ⟨ι, s, Grow.refl, by show V.int _ = V.int _; congr 1; omega⟩
  · intro h
    show n ≤ i
    simpa [rrW] using h
theorem i_revR {ea : Expr} {p1 p2 pos1 pos2 : Pos} {ma : ME} (hg : Gl X "reversed") (hm : X.mg "reversed" = none) (hg2 : Gl X "range") (hm2 : X.mg "range" = none) (ha : EE X Tb ea ma) (na : starEach [ea] X.env = (false, eval ea X.env) :: starEach [] X.env := by rfl) (hs : starEach [Expr.Call (.Name "range" p2) [ea] [] pos2] X.env = (false, eval (Expr.Call (.Name "range" p2) [ea] [] pos2) X.env) :: starEach [] X.env := by rfl) : EI X Tb tg (.Call (.Name "reversed" p1) [.Call (.Name "range" p2) [ea] [] pos2] [] pos1) (mRevR ma) := by
  refine ⟨⟨_, pi_revR hg hm (prg_1 hg2 hm2 ha.pe na) hs, fun σ H R ι env S s er q => ?_⟩, fun env S R R' k q => ha.mono _ _ _ _ (fun w S1 z => ?_) q⟩
  · refine ⟨ι, env, S, s, er, ha.mono _ _ _ _ (fun w S1 z ι1 H1 v s1 g1 r1 => ?_) q⟩
    match w, z with
    | .int j, z =>
      obtain rfl : v = .int j := r1
      refine ⟨j, rfl, by decide, by decide, z.1.1, z.1.2, z.2 ι1 H1 _ s1 g1 ?_⟩
      rw [show (j - 0).toNat = j.toNat by omega]
      exact feeds_rr (by omega)
  · match w, z with
    | .int j, z => exact ⟨z.1, k _ _ _ z.2⟩
/-! ### // by a great number -/
abbrev wFdivX : R2W := wInt (fun i j => i / j) CDivW
theorem e_fdivX (ha : EE X Tb a ma) (hb : EE X Tb b mb) : EE X Tb (.BinOp a .FloorDiv b pos) (mBin wFdivX ma mb) := e_op op_fdivW rl_int mo_int ha hb
/-! ### what is never reached -/
def mNever : MS := fun _ _ _ => False
theorem s_never {st : Stmt} : ES X Tb st mNever := ⟨⟨fun pins s σ H D I h => by
  obtain ⟨ι, env, S, _, _, q⟩ := h
  exact q.elim⟩, fun _ _ _ _ _ h => h⟩
/-! ### a def as a value -/
theorem e_gdef {x : Str} {f : Addr} (hg : Gl X x) (g : X.mg x = some (.ref f)) (hd : (x == ("__debug__" : Str)) = false := by decide) : EE X Tb (.Name x pos) (mC (.adr f)) := by
  refine ⟨pe_imp (pe_glob (v := .ref f) hg g rfl hd) fun σ H Q q => ?_, fun env S Q Q' k q => k _ _ q⟩
  obtain ⟨ι, env, S, s, er, q⟩ := q
  exact q ι H _ s Grow.refl rfl
/-! ### equality, far within -/
def dEqX (B : Nat) (x y : W) (S : Store) (k : Bool → Prop) : Prop := ∃ d e, DW S x d ∧ DW S y e ∧ d.canLay0 = true ∧ e.canLay0 = true ∧ min d.depth e.depth ≤ B ∧ k (PyData.eqv d e)
def wEqX (B : Nat) (neg : Bool) : R2W := fun x y S Q => dEqX B x y S fun b => Q (.bl (neg ^^ b)) S
theorem mo_eqX {B : Nat} {neg : Bool} : MonoO (wEqX B neg) := fun x y S Q Q' k ⟨d, e, a, b, c, f, g, h⟩ => ⟨d, e, a, b, c, f, g, k _ _ h⟩
def rEqX (K : PySem.W.Frag) (B : Nat) (neg : Bool) : R2 := fun x y H Q => ∃ d e, Dp K H x d ∧ Dp K H y e ∧ d.canLay0 = true ∧ e.canLay0 = true ∧ min d.depth e.depth ≤ B ∧ Q (.bl (neg ^^ PyData.eqv d e)) H
theorem op_eqX {B : Nat} (hu : X.A.units + B < cLine) : OpR X (compareOp .Eq) (rEqX X.K B false) := fun pins s σ H x y v u Q I rx ry ⟨d, e, hd, he, sd, se, hm, q⟩ => by
  obtain ⟨as, r1⟩ := Dp.reads I d x v hd rx
  obtain ⟨bs, r2⟩ := Dp.reads I e y u he ry
  exact SeqAt.compareEq_reads r1 r2 sd se (by omega) ⟨.bl _, H, I, rfl, by rwa [Bool.false_xor] at q⟩
theorem op_neX {B : Nat} (hu : X.A.units + B < cLine) : OpR X (compareOp .NotEq) (rEqX X.K B true) := fun pins s σ H x y v u Q I rx ry ⟨d, e, hd, he, sd, se, hm, q⟩ => by
  obtain ⟨as, r1⟩ := Dp.reads I d x v hd rx
  obtain ⟨bs, r2⟩ := Dp.reads I e y u he ry
  exact SeqAt.compareNe_reads r1 r2 sd se (by omega) ⟨.bl _, H, I, rfl, by rwa [Bool.true_xor] at q⟩
theorem rl_eqX {K : PySem.W.Frag} {B : Nat} {neg : Bool} : RL K Tb (rEqX K B neg) (wEqX B neg) := fun ι S H w1 w2 v1 v2 Q Qv s r1 r2 ⟨d, e, a, b, c, f, g, h⟩ k =>
  ⟨d, e, DW.dp s a r1, DW.dp s b r2, c, f, g, k ι S H _ _ h s Grow.refl rfl⟩
theorem ux {k : Nat} {A : Around} (hr : Room k A) (hk : 190 ≤ k) : A.units + 3000 < cLine := by
  have := hr.un
  omega
theorem e_eqX {B : Nat} (hu : X.A.units + B < cLine) (ha : EE X Tb a ma) (hb : EE X Tb b mb) : EE X Tb (.Compare a [.Eq] [b] pos) (mBin (wEqX B false) ma mb) := e_cmp (op_eqX hu) rl_eqX mo_eqX ha hb
theorem e_neX {B : Nat} (hu : X.A.units + B < cLine) (ha : EE X Tb a ma) (hb : EE X Tb b mb) : EE X Tb (.Compare a [.NotEq] [b] pos) (mBin (wEqX B true) ma mb) := e_cmp (op_neX hu) rl_eqX mo_eqX ha hb
theorem t_eqX {B : Nat} (hu : X.A.units + B < cLine) (ha : EE X Tb a ma) (hb : EE X Tb b mb) : ET X Tb (.Compare a [.Eq] [b] pos) (mTest (mBin (wEqX B false) ma mb)) := t_cmp (op_eqX hu) rl_eqX mo_eqX ha hb
theorem t_neX {B : Nat} (hu : X.A.units + B < cLine) (ha : EE X Tb a ma) (hb : EE X Tb b mb) : ET X Tb (.Compare a [.NotEq] [b] pos) (mTest (mBin (wEqX B true) ma mb)) := t_cmp (op_neX hu) rl_eqX mo_eqX ha hb
end
end Ev

set_option Elab.async false
set_option linter.all false
set_option maxRecDepth 100000
set_option maxHeartbeats 1000000
namespace Ev82
open PySem PySem.Spec PyProof.Rows L2 Ow Ev
def m_x_word_of_thing  : MS :=
  (mSeq (mIfS (mTru (mCB wIsi (mCons (mVar 0) (mCons (mC (.ty "tuple")) mNil))))
  (mRet (mC .non))
  mNext)
  (mRet (mIf (mTru (mCB wIsi (mCons (mVar 0) (mCons (mC (.ty "str")) mNil)))) (mVar 0) (mCB wStrC (mCons (mVar 0) mNil)))))
def m_x_word_of_seen (C_x_word_of_thing : Con) : MS :=
  (mSeq (mIfS (mTest (mBin (wIsN false) (mVar 0) (mC .non)))
  (mRet (mC (.str "-")))
  mNext)
  (mRet (mIf (mTest (mBin (wEqX 64 false) (mVar 0) (mTup (mCons (mC (.str "fun")) mNil)))) (mC (.str "fun")) (mCB (conR C_x_word_of_thing) (mCons (mVar 0) mNil)))))
def m_x_written_by (CA : Addr → Option Con) : MS :=
  (mSeq (mAsg (mLst mNil) (mgName 2))
  (mSeq (mAsg (mLst (mCons (mTup (mCons (mC (.bl false)) (mCons (mVar 1) mNil))) mNil)) (mgName 3))
  (mSeq (mWh (mTru (mVar 3))
  (mSeq (mAsg (mBM0 wPop (mVar 3)) (mgTup 2 (mgCons (mgName 4) (mgCons (mgName 5) mgNil))))
  (mSeq (mAsg (mIf (mTru (mVar 4)) (mVar 5) (mCallL 0 CA (mCons (mVar 5) mNil))) (mgName 6))
  (mSeq (mIfS (mTest (mBin (wIsN true) (mVar 6) (mC .non)))
  (mSeq (mDrop (mBM wAppend (mVar 2) (mCons (mVar 6) mNil)))
  mCont)
  mNext)
  (mSeq (mDrop (mBM wAppend (mVar 2) (mCons (mC (.str "(")) mNil)))
  (mSeq (mDrop (mBM wAppend (mVar 3) (mCons (mTup (mCons (mC (.bl true)) (mCons (mC (.str ")")) mNil))) mNil)))
  (mFor (mRevR (mCB wLen (mCons (mVar 5) mNil))) (mgName 7)
  (mSeq (mDrop (mBM wAppend (mVar 3) (mCons (mTup (mCons (mC (.bl false)) (mCons (mBin wIx (mVar 5) (mVar 7)) mNil))) mNil)))
  (mIfS (mTest (mBin wGt (mVar 7) (mC (.int 0))))
  (mDrop (mBM wAppend (mVar 3) (mCons (mTup (mCons (mC (.bl true)) (mCons (mC (.str " ")) mNil))) mNil)))
  mNext)))))))))
  (mRet (mJoin (mC (.str "")) (mVar 2))))))
def m_seen_text (C_x_written_by : Con) (a_x_word_of_seen : Addr) : MS :=
  (mRet (mCB (conR C_x_written_by) (mCons (mC (.adr a_x_word_of_seen)) (mCons (mVar 0) mNil))))
def m_x_sign_at  : MS :=
  (mRet (mSl (mVar 0) (mP (mVar 1)) (mP (mBin wAdd (mVar 1) (mC (.int 1))))))
def m_x_is_letter  : MS :=
  (mRet (mChain wLe wLe (mC (.str "a")) (mVar 0) (mC (.str "z"))))
def m_x_is_figure  : MS :=
  (mRet (mChain wLe wLe (mC (.str "0")) (mVar 0) (mC (.str "9"))))
def m_x_read_word (C_x_is_letter : Con) (C_x_sign_at : Con) : MS :=
  (mSeq (mAsg (mVar 1) (mgName 2))
  (mSeq (mWh (mAnd (mTru (mCB (conR C_x_is_letter) (mCons (mCB (conR C_x_sign_at) (mCons (mVar 0) (mCons (mVar 2) mNil))) mNil))) (mTest (mBin wLt (mBin wSub (mVar 2) (mVar 1)) (mC (.int (8))))))
  (mAug 2 (wInt (fun i j => i + j) fun _ _ => True) (mC (.int 1))))
  (mRet (mTup (mCons (mSl (mVar 0) (mP (mVar 1)) (mP (mVar 2))) (mCons (mVar 2) mNil))))))
def m_x_read_number (C_x_sign_at : Con) (C_x_is_figure : Con) : MS :=
  (mSeq (mAsg (mVar 1) (mgName 2))
  (mSeq (mAsg (mC (.int 1)) (mgName 3))
  (mSeq (mIfS (mTest (mBin wEq (mCB (conR C_x_sign_at) (mCons (mVar 0) (mCons (mVar 1) mNil))) (mC (.str "-"))))
  (mSeq (mAug 2 (wInt (fun i j => i + j) fun _ _ => True) (mC (.int 1)))
  (mSeq (mAsg (mNeg (mC (.int 1))) (mgName 3))
  (mIfS (mTest (mBin wEq (mCB (conR C_x_sign_at) (mCons (mVar 0) (mCons (mVar 2) mNil))) (mC (.str "0"))))
  mNever
  mNext)))
  mNext)
  (mSeq (mIfS (mNot (mTru (mCB (conR C_x_is_figure) (mCons (mCB (conR C_x_sign_at) (mCons (mVar 0) (mCons (mVar 2) mNil))) mNil))))
  mNever
  mNext)
  (mSeq (mAsg (mC (.int 0)) (mgName 4))
  (mSeq (mAsg (mVar 2) (mgName 5))
  (mSeq (mWh (mAnd (mTru (mCB (conR C_x_is_figure) (mCons (mCB (conR C_x_sign_at) (mCons (mVar 0) (mCons (mVar 2) mNil))) mNil))) (mOr (mTest (mBin wNe (mVar 4) (mC (.int 0)))) (mTest (mBin wEq (mVar 2) (mVar 5)))))
  (mSeq (mAsg (mBin wAdd (mBin wMul (mVar 4) (mC (.int 10))) (mBin wMul (mVar 3) (mCB wIntC (mCons (mCB (conR C_x_sign_at) (mCons (mVar 0) (mCons (mVar 2) mNil))) mNil)))) (mgName 6))
  (mSeq (mIfS (mNot (mTest (mChain wLe wLe (mC (.int (-1000000000000000000))) (mVar 6) (mC (.int (1000000000000000000))))))
  mBreak
  mNext)
  (mSeq (mAsg (mVar 6) (mgName 4))
  (mAug 2 (wInt (fun i j => i + j) fun _ _ => True) (mC (.int 1)))))))
  (mRet (mTup (mCons (mVar 4) (mCons (mVar 2) mNil)))))))))))
def m_x_read_part (C_x_is_letter : Con) (C_x_sign_at : Con) (C_x_read_word : Con) (C_x_read_number : Con) : MS :=
  (mSeq (mIfS (mTru (mCB (conR C_x_is_letter) (mCons (mCB (conR C_x_sign_at) (mCons (mVar 0) (mCons (mVar 1) mNil))) mNil)))
  (mRet (mCB (conR C_x_read_word) (mCons (mVar 0) (mCons (mVar 1) mNil))))
  mNext)
  (mRet (mCB (conR C_x_read_number) (mCons (mVar 0) (mCons (mVar 1) mNil)))))
def m_x_close (C_x_sign_at : Con) : MS :=
  (mSeq (mWh (mTest (mBin wEq (mCB (conR C_x_sign_at) (mCons (mVar 0) (mCons (mVar 1) mNil))) (mC (.str ")"))))
  (mSeq (mAug 1 (wInt (fun i j => i + j) fun _ _ => True) (mC (.int 1)))
  (mSeq (mAsg (mCB wTuple (mCons (mBM0 wPop (mVar 2)) mNil)) (mgName 3))
  (mSeq (mIfS (mNot (mTru (mVar 2)))
  (mRet (mTup (mCons (mVar 3) (mCons (mVar 1) mNil))))
  mNext)
  (mDrop (mBM wAppend (mBin wIx (mVar 2) (mNeg (mC (.int 1)))) (mCons (mVar 3) mNil)))))))
  (mRet (mTup (mCons (mC .non) (mCons (mVar 1) mNil)))))
def m_read (C_x_sign_at : Con) (C_x_read_part : Con) (C_x_close : Con) : MS :=
  (mSeq (mAsg (mLst mNil) (mgName 1))
  (mSeq (mAsg (mC .non) (mgName 2))
  (mSeq (mAsg (mC (.int 0)) (mgName 3))
  (mSeq (mWh (mTest (mBin (wIsN false) (mVar 2) (mC .non)))
  (mSeq (mIfS (mAnd (mTest (mBin wEq (mCB (conR C_x_sign_at) (mCons (mVar 0) (mCons (mVar 3) mNil))) (mC (.str "(")))) (mTest (mBin wLt (mCB wLen (mCons (mVar 1) mNil)) (mC (.int (200))))))
  (mSeq (mDrop (mBM wAppend (mVar 1) (mCons (mLst mNil) mNil)))
  (mSeq (mAug 3 (wInt (fun i j => i + j) fun _ _ => True) (mC (.int 1)))
  (mIfS (mTest (mBin wNe (mCB (conR C_x_sign_at) (mCons (mVar 0) (mCons (mVar 3) mNil))) (mC (.str ")"))))
  mCont
  mNext)))
  (mIfS (mTru (mVar 1))
  (mSeq (mAsg (mCB (conR C_x_read_part) (mCons (mVar 0) (mCons (mVar 3) mNil))) (mgTup 2 (mgCons (mgName 4) (mgCons (mgName 3) mgNil))))
  (mDrop (mBM wAppend (mBin wIx (mVar 1) (mNeg (mC (.int 1)))) (mCons (mVar 4) mNil))))
  mNever))
  (mSeq (mAsg (mCB (conR C_x_close) (mCons (mVar 0) (mCons (mVar 3) (mCons (mVar 1) mNil)))) (mgTup 2 (mgCons (mgName 2) (mgCons (mgName 3) mgNil))))
  (mIfS (mTest (mBin (wIsN false) (mVar 2) (mC .non)))
  (mSeq (mIfS (mTest (mBin wNe (mCB (conR C_x_sign_at) (mCons (mVar 0) (mCons (mVar 3) mNil))) (mC (.str " "))))
  mNever
  mNext)
  (mAug 3 (wInt (fun i j => i + j) fun _ _ => True) (mC (.int 1))))
  mNext))))
  (mSeq (mIfS (mTest (mBin wLt (mVar 3) (mCB wLen (mCons (mVar 0) mNil))))
  mNever
  mNext)
  (mRet (mVar 2)))))))
def m_x_law_roll  : MS :=
  (mSeq (mIfS (mTest (mBin wEq (mBin wIx (mVar 0) (mC (.int 2))) (mC (.int 0))))
  (mSeq (mAsg (mBin wIx (mVar 0) (mC (.int 1))) (mgName 2))
  (mSeq (mAsg (mBin wAdd (mVar 2) (mC (.int 1))) (mgSub (mVar 0) (mC (.int 1))))
  (mSeq (mAsg (mC (.int 0)) (mgName 3))
  (mSeq (mIfS (mTest (mBin wNe (mBin wIx (mVar 0) (mC (.int 0))) (mLst mNil)))
  (mAsg (mBin wIx (mBin wIx (mVar 0) (mC (.int 0))) (mBin wMod (mVar 2) (mCB wLen (mCons (mBin wIx (mVar 0) (mC (.int 0))) mNil)))) (mgName 3))
  mNext)
  (mSeq (mIfS (mOr (mTest (mBin wGe (mVar 2) (mCB wLen (mCons (mBin wIx (mVar 0) (mC (.int 0))) mNil)))) (mTest (mBin wLt (mVar 3) (mBin wPow (mC (.int 10)) (mC (.int 18))))))
  (mSeq (mAsg (mBin wMod (mBin wMul (mBin wAdd (mBin wMod (mVar 3) (mC (.int 999953))) (mC (.int 37))) (mBin wAdd (mBin wAdd (mBin wMul (mVar 2) (mVar 2)) (mBin wMul (mC (.int 79)) (mVar 2))) (mC (.int 4001)))) (mC (.int 1000003))) (mgName 4))
  (mSeq (mAsg (mBin wMod (mBin wPow (mVar 4) (mC (.int 3))) (mC (.int 998244353))) (mgName 4))
  (mRet (mBin wMod (mBin wFdivX (mBin wMod (mBin wAdd (mVar 4) (mBin wMul (mC (.int 7109)) (mVar 2))) (mC (.int 1000033))) (mC (.int 2))) (mVar 1)))))
  mNext)
  (mSeq (mAsg (mC (.int 30)) (mgSub (mVar 0) (mC (.int 2))))
  (mAsg (mBin wSub (mVar 3) (mBin wPow (mC (.int 10)) (mC (.int 18)))) (mgSub (mVar 0) (mC (.int 3))))))))))
  mNext)
  (mSeq (mAsg (mBin wSub (mBin wIx (mVar 0) (mC (.int 2))) (mC (.int 1))) (mgSub (mVar 0) (mC (.int 2))))
  (mSeq (mAsg (mBin wIx (mVar 0) (mC (.int 3))) (mgName 5))
  (mSeq (mAsg (mBin wFdivX (mVar 5) (mVar 1)) (mgSub (mVar 0) (mC (.int 3))))
  (mRet (mBin wMod (mVar 5) (mVar 1)))))))
def m_x_law_pick (C_x_law_roll : Con) : MS :=
  (mRet (mBin wIx (mVar 1) (mCB (conR C_x_law_roll) (mCons (mVar 0) (mCons (mCB wLen (mCons (mVar 1) mNil)) mNil)))))
def m_x_law_seen (C_x_law_roll : Con) (C_x_law_seen : Con) : MS :=
  (mSeq (mAsg (mCB (conR C_x_law_roll) (mCons (mVar 0) (mCons (mC (.int 6)) mNil))) (mgName 2))
  (mSeq (mIfS (mTest (mBin wEq (mVar 2) (mC (.int 0))))
  (mRet (mTup (mCons (mC .non) (mCons (mC (.str "-")) mNil))))
  mNext)
  (mSeq (mIfS (mTest (mBin wEq (mVar 2) (mC (.int 1))))
  (mRet (mTup (mCons (mTup (mCons (mC (.str "fun")) mNil)) (mCons (mC (.str "fun")) mNil))))
  mNext)
  (mSeq (mIfS (mOr (mTest (mBin wLt (mVar 2) (mC (.int 4)))) (mTest (mBin wEq (mVar 1) (mC (.int 0)))))
  (mSeq (mAsg (mBin wIx (mLst (mCons (mBin wSub (mCB (conR C_x_law_roll) (mCons (mVar 0) (mCons (mC (.int 30)) mNil))) (mC (.int 15))) (mCons (mBin wMul (mCB (conR C_x_law_roll) (mCons (mVar 0) (mCons (mBin wPow (mC (.int 10)) (mC (.int 59))) mNil))) (mBin wSub (mC (.int 1)) (mBin wMul (mC (.int 2)) (mCB (conR C_x_law_roll) (mCons (mVar 0) (mCons (mC (.int 2)) mNil)))))) mNil))) (mBin wMod (mVar 2) (mC (.int 2)))) (mgName 3))
  (mRet (mTup (mCons (mVar 3) (mCons (mCB wStrC (mCons (mVar 3) mNil)) mNil)))))
  mNext)
  (mSeq (mAsg (mBin wIx (mLst (mCons (mC (.str "cons")) (mCons (mC (.str "a")) (mCons (mC (.str "fun")) (mCons (mC (.str "made")) (mCons (mC (.str "numbered")) (mCons (mC (.str "yes")) mNil))))))) (mCB (conR C_x_law_roll) (mCons (mVar 0) (mCons (mC (.int 6)) mNil)))) (mgName 4))
  (mSeq (mAsg (mLc (mRg1 (mCons (mCB (conR C_x_law_roll) (mCons (mVar 0) (mCons (mC (.int 4)) mNil))) mNil)) (mgName 7) mYes (mCB (conR C_x_law_seen) (mCons (mVar 0) (mCons (mBin wSub (mVar 1) (mC (.int 1))) mNil))) [7]) (mgName 5))
  (mSeq (mAsg (mBin wAdd (mBin wAdd (mBin wAdd (mBin wAdd (mC (.str "(")) (mVar 4)) (mC (.str " ("))) (mJoin (mC (.str " ")) (mLc (mIt (mVar 5)) (mgName 8) mYes (mBin wIx (mVar 8) (mC (.int 1))) [8]))) (mC (.str "))"))) (mgName 6))
  (mRet (mTup (mCons (mTup (mCons (mVar 4) (mCons (mCB wTuple (mCons (mLc (mIt (mVar 5)) (mgName 8) mYes (mBin wIx (mVar 8) (mC (.int 0))) [8]) mNil)) mNil))) (mCons (mVar 6) mNil)))))))))))
def m_law (C_x_law_seen : Con) (C_seen_text : Con) (C_x_law_roll : Con) (C_read : Con) : MS :=
  (mSeq (mAsg (mLst (mCons (mCB wList (mCons (mSl (mVar 0) mNoP (mP (mC (.int 63)))) mNil)) (mCons (mC (.int 0)) (mCons (mC (.int 0)) (mCons (mC (.int 0)) mNil))))) (mgName 1))
  (mSeq (mFor (mRg1 (mCons (mC (.int 8)) mNil)) (mgName 2)
  (mSeq (mAsg (mCB (conR C_x_law_seen) (mCons (mVar 1) (mCons (mC (.int 4)) mNil))) (mgTup 2 (mgCons (mgName 3) (mgCons (mgName 4) mgNil))))
  (mSeq (mAsg (mCB wRepr (mCons (mVar 3) mNil)) (mgName 5))
  (mIfS (mOr (mTest (mBin wNe (mCB (conR C_seen_text) (mCons (mVar 3) mNil)) (mVar 4))) (mTest (mBin wNe (mCB wRepr (mCons (mVar 3) mNil)) (mVar 5))))
  (mRet (mC (.bl false)))
  mNext))))
  (mSeq (mAsg (mTup (mCons (mC .non) (mCons (mC (.str "-")) mNil))) (mgTup 2 (mgCons (mgName 6) (mgCons (mgName 4) mgNil))))
  (mSeq (mFor (mRg1 (mCons (mBin wAdd (mC (.int 1)) (mCB (conR C_x_law_roll) (mCons (mVar 1) (mCons (mC (.int 60)) mNil)))) mNil)) (mgName 7)
  (mPar 6 4 (mCons (mTup (mCons (mC (.str "cons")) (mCons (mTup (mCons (mBin wSub (mC (.int 0)) (mVar 7)) (mCons (mVar 6) mNil))) mNil))) (mCons (mBin wAdd (mBin wAdd (mBin wAdd (mBin wAdd (mC (.str "(cons (")) (mCB wStrC (mCons (mBin wSub (mC (.int 0)) (mVar 7)) mNil))) (mC (.str " "))) (mVar 4)) (mC (.str "))"))) mNil))))
  (mRet (mAndV (mBin wEq (mCB (conR C_seen_text) (mCons (mVar 6) mNil)) (mVar 4)) (mAndV (mBin wEq (mCB (conR C_read) (mCons (mC (.str "(nil ())")) mNil)) (mTup (mCons (mC (.str "nil")) (mCons (mTup mNil) mNil)))) (mBin wEq (mCB (conR C_seen_text) (mCons (mTup (mCons (mC (.str "nil")) (mCons (mTup mNil) mNil))) mNil)) (mC (.str "(nil ())"))))))))))
end Ev82

set_option Elab.async false
set_option linter.all false
set_option maxRecDepth 100000
set_option maxHeartbeats 1000000
/-! What is seen, and how it is written. -/
namespace Ev82
open PySem PySem.Spec PyProof.Rows L2 Ow Ev OwT EvT
abbrev Vc (N : Nat) (m : MS) (C : Con) : Prop := ∀ a ws S, C.pre a ws S → m { nx := fun _ S' => C.post a S .non S', rt := fun w S' => C.post a S w S' } (stE N ws) S
def catS : List Str → Str
  | [] => Str.empty
  | a :: r => a ++ catS r
theorem catS_app : ∀ a b : List Str, catS (a ++ b) = catS a ++ catS b
  | [], b => (Str.empty_append _).symm
  | x :: a, b => by
    show x ++ catS (a ++ b) = x ++ catS a ++ catS b
    rw [catS_app a b, Str.append_assoc]
theorem catS_len : ∀ a : List Str, (catS a).length = (a.map (·.length)).sum
  | [] => rfl
  | x :: a => by
    show (x ++ catS a).length = _
    rw [Str.length_append, catS_len a, List.map_cons, List.sum_cons]
theorem emp : (("" : Str)) = Str.empty := by decide
theorem join_cat : ∀ l : List Str, Txt.join "" l = catS l := fun l => by
  show Builtin.Str.glued "" l = _
  rw [StrLaws.glued_eq_join]
  induction l with
  | nil => rfl
  | cons x r ih =>
    cases r with
    | nil => exact (Str.append_empty x).symm
    | cons y r =>
      show x ++ "" ++ Str.join "" (y :: r) = x ++ catS (y :: r)
      rw [ih, emp, Str.append_empty]
def isFun : List W → Bool
  | [.str z] => decide (z = "fun")
  | _ => false
mutual
def okG : W → Prop
  | .non => True
  | .int i => i.natAbs.log2 < 1920
  | .str z => z.length ≤ sizeLine ∧ PyData.canLay0 (.str z) = true
  | .tup l => l.length ≤ 5000 ∧ okGs l
  | _ => False
def okGs : List W → Prop
  | [] => True
  | w :: r => okG w ∧ okGs r
end
mutual
def wr : W → Str
  | .non => "-"
  | .int i => toString i
  | .str z => z
  | .tup l => if isFun l = true then "fun" else "(" ++ (wrH l ++ ")")
  | _ => Str.empty
def wrH : List W → Str
  | [] => Str.empty
  | w :: r => wr w ++ wrT r
def wrT : List W → Str
  | [] => Str.empty
  | w :: r => " " ++ (wr w ++ wrT r)
end
mutual
def cn : W → Nat
  | .tup l => 2 + cns l
  | _ => 1
def cns : List W → Nat
  | [] => 0
  | w :: r => 1 + cn w + cns r
end
theorem cn_pos (w : W) : 1 ≤ cn w := by
  cases w <;> first | exact Nat.le_refl 1 | (unfold cn; omega)
def word : W → W
  | .non => .str "-"
  | .int i => .str (toString i)
  | .str z => .str z
  | .tup l => if isFun l = true then .str "fun" else .non
  | _ => .non
mutual
theorem okG_dat {S : Store} : ∀ {w : W}, okG w → dat S w
  | .non, _ => trivial
  | .int _, _ => trivial
  | .str _, h => h.1
  | .tup l, h => ⟨Nat.le_trans h.1 (by decide), okGs_dat h.2⟩
  | .bl _, h => h.elim
  | .cl _, h => h.elim
  | .ref _, h => h.elim
  | .adr _, h => h.elim
  | .ty _, h => h.elim
theorem okGs_dat {S : Store} : ∀ {l : List W}, okGs l → dats S l
  | [], _ => trivial
  | _ :: _, h => ⟨okG_dat h.1, okGs_dat h.2⟩
end
/-! ### the stack -/
inductive En where
  | sg (z : Str)
  | th (w : W)
def En.enc : En → W
  | .sg z => .tup [.bl true, .str z]
  | .th w => .tup [.bl false, w]
def En.val : En → Str
  | .sg z => z
  | .th w => wr w
def En.me : En → Nat
  | .sg _ => 1
  | .th w => cn w
def En.ok : En → Prop
  | .sg _ => True
  | .th w => okG w
def mea : List En → Nat
  | [] => 0
  | e :: r => e.me + mea r
theorem mea_len : ∀ R : List En, R.length ≤ mea R
  | [] => Nat.le_refl 0
  | e :: r => by
    have h : 1 ≤ e.me := by
      cases e with
      | sg z => exact Nat.le_refl 1
      | th w => exact cn_pos w
    have := mea_len r
    show r.length + 1 ≤ e.me + mea r
    omega
def tlE : List W → List En → List En
  | [], R => R
  | w :: r, R => .sg " " :: .th w :: tlE r R
def hdE : List W → List En → List En
  | [], R => R
  | w :: r, R => .th w :: tlE r R
theorem mea_tl : ∀ (l : List W) (R : List En), mea (tlE l R) = cns l + mea R
  | [], R => by
    show mea R = 0 + mea R
    omega
  | w :: r, R => by
    show 1 + (cn w + mea (tlE r R)) = 1 + cn w + cns r + mea R
    rw [mea_tl r R]
    omega
theorem val_tl : ∀ (l : List W) (R : List En), catS ((tlE l R).map En.val) = wrT l ++ catS (R.map En.val)
  | [], R => (Str.empty_append _).symm
  | w :: r, R => by
    show " " ++ (wr w ++ catS ((tlE r R).map En.val)) = " " ++ (wr w ++ wrT r) ++ _
    rw [val_tl r R]
    simp only [Str.append_assoc]
theorem val_hd : ∀ (l : List W) (R : List En), catS ((hdE l R).map En.val) = wrH l ++ catS (R.map En.val)
  | [], R => (Str.empty_append _).symm
  | w :: r, R => by
    show wr w ++ catS ((tlE r R).map En.val) = (wr w ++ wrT r) ++ _
    rw [val_tl r R]
    simp only [Str.append_assoc]
theorem mea_hd : ∀ (l : List W) (R : List En), mea (hdE l R) ≤ cns l + mea R
  | [], R => by
    show mea R ≤ 0 + mea R
    omega
  | w :: r, R => by
    show cn w + mea (tlE r R) ≤ 1 + cn w + cns r + mea R
    rw [mea_tl r R]
    omega
theorem ok_tl : ∀ (l : List W) (R : List En), okGs l → (∀ e ∈ R, e.ok) → ∀ e ∈ tlE l R, e.ok
  | [], R, _, h => h
  | w :: r, R, h, k => fun e he => by
    rcases List.mem_cons.mp he with rfl | he
    · trivial
    · rcases List.mem_cons.mp he with rfl | he
      · exact h.1
      · exact ok_tl r R h.2 k e he
theorem ok_hd : ∀ (l : List W) (R : List En), okGs l → (∀ e ∈ R, e.ok) → ∀ e ∈ hdE l R, e.ok
  | [], R, _, h => h
  | w :: r, R, h, k => fun e he => by
    rcases List.mem_cons.mp he with rfl | he
    · exact h.1
    · exact ok_tl r R h.2 k e he
def st2 (S0 : Store) (sg : List Str) (R : List En) : Store := S0 ++ [.lst (sg.map W.str), .lst (R.map En.enc).reverse]
section
variable {S0 : Store} {sg : List Str} {R : List En}
theorem st2_a : (st2 S0 sg R)[S0.length]? = some (.lst (sg.map W.str)) := by
  unfold st2
  rw [List.getElem?_append_right (Nat.le_refl _), Nat.sub_self]
  rfl
theorem st2_b : (st2 S0 sg R)[S0.length + 1]? = some (.lst (R.map En.enc).reverse) := by
  unfold st2
  rw [List.getElem?_append_right (show S0.length ≤ S0.length + 1 by omega), Nat.add_sub_cancel_left]
  rfl
theorem st2_sa {z : Str} : (st2 S0 sg R).set S0.length (.lst (sg.map W.str ++ [.str z])) = st2 S0 (sg ++ [z]) R := by
  unfold st2
  rw [List.set_append_right _ _ (Nat.le_refl _), Nat.sub_self, List.map_append]
  rfl
theorem st2_sb {e : En} : (st2 S0 sg R).set (S0.length + 1) (.lst ((R.map En.enc).reverse ++ [e.enc])) = st2 S0 sg (e :: R) := by
  unfold st2
  rw [List.set_append_right _ _ (show S0.length ≤ S0.length + 1 by omega), Nat.add_sub_cancel_left, List.map_cons, List.reverse_cons]
  rfl
theorem st2_pop {e : En} : (st2 S0 sg (e :: R)).set (S0.length + 1) (.lst (R.map En.enc).reverse) = st2 S0 sg R := by
  unfold st2
  rw [List.set_append_right _ _ (show S0.length ≤ S0.length + 1 by omega), Nat.add_sub_cancel_left]
  rfl
/-- signs.append(z) -/
theorem app_a {z : Str} {Q : WK} (h : sg.length ≤ 100000) (q : Q .non (st2 S0 (sg ++ [z]) R)) : wAppend (.ref S0.length) [.str z] (st2 S0 sg R) Q := by
  show oL (st2 S0 sg R)[S0.length]? _
  rw [st2_a]
  refine ⟨by rw [List.length_map]; exact Nat.lt_of_le_of_lt h (by decide), ?_⟩
  rw [st2_sa]
  exact q
/-- todo.append(e) -/
theorem app_b {w : W} {e : En} {Q : WK} (hw : w = e.enc) (h : R.length ≤ 100000) (q : Q .non (st2 S0 sg (e :: R))) : wAppend (.ref (S0.length + 1)) [w] (st2 S0 sg R) Q := by
  subst hw
  show oL (st2 S0 sg R)[S0.length + 1]? _
  rw [st2_b]
  refine ⟨by rw [List.length_reverse, List.length_map]; exact Nat.lt_of_le_of_lt h (by decide), ?_⟩
  rw [st2_sb]
  exact q
theorem pop_b {e : En} {Q : WK} (q : Q e.enc (st2 S0 sg R)) : wPop (.ref (S0.length + 1)) [] (st2 S0 sg (e :: R)) Q := by
  show oL (st2 S0 sg (e :: R))[S0.length + 1]? _
  rw [st2_b]
  show oW ((e :: R).map En.enc).reverse.getLast? _
  rw [List.map_cons, List.reverse_cons, List.getLast?_concat, List.dropLast_concat, st2_pop]
  exact q
end
end Ev82

set_option Elab.async false
set_option linter.all false
set_option maxRecDepth 100000
set_option maxHeartbeats 1000000
namespace Ev82
open PySem PySem.Spec PyProof.Rows L2 Ow Ev OwT EvT
mutual
def dW : W → PyData
  | .non => .none
  | .bl b => .bool b
  | .int i => .int i
  | .str z => .str z
  | .tup l => .tuple (dWs l)
  | .cl l => .list (dWs l)
  | _ => .none
def dWs : List W → List PyData
  | [] => []
  | w :: r => dW w :: dWs r
end
mutual
theorem okG_dw {S : Store} : ∀ {w : W}, okG w → DW S w (dW w) ∧ (dW w).canLay0 = true
  | .non, _ => ⟨.non, by simp [dW, PyData.canLay0]⟩
  | .int _, _ => ⟨.int _, by simp [dW, PyData.canLay0]⟩
  | .str _, h => ⟨.str _, h.2⟩
  | .tup l, h => ⟨.tup (okGs_dw h.2).1, by
    show PyData.canLay0 (.tuple (dWs l)) = true
    unfold PyData.canLay0
    exact (okGs_dw (S := S) h.2).2⟩
  | .bl _, h => h.elim
  | .cl _, h => h.elim
  | .ref _, h => h.elim
  | .adr _, h => h.elim
  | .ty _, h => h.elim
theorem okGs_dw {S : Store} : ∀ {l : List W}, okGs l → DWs S l (dWs l) ∧ PyData.canLayAll0 (dWs l) = true
  | [], _ => ⟨.nil, by simp [dWs, PyData.canLayAll0]⟩
  | w :: r, h => ⟨.cons (okG_dw h.1).1 (okGs_dw h.2).1, by
    have a := (okG_dw (S := S) h.1).2
    have b := (okGs_dw (S := S) h.2).2
    show PyData.canLayAll0 (dW w :: dWs r) = true
    unfold PyData.canLayAll0
    rw [a, b]
    rfl⟩
end
def funW : W := .tup [.str "fun"]
theorem fun_dw {S : Store} : DW S funW (.tuple [.str "fun"]) := .tup (.cons (.str _) .nil)
theorem fun_lay : PyData.canLay0 (.tuple [.str "fun"]) = true := by decide +kernel
theorem fun_depth : PyData.depth (.tuple [.str "fun"]) ≤ 64 := by decide +kernel
def funB : W → Bool
  | .tup l => isFun l
  | _ => false
theorem eq_fun : ∀ {w : W}, okG w → PyData.eqv (dW w) (.tuple [.str "fun"]) = funB w
  | .non, _ => by simp [dW, PyData.eqv, funB]
  | .int _, _ => by simp [dW, PyData.eqv, funB]
  | .str _, _ => by simp [dW, PyData.eqv, funB]
  | .tup [], _ => by simp [dW, dWs, PyData.eqv, PyData.eqvAll, isFun, funB]
  | .tup [.str z], _ => by
    simp only [dW, dWs, PyData.eqv, PyData.eqvAll, isFun, funB, Bool.and_true]
    by_cases h : z = "fun"
    · subst h
      decide
    · rw [decide_eq_false h]
      exact beq_eq_false_iff_ne.mpr h
  | .tup [.non], _ => by simp [dW, dWs, PyData.eqv, PyData.eqvAll, isFun, funB]
  | .tup [.int _], _ => by simp [dW, dWs, PyData.eqv, PyData.eqvAll, isFun, funB]
  | .tup [.tup _], _ => by simp [dW, dWs, PyData.eqv, PyData.eqvAll, isFun, funB]
  | .tup (a :: b :: r), _ => by simp [dW, dWs, PyData.eqv, PyData.eqvAll, isFun, funB]
theorem eqX_fun {w : W} {S : Store} {Q : WK} (h : okG w) (q : Q (.bl (funB w)) S) : wEqX 64 false w funW S Q := by
  refine ⟨_, _, (okG_dw h).1, fun_dw, (okG_dw (S := S) h).2, fun_lay, Nat.le_trans (Nat.min_le_right _ _) fun_depth, ?_⟩
  show Q (.bl (false ^^ PyData.eqv (dW w) _)) S
  rw [eq_fun h, Bool.false_xor]
  exact q
/-! ### _word_of_thing, _word_of_seen -/
/-- tuples give None, texts themselves, numbers their figures -/
def word0 : W → W
  | .int i => .str (toString i)
  | .str z => .str z
  | _ => .non
def notNon : W → Prop
  | .non => False
  | _ => True
abbrev Word0C : Con := ⟨W, fun x ws S => ws = [x] ∧ okG x ∧ notNon x, fun x S w S' => w = word0 x ∧ S' = S⟩
abbrev WordC : Con := ⟨W, fun x ws S => ws = [x] ∧ okG x, fun x S w S' => w = word x ∧ S' = S⟩
def nonB : W → Bool
  | .non => true
  | _ => false
theorem isN_ok {neg : Bool} {w : W} {S : Store} {Q : WK} (q : Q (.bl (neg ^^ nonB w)) S) : wIsN neg w .non S Q := by
  cases w with
  | non =>
    show Q (.bl (!neg)) S
    cases neg <;> exact q
  | _ => 
    show Q (.bl neg) S
    cases neg <;> exact q
theorem vd_word0 : Vc 1 m_x_word_of_thing Word0C := fun x ws S ⟨e, h, hn⟩ => by
  subst e
  show m_x_word_of_thing _ [some x] S
  unfold m_x_word_of_thing
  simp only [mSeq, mIfS, mRet, mRetN, mAsg, mDrop, mTest, mBin, mChain, mTru, mAnd, mOr, mNot, mAndV, mOrV, mNotV, mIf, mVar, mC, mCons, mNil, mTup, mLst, mCB, mgName, mNext, mIt, mPar, mAug, lk, wLen_tup, wLe_int, wLt_int, wGt_int, wEq_int, wNe_int, wEq_str, wNe_str, wIx_tup, wAt0, wAt1, wAt2, wAt3, oW_s, tru_bl, List.set]
  refine isi_tup (okG_dat h) ?_
  simp only [mSeq, mIfS, mRet, mRetN, mAsg, mDrop, mTest, mBin, mChain, mTru, mAnd, mOr, mNot, mAndV, mOrV, mNotV, mIf, mVar, mC, mCons, mNil, mTup, mLst, mCB, mgName, mNext, mIt, mPar, mAug, lk, wLen_tup, wLe_int, wLt_int, wGt_int, wEq_int, wNe_int, wEq_str, wNe_str, wIx_tup, wAt0, wAt1, wAt2, wAt3, oW_s, tru_bl, List.set]
  refine ifB (fun e => ?_) fun e => isi_str (okG_dat h) ?_
  · cases x with
    | tup l => exact ⟨rfl, trivial⟩
    | _ => cases e
  · simp only [mSeq, mIfS, mRet, mRetN, mAsg, mDrop, mTest, mBin, mChain, mTru, mAnd, mOr, mNot, mAndV, mOrV, mNotV, mIf, mVar, mC, mCons, mNil, mTup, mLst, mCB, mgName, mNext, mIt, mPar, mAug, lk, wLen_tup, wLe_int, wLt_int, wGt_int, wEq_int, wNe_int, wEq_str, wNe_str, wIx_tup, wAt0, wAt1, wAt2, wAt3, oW_s, tru_bl, List.set]
    cases x with
    | int i => exact ifB (fun e => by cases e) fun _ => ⟨h, rfl, rfl⟩
    | str z => exact ifB (fun _ => ⟨rfl, trivial⟩) fun e => by cases e
    | non => exact hn.elim
    | tup l => cases e
    | _ => exact h.elim
theorem vd_word : Vc 1 (m_x_word_of_seen Word0C) WordC := fun x ws S ⟨e, h⟩ => by
  subst e
  show m_x_word_of_seen _ _ [some x] S
  unfold m_x_word_of_seen
  simp only [mSeq, mIfS, mRet, mRetN, mAsg, mDrop, mTest, mBin, mChain, mTru, mAnd, mOr, mNot, mAndV, mOrV, mNotV, mIf, mVar, mC, mCons, mNil, mTup, mLst, mCB, mgName, mNext, mIt, mPar, mAug, lk, wLen_tup, wLe_int, wLt_int, wGt_int, wEq_int, wNe_int, wEq_str, wNe_str, wIx_tup, wAt0, wAt1, wAt2, wAt3, oW_s, tru_bl, List.set]
  refine isN_ok ?_
  simp only [mSeq, mIfS, mRet, mRetN, mAsg, mDrop, mTest, mBin, mChain, mTru, mAnd, mOr, mNot, mAndV, mOrV, mNotV, mIf, mVar, mC, mCons, mNil, mTup, mLst, mCB, mgName, mNext, mIt, mPar, mAug, lk, wLen_tup, wLe_int, wLt_int, wGt_int, wEq_int, wNe_int, wEq_str, wNe_str, wIx_tup, wAt0, wAt1, wAt2, wAt3, oW_s, tru_bl, List.set]
  refine ifB (fun e => ?_) fun e => ⟨by show 1 ≤ sizeLine; decide, eqX_fun h ?_⟩
  · cases x with
    | non => exact ⟨rfl, trivial⟩
    | _ => cases e
  · simp only [mSeq, mIfS, mRet, mRetN, mAsg, mDrop, mTest, mBin, mChain, mTru, mAnd, mOr, mNot, mAndV, mOrV, mNotV, mIf, mVar, mC, mCons, mNil, mTup, mLst, mCB, mgName, mNext, mIt, mPar, mAug, lk, wLen_tup, wLe_int, wLt_int, wGt_int, wEq_int, wNe_int, wEq_str, wNe_str, wIx_tup, wAt0, wAt1, wAt2, wAt3, oW_s, tru_bl, List.set]
    cases x with
    | non => cases e
    | tup l =>
      refine ifB (fun e => ⟨?_, trivial⟩) fun e => ⟨_, ⟨rfl, h, trivial⟩, fun w S' ⟨a, b⟩ => ⟨?_, b⟩⟩
      · show W.str "fun" = (if isFun l = true then W.str "fun" else W.non)
        rw [if_pos (show isFun l = true from e)]
      · rw [a]
        show W.non = (if isFun l = true then W.str "fun" else W.non)
        rw [if_neg (by rw [show isFun l = false from e]; decide)]
    | int i => exact ifB (fun e => by cases e) fun _ => ⟨_, ⟨rfl, h, trivial⟩, fun w S' ⟨a, b⟩ => ⟨a, b⟩⟩
    | str z => exact ifB (fun e => by cases e) fun _ => ⟨_, ⟨rfl, h, trivial⟩, fun w S' ⟨a, b⟩ => ⟨a, b⟩⟩
    | _ => exact h.elim
end Ev82

set_option Elab.async false
set_option linter.all false
set_option maxRecDepth 100000
set_option maxHeartbeats 1000000
namespace Ev82
open PySem PySem.Spec PyProof.Rows L2 Ow Ev OwT EvT
theorem rr_succ (k : Nat) : rrW (k + 1) = .int k :: rrW k := by
  unfold rrW
  rw [List.range_succ_eq_map, List.map_cons, List.map_map]
  congr 1
  · show W.int _ = W.int _
    congr 1
    push_cast
    omega
  · refine List.map_congr_left fun j _ => ?_
    show W.int _ = W.int _
    congr 1
    push_cast
    omega
def pushB : MS := (mSeq (mDrop (mBM wAppend (mVar 3) (mCons (mTup (mCons (mC (.bl false)) (mCons (mBin wIx (mVar 5) (mVar 7)) mNil))) mNil)))
  (mIfS (mTest (mBin wGt (mVar 7) (mC (.int 0))))
  (mDrop (mBM wAppend (mVar 3) (mCons (mTup (mCons (mC (.bl true)) (mCons (mC (.str " ")) mNil))) mNil)))
  mNext))
def loopB (CA : Addr → Option Con) : MS :=
  (mSeq (mAsg (mBM0 wPop (mVar 3)) (mgTup 2 (mgCons (mgName 4) (mgCons (mgName 5) mgNil))))
  (mSeq (mAsg (mIf (mTru (mVar 4)) (mVar 5) (mCallL 0 CA (mCons (mVar 5) mNil))) (mgName 6))
  (mSeq (mIfS (mTest (mBin (wIsN true) (mVar 6) (mC .non)))
  (mSeq (mDrop (mBM wAppend (mVar 2) (mCons (mVar 6) mNil)))
  mCont)
  mNext)
  (mSeq (mDrop (mBM wAppend (mVar 2) (mCons (mC (.str "(")) mNil)))
  (mSeq (mDrop (mBM wAppend (mVar 3) (mCons (mTup (mCons (mC (.bl true)) (mCons (mC (.str ")")) mNil))) mNil)))
  (mFor (mRevR (mCB wLen (mCons (mVar 5) mNil))) (mgName 7) pushB))))))
theorem written_eq (CA : Addr → Option Con) : m_x_written_by CA = (mSeq (mAsg (mLst mNil) (mgName 2))
  (mSeq (mAsg (mLst (mCons (mTup (mCons (mC (.bl false)) (mCons (mVar 1) mNil))) mNil)) (mgName 3))
  (mSeq (mWh (mTru (mVar 3)) (loopB CA)) (mRet (mJoin (mC (.str "")) (mVar 2)))))) := rfl
section
variable {S0 : Store} {D : MD} {fa : Addr} {x : W} {sg : List Str} {l : List W}
theorem ix_nat {k : Nat} {w : W} (h : l[k]? = some w) : wAt l (k : Int) = some w := by
  rw [wAt_nat (by omega), show (k : Int).toNat = k by omega]
  exact h
theorem isl_b {R : List En} : isLst (.ref (S0.length + 1)) (st2 S0 sg R) := by
  show oL (st2 S0 sg R)[S0.length + 1]? _
  rw [st2_b]
  trivial
theorem isl_a {R : List En} : isLst (.ref S0.length) (st2 S0 sg R) := by
  show oL (st2 S0 sg R)[S0.length]? _
  rw [st2_a]
  trivial
theorem pushB_ok {w2 w4 w6 : Option W} {R : List En} {j : Nat} {w : W} (e1 : l[j]? = some w) (n1 : R.length ≤ 90000)
    (k0 : j = 0 → D.nx [some (.adr fa), some x, w2, some (.ref (S0.length + 1)), w4, some (.tup l), w6, some (.int j)] (st2 S0 sg (.th w :: R)))
    (k1 : 0 < j → D.nx [some (.adr fa), some x, w2, some (.ref (S0.length + 1)), w4, some (.tup l), w6, some (.int j)] (st2 S0 sg (.sg " " :: .th w :: R))) :
    pushB D [some (.adr fa), some x, w2, some (.ref (S0.length + 1)), w4, some (.tup l), w6, some (.int j)] (st2 S0 sg R) := by
  unfold pushB
  unfold mBM
  simp only [mSeq, mIfS, mRet, mRetN, mAsg, mDrop, mTest, mBin, mChain, mTru, mAnd, mOr, mNot, mAndV, mOrV, mNotV, mIf, mVar, mC, mCons, mNil, mTup, mLst, mCB, mgName, mNext, mIt, mPar, mAug, lk, wLen_tup, wLe_int, wLt_int, wGt_int, wEq_int, wNe_int, wEq_str, wNe_str, wIx_tup, wAt0, wAt1, wAt2, wAt3, oW_s, tru_bl, List.set]
  rw [ix_nat e1]
  refine ⟨isl_b, by show 2 ≤ sizeLine; decide, app_b (e := .th w) rfl (by omega) ?_⟩
  refine ifB (fun h => ⟨isl_b, by show 2 ≤ sizeLine; decide, app_b (e := .sg " ") rfl (by show R.length + 1 ≤ _; omega) ?_⟩) fun h => ?_
  · have := of_decide_eq_true h
    exact k1 (by omega)
  · have := of_decide_eq_false h
    exact k0 (by omega)
theorem push_all {w4 w6 : Option W} (R : List En) (hM : ∀ j, mea (tlE (l.drop j) R) ≤ 90000) (k : ∀ e7, D.nx [some (.adr fa), some x, some (.ref S0.length), some (.ref (S0.length + 1)), w4, some (.tup l), w6, e7] (st2 S0 sg (hdE l R))) :
    ∀ (j : Nat), j ≤ l.length → (j = 0 → l = []) → ∀ e7, forL (fun _ => True) (mgName 7) pushB D (rrW j) [some (.adr fa), some x, some (.ref S0.length), some (.ref (S0.length + 1)), w4, some (.tup l), w6, e7] (st2 S0 sg (tlE (l.drop j) R))
  | 0, _, h0, e7 => by
    obtain rfl := h0 rfl
    exact ⟨trivial, k e7⟩
  | j + 1, hj, _, e7 => by
    rw [rr_succ]
    have hj' : j < l.length := hj
    have e1 : l[j]? = some l[j] := List.getElem?_eq_getElem hj'
    have e2 : l.drop j = l[j] :: l.drop (j + 1) := List.drop_eq_getElem_cons hj'
    have n1 := Nat.le_trans (mea_len _) (hM (j + 1))
    have ih := push_all R hM k j (by omega)
    refine ⟨trivial, pushB_ok e1 n1 (fun h => ?_) fun h => ?_⟩
    · subst h
      refine ⟨trivial, ?_⟩
      have := k (some (.int (0 : Nat)))
      rw [List.drop_zero] at e2
      have e3 : hdE l R = .th l[0] :: tlE (l.drop (0 + 1)) R := (congrArg (fun z => hdE z R) e2)
      rw [e3] at this
      exact this
    · have := ih (fun h => by omega) (some (.int j))
      rw [e2] at this
      exact this
theorem push_for {w4 w6 e7 : Option W} (R : List En) (hl : l.length ≤ 5000) (hM : cns l + mea R ≤ 90000) (k : ∀ e7, D.nx [some (.adr fa), some x, some (.ref S0.length), some (.ref (S0.length + 1)), w4, some (.tup l), w6, e7] (st2 S0 sg (hdE l R))) :
    (mFor (mRevR (mCB wLen (mCons (mVar 5) mNil))) (mgName 7) pushB) D [some (.adr fa), some x, some (.ref S0.length), some (.ref (S0.length + 1)), w4, some (.tup l), w6, e7] (st2 S0 sg R) := by
  have cd : ∀ (l : List W) (j : Nat), cns (l.drop j) ≤ cns l := by
    intro l
    induction l with
    | nil => intro j; rw [List.drop_nil]; exact Nat.le_refl _
    | cons w r ih =>
      intro j
      cases j with
      | zero => exact Nat.le_refl _
      | succ j =>
        have := ih j
        show cns (r.drop j) ≤ 1 + cn w + cns r
        omega
  refine ⟨⟨by show -(2 ^ 62 : Int) ≤ (l.length : Int); omega, by show (l.length : Int) < 2 ^ 62; omega⟩, ?_⟩
  have := push_all (D := D) (fa := fa) (x := x) (S0 := S0) (sg := sg) (w4 := w4) (w6 := w6) R (fun j => by rw [mea_tl]; have := cd l j; omega) k l.length (Nat.le_refl _) (fun h => List.eq_nil_of_length_eq_zero h) e7
  rw [List.drop_length] at this
  rw [show ((l.length : Int)).toNat = l.length by omega]
  exact this
end
end Ev82

set_option Elab.async false
set_option linter.all false
set_option maxRecDepth 100000
set_option maxHeartbeats 1000000
namespace Ev82
open PySem PySem.Spec PyProof.Rows L2 Ow Ev OwT EvT
/-- the text of a word, where there is one -/
theorem word_some {w : W} {z : Str} (h : okG w) (e : word w = .str z) : z = wr w := by
  cases w with
  | non => cases e; rfl
  | int i => cases e; rfl
  | str x => cases e; rfl
  | tup l =>
    have e : (if isFun l = true then W.str "fun" else W.non) = .str z := e
    show z = (if isFun l = true then ("fun" : Str) else "(" ++ (wrH l ++ ")"))
    by_cases c : isFun l = true
    · rw [if_pos c] at e ⊢
      cases e
      rfl
    · rw [if_neg c] at e
      cases e
  | _ => exact h.elim
theorem word_kind {w : W} (h : okG w) : (∃ z, word w = .str z) ∨ ∃ l, w = .tup l ∧ isFun l = false ∧ word w = .non := by
  cases w with
  | non => exact .inl ⟨_, rfl⟩
  | int i => exact .inl ⟨_, rfl⟩
  | str x => exact .inl ⟨_, rfl⟩
  | tup l =>
    by_cases c : isFun l = true
    · exact .inl ⟨"fun", by show (if isFun l = true then W.str "fun" else W.non) = _; rw [if_pos c]⟩
    · exact .inr ⟨l, rfl, Bool.eq_false_iff.mpr c, by show (if isFun l = true then W.str "fun" else W.non) = _; rw [if_neg c]⟩
  | _ => exact h.elim
section
variable {S0 : Store} {D : MD} {fa : Addr} {x : W} {CA : Addr → Option Con} {T : Str}
theorem loop82 (hC : CA fa = some WordC) (k : ∀ (sg : List Str) e4 e5 e6 e7, catS sg = T → sg.length ≤ 90000 → D.nx [some (.adr fa), some x, some (.ref S0.length), some (.ref (S0.length + 1)), e4, e5, e6, e7] (st2 S0 sg [])) :
    ∀ (f : Nat) (R : List En) (sg : List Str) (e4 e5 e6 e7 : Option W), mea R < f → (∀ e ∈ R, e.ok) → sg.length + mea R ≤ 90000 → catS sg ++ catS (R.map En.val) = T →
      whL (mTru (mVar 3)) (loopB CA) D f [some (.adr fa), some x, some (.ref S0.length), some (.ref (S0.length + 1)), e4, e5, e6, e7] (st2 S0 sg R)
  | 0, R, sg, e4, e5, e6, e7, hf, _, _, _ => by omega
  | f + 1, R, sg, e4, e5, e6, e7, hf, ok, hs, hT => by
    have ih := loop82 hC k f
    unfold whL
    simp only [mTru, mVar, lk, Ev.wTru]
    rw [st2_b]
    simp only [oTru]
    cases R with
    | nil =>
      refine iteF ?_
      rw [show catS (([] : List En).map En.val) = Str.empty from rfl, Str.append_empty] at hT
      exact k sg e4 e5 e6 e7 hT (by omega)
    | cons e R =>
      have ne : (!((e :: R).map En.enc).reverse.isEmpty) = true := by
        rw [List.map_cons, List.reverse_cons]
        cases (R.map En.enc).reverse <;> rfl
      rw [ne]
      refine iteT ?_
      generalize hN : whL (mTru (mVar 3)) (loopB CA) D f = NX at ih ⊢
      have hR : ∀ e ∈ R, e.ok := fun y hy => ok y (List.mem_cons_of_mem _ hy)
      have he := ok e List.mem_cons_self
      have hm : mea (e :: R) = e.me + mea R := rfl
      have hv : catS ((e :: R).map En.val) = e.val ++ catS (R.map En.val) := rfl
      have hl := mea_len R
      -- a word is written
      have wrote : ∀ (z : Str) (e4 e5 e7 : Option W), z = e.val → 1 ≤ e.me → NX [some (.adr fa), some x, some (.ref S0.length), some (.ref (S0.length + 1)), e4, e5, some (.str z), e7] (st2 S0 (sg ++ [z]) R) := by
        intro z e4 e5 e7 hz h1
        refine ih R (sg ++ [z]) e4 e5 _ e7 (by omega) hR (by rw [List.length_append, List.length_singleton]; omega) ?_
        rw [catS_app, ← hT, hv, ← hz]
        show catS sg ++ (z ++ Str.empty) ++ _ = _
        rw [Str.append_empty, Str.append_assoc]
      unfold loopB
      simp only [mSeq, mAsg]
      unfold mBM0
      simp only [mVar, lk]
      refine ⟨isl_b, pop_b ?_⟩
      cases e with
      | sg z =>
        refine ⟨rfl, ?_⟩
        simp only [mgCons, mgNil, mgName, List.set]
        refine ⟨trivial, ?_⟩
        unfold mBM
        simp only [mSeq, mIfS, mRet, mRetN, mAsg, mDrop, mTest, mBin, mChain, mTru, mAnd, mOr, mNot, mAndV, mOrV, mNotV, mIf, mVar, mC, mCons, mNil, mTup, mLst, mCB, mgName, mNext, mIt, mPar, mAug, lk, wLen_tup, wLe_int, wLt_int, wGt_int, wEq_int, wNe_int, wEq_str, wNe_str, wIx_tup, wAt0, wAt1, wAt2, wAt3, oW_s, tru_bl, List.set]
        refine ifT ?_
        refine isN_ok ?_
        simp only [mSeq, mIfS, mRet, mRetN, mAsg, mDrop, mTest, mBin, mChain, mTru, mAnd, mOr, mNot, mAndV, mOrV, mNotV, mIf, mVar, mC, mCons, mNil, mTup, mLst, mCB, mgName, mNext, mIt, mPar, mAug, lk, wLen_tup, wLe_int, wLt_int, wGt_int, wEq_int, wNe_int, wEq_str, wNe_str, wIx_tup, wAt0, wAt1, wAt2, wAt3, oW_s, tru_bl, List.set]
        refine ifB (fun _ => ⟨isl_a, app_a (by omega) ?_⟩) fun e => by cases e
        exact wrote z _ _ _ rfl (Nat.le_refl 1)
      | th w =>
        have he : okG w := he
        refine ⟨rfl, ?_⟩
        simp only [mgCons, mgNil, mgName, List.set]
        refine ⟨trivial, ?_⟩
        unfold mBM
        simp only [mSeq, mIfS, mRet, mRetN, mAsg, mDrop, mTest, mBin, mChain, mTru, mAnd, mOr, mNot, mAndV, mOrV, mNotV, mIf, mVar, mC, mCons, mNil, mTup, mLst, mCB, mgName, mNext, mIt, mPar, mAug, lk, wLen_tup, wLe_int, wLt_int, wGt_int, wEq_int, wNe_int, wEq_str, wNe_str, wIx_tup, wAt0, wAt1, wAt2, wAt3, oW_s, tru_bl, List.set]
        refine iteF ?_
        unfold mCallL
        simp only [lk]
        refine ⟨WordC, hC, ?_⟩
        simp only [mSeq, mIfS, mRet, mRetN, mAsg, mDrop, mTest, mBin, mChain, mTru, mAnd, mOr, mNot, mAndV, mOrV, mNotV, mIf, mVar, mC, mCons, mNil, mTup, mLst, mCB, mgName, mNext, mIt, mPar, mAug, lk, wLen_tup, wLe_int, wLt_int, wGt_int, wEq_int, wNe_int, wEq_str, wNe_str, wIx_tup, wAt0, wAt1, wAt2, wAt3, oW_s, tru_bl, List.set]
        refine ⟨w, ⟨rfl, he⟩, fun w' S' ⟨e1, e2⟩ => ?_⟩
        subst e1
        subst e2
        refine isN_ok ?_
        rcases word_kind he with ⟨z, ez⟩ | ⟨l, rfl, hf1, ew⟩
        · rw [ez]
          simp only [mSeq, mIfS, mRet, mRetN, mAsg, mDrop, mTest, mBin, mChain, mTru, mAnd, mOr, mNot, mAndV, mOrV, mNotV, mIf, mVar, mC, mCons, mNil, mTup, mLst, mCB, mgName, mNext, mIt, mPar, mAug, lk, wLen_tup, wLe_int, wLt_int, wGt_int, wEq_int, wNe_int, wEq_str, wNe_str, wIx_tup, wAt0, wAt1, wAt2, wAt3, oW_s, tru_bl, List.set]
          refine ifB (fun _ => ⟨isl_a, app_a (by omega) ?_⟩) fun e => by cases e
          exact wrote z _ _ _ (word_some he ez) (cn_pos w)
        · rw [ew]
          simp only [mSeq, mIfS, mRet, mRetN, mAsg, mDrop, mTest, mBin, mChain, mTru, mAnd, mOr, mNot, mAndV, mOrV, mNotV, mIf, mVar, mC, mCons, mNil, mTup, mLst, mCB, mgName, mNext, mIt, mPar, mAug, lk, wLen_tup, wLe_int, wLt_int, wGt_int, wEq_int, wNe_int, wEq_str, wNe_str, wIx_tup, wAt0, wAt1, wAt2, wAt3, oW_s, tru_bl, List.set]
          refine ifB (fun e => by cases e) fun _ => ⟨isl_a, app_a (by omega) ⟨isl_b, by show 2 ≤ sizeLine; decide, app_b (e := .sg ")") rfl (by omega) ?_⟩⟩
          have hcn : (En.th (.tup l)).me = 2 + cns l := rfl
          have hm9 : mea (En.sg ")" :: R) = 1 + mea R := rfl
          refine push_for (.sg ")" :: R) he.1 (by omega) fun e7 => ?_
          have hm8 := mea_hd l (.sg ")" :: R)
          refine ih _ _ _ _ _ _ (by omega) (ok_hd l _ he.2 fun y hy => ?_) (by rw [List.length_append, List.length_singleton]; omega) ?_
          · rcases List.mem_cons.mp hy with rfl | hy
            · trivial
            · exact hR y hy
          · have e1 : wr (.tup l) = "(" ++ (wrH l ++ ")") := by
              show (if isFun l = true then ("fun" : Str) else "(" ++ (wrH l ++ ")")) = _
              rw [if_neg (by rw [hf1]; decide)]
            have e2 : (En.th (.tup l)).val = "(" ++ (wrH l ++ ")") := e1
            rw [val_hd, catS_app, ← hT, hv, e2]
            show catS sg ++ ("(" ++ Str.empty) ++ (wrH l ++ (")" ++ _)) = _
            simp only [Str.append_assoc, Str.append_empty]
theorem vc_written (hC : CA fa = some WordC) (h : okG x) (hc : cn x ≤ 80000) (hl : (wr x).length ≤ 16777216) {S : Store} (k : ∀ S', Ex S S' → D.rt (.str (wr x)) S') : m_x_written_by CA D [some (.adr fa), some x, none, none, none, none, none, none] S := by
  rw [written_eq]
  refine sa ⟨by show 0 ≤ sizeLine; decide, ?_⟩
  refine sa ⟨by show 2 ≤ sizeLine; decide, by show 1 ≤ sizeLine; decide, ?_⟩
  refine seq_ok ⟨cn x + 1, ?_⟩
  have e0 : S ++ [O.lst []] ++ [O.lst [.tup [.bl false, x]]] = st2 S [] [.th x] := by
    unfold st2
    rw [List.append_assoc]
    rfl
  rw [e0]
  have el : (S ++ [O.lst []]).length = S.length + 1 := by rw [List.length_append, List.length_singleton]
  rw [el]
  have key := loop82 (S0 := S) (D := { D with nx := fun e S' => mRet (mJoin (mC (.str "")) (mVar 2)) D e S' }) (fa := fa) (x := x) (CA := CA) (T := wr x) hC (fun sg e4 e5 e6 e7 hT hn => ?_) (cn x + 1) [.th x] [] none none none none (by show cn x + 0 < _; omega) (fun e he => by rw [List.mem_singleton.mp he]; exact h) (by show 0 + (cn x + 0) ≤ _; omega) (by show Str.empty ++ (wr x ++ Str.empty) = wr x; rw [Str.append_empty, Str.empty_append])
  · exact key
  · have e1 : seqW (.ref S.length) (st2 S sg []) = some (sg.map W.str) := by
      show (match (st2 S sg [])[S.length]? with | some (O.lst l) => some l | _ => none) = _
      rw [st2_a]
    show joinW "" (.ref S.length) (st2 S sg []) D.rt
    refine ⟨sg, e1, ?_, ?_⟩
    · rw [← catS_len, hT]
      show (wr x).length + sg.length * 0 ≤ _
      omega
    · rw [join_cat, hT]
      exact k _ ⟨_, rfl⟩
abbrev WrittenC (fa : Addr) : Con := ⟨W, fun x ws S => ws = [.adr fa, x] ∧ okG x ∧ cn x ≤ 80000 ∧ (wr x).length ≤ 16777216, fun x S w S' => w = .str (wr x) ∧ Ex S S'⟩
abbrev TextC : Con := ⟨W, fun x ws S => ws = [x] ∧ okG x ∧ cn x ≤ 80000 ∧ (wr x).length ≤ 16777216, fun x S w S' => w = .str (wr x) ∧ Ex S S'⟩
theorem vd_written (hC : CA fa = some WordC) : Vc 8 (m_x_written_by CA) (WrittenC fa) := fun x ws S ⟨e, h, h1, h2⟩ => by
  subst e
  exact vc_written hC h h1 h2 fun S' a => ⟨rfl, a⟩
theorem vd_seen_text : Vc 1 (m_seen_text (WrittenC fa) fa) TextC := fun x ws S ⟨e, h, h1, h2⟩ => by
  subst e
  exact ⟨x, ⟨rfl, h, h1, h2⟩, fun w S' z => z⟩
end
end Ev82

set_option Elab.async false
set_option linter.all false
set_option maxRecDepth 100000
set_option maxHeartbeats 4000000
/-! int(text); tuples a great many times. -/
namespace Ev
open PySem PySem.Spec PyProof.Rows L2 Ow
section
variable {X : Cx} {Tb : List Addr} {e o a b tg : Expr} {es : List Expr} {m mo ma mb : ME} {mr : MA} {p pos : Pos}
def wIntS : RCW := fun ws S Q => match ws with
  | [.str z] => ∃ n, PySem.intText? z = some n ∧ z.length ≤ 640 ∧ Q (.int n) S
  | _ => False
theorem mo_intS : MonoC wIntS := fun x S Q Q' k h => by
  unfold wIntS at h ⊢
  split at h
  · obtain ⟨n, a, b, c⟩ := h
    exact ⟨n, a, b, k _ _ c⟩
  · exact h.elim
theorem cl_intS {K : PySem.W.Frag} : CL K Tb (fun xs H Q => ∃ a n, xs = [V.str a] ∧ PySem.intText? a = some n ∧ a.length ≤ 640 ∧ Q (.int n) H) wIntS := fun ι S H ws vs Q Qv s r h k => by
  unfold wIntS at h
  split at h
  · obtain ⟨v, rfl, e⟩ := one_of r
    obtain rfl : v = .str _ := e
    obtain ⟨n, a, b, c⟩ := h
    exact ⟨_, n, rfl, a, b, k ι S H _ _ c s Grow.refl rfl⟩
  · exact h.elim
theorem e_intS (hg : Gl X "int") (hm : X.mg "int" = none) (ha : EA X Tb [e] mr) (he : starEach [e] X.env = (false, eval e X.env) :: starEach [] X.env := by rfl) (hpl : (backTo pos (starEach [] X.env)).any (·.1) = false := by rfl) : EE X Tb (.Call (.Name "int" p) [e] [] pos) (mCB wIntS mr) :=
  e_callTy call_int_str cl_intS mo_intS hg hm (by decide +kernel) ha (by decide) (by decide) he hpl
/-! ### (..) * k, k great -/
theorem paired_app : ∀ {xs ys : List V} {as bs : List Value}, Vals xs as → Vals ys bs → Vals (xs ++ ys) (as ++ bs)
  | _, _, _, _, .nil, k => k
  | _, _, _, _, .cons h t, k => .cons h (paired_app t k)
theorem paired_rep {xs : List V} {as : List Value} (h : Vals xs as) : ∀ n : Nat, Vals (List.replicate n xs).flatten (List.replicate n as).flatten
  | 0 => .nil
  | n + 1 => by
    rw [List.replicate_succ, List.replicate_succ, List.flatten_cons, List.flatten_cons]
    exact paired_app h (paired_rep h n)
def rRepB (K : PySem.W.Frag) : R2 := fun x y H Q => ∃ l k xs, x = .ref l ∧ y = .int k ∧ SqT K H l xs ∧ xs ≠ [] ∧ 2 ≤ k ∧ k ≤ 10000 ∧ xs.length ≤ 1000 ∧ ∀ p, H p = none → Q (.ref p) (upd H p (.tup (List.replicate k.toNat xs).flatten))
theorem flat_len {α : Type} (l : List α) : ∀ n : Nat, (List.replicate n l).flatten.length = n * l.length
  | 0 => by simp
  | n + 1 => by
    rw [List.replicate_succ, List.flatten_cons, List.length_append, flat_len l n, Nat.succ_mul]
    omega
theorem op_repB : OpR X (binaryOp .Mult) (rRepB X.K) := by
  intro pins s σ H x y v u Q I rx ry h
  obtain ⟨l, k, xs, rfl, rfl, hT, hne, h1, h2, h3, q⟩ := h
  cases rx
  obtain ⟨t, rfl⟩ := ry
  obtain ⟨its, r, ⟨⟨cls, dd, data, sl⟩, ho, hc, n, hd⟩, hs⟩ := I.tuple hT
  simp only at hc hd
  subst hc hd
  have hle : its.length = xs.length := r.length.symm
  have hn : its ≠ [] := fun e => hne (by
    rw [e] at hle
    exact List.eq_nil_of_length_eq_zero hle.symm)
  have hi : its.toArray.isEmpty = false := by
    cases its with
    | nil => exact absurd rfl hn
    | cons a b => rfl
  have c0 : (decide (k < -(2 ^ 63)) || decide (k ≥ 2 ^ 63)) = false := by
    rw [decide_eq_false (by omega), decide_eq_false (by omega)] <;> rfl
  have c1 : (its.toArray.isEmpty || k == 1) = false := by
    rw [hi, Bool.false_or]
    exact beq_eq_false_iff_ne.mpr (by omega)
  have c2 : (decide (k ≤ 0) || its.toArray.isEmpty) = false := by
    rw [decide_eq_false (by omega), hi]
    rfl
  have hz : its.toArray.size = its.length := List.size_toArray ..
  have hb : (its.length : Int) * k ≤ 1000 * 10000 := Int.mul_le_mul (by omega) h2 (by omega) (by omega)
  have hkn : (k.toNat : Int) = k := by omega
  have hnb : k.toNat * its.length ≤ 10000 * 1000 := Nat.mul_le_mul (by omega) (by omega)
  have c3 : ¬ ((its.toArray.size : Int) * k > (2 ^ 63 - 1) / 8) := by
    rw [hz]
    have : ((2 ^ 63 - 1) / 8 : Int) = 1152921504606846975 := by decide
    omega
  have c4 : Builtin.Tuple.tupleTooMany ((its.toArray.size : Int) * k) = false := by
    rw [hz]
    unfold Builtin.Tuple.tupleTooMany
    have : ((sizeLine : Nat) : Int) = 16777216 := rfl
    exact decide_eq_false (by omega)
  have e5 := size_rep its k.toNat
  have c5 : (List.foldl (fun x1 x2 => x1 ++ x2) #[] (List.replicate k.toNat its.toArray)).size ≤ sizeLine := by
    rw [e5, List.size_toArray, flat_len]
    have : sizeLine = 16777216 := rfl
    omega
  refine wpAny_binaryOp_repeat_ref (T := "tuple") (U := "int") (by decide) ⟨_, ho, rfl⟩ (fun s' => typeIs_int s' k t) noFill_tuple_mul F.fills_int_mul F.slot_int_rmul repeat_tuple F.slot_int_index.lookup
    (call_meets F.slot_int_rmul (typeIs_int s k t) F.entry_int_rmul (F.args_int_rmul_2 _ _) (int_rmul_tuple k t l its.toArray n dd sl)
      ⟨ho, rfl, ⟨_, ho, rfl⟩, call_meets F.slot_tuple_mul ⟨_, ho, rfl⟩ F.entry_tuple_mul (F.args_tuple_mul_2 _ _) (tuple_mulW l its.toArray n dd sl k t c0 c1 c2 c3 c4 c5) ⟨ho, ?_⟩⟩)
  refine ⟨.ref s.heap.objs.size, _, I.laid (t' := s.toks) (o := .tup (List.replicate k.toNat xs).flatten) (fun b ob q => Heap.get?_push_of_some _ q) (Nat.le_refl _) ?_, rfl, q _ (I.hok.fresh (Nat.le_refl _))⟩
  refine ⟨?_, (List.replicate k.toNat its).flatten, paired_rep r _, ?_⟩
  · rw [flat_len]
    have : sizeLine = 16777216 := rfl
    rw [← hle]
    omega
  · have := IsTup.new s.heap (List.foldl (fun x1 x2 => x1 ++ x2) #[] (List.replicate k.toNat its.toArray))
    rw [e5] at this ⊢
    exact this
def wRepB : R2W := fun x y S Q => match x, y with
  | .tup l, .int k => (l ≠ [] ∧ l.length ≤ 1000 ∧ 2 ≤ k ∧ k ≤ 10000) ∧ Q (.tup (List.replicate k.toNat l).flatten) S
  | _, _ => False
theorem mo_repB : MonoO wRepB := fun x y S Q Q' k h => by
  unfold wRepB at h ⊢
  split at h
  · exact ⟨h.1, k _ _ h.2⟩
  · exact h.elim
theorem rl_repB {K : PySem.W.Frag} : RL K Tb (fun x y H Q => rRepB K x y H Q) wRepB := fun ι S H w1 w2 v1 v2 Q Qv s r1 r2 h k => by
  unfold wRepB at h
  split at h
  · rename_i l i
    obtain ⟨⟨h1, h2, h3, h4⟩, q⟩ := h
    obtain ⟨a, vs, rfl, ha, ra⟩ := r1
    obtain rfl : v2 = _ := r2
    have hv : vs ≠ [] := fun e => h1 (List.eq_nil_of_length_eq_zero (by rw [← ra.len, e]; rfl))
    refine ⟨a, i, vs, rfl, rfl, ha, hv, h3, h4, by rw [ra.len]; exact h2, fun p np => ?_⟩
    obtain ⟨s', g'⟩ := s.tup (xs := (List.replicate i.toNat vs).flatten) np
    exact k ι S _ _ _ q s' g' ⟨p, _, rfl, .inl (.inl upd_same), vrs_rep (VRs.grow g' _ ra) _⟩
  · exact h.elim
theorem e_repB (ha : EE X Tb a ma) (hb : EE X Tb b mb) : EE X Tb (.BinOp a .Mult b pos) (mBin wRepB ma mb) := e_op op_repB rl_repB mo_repB ha hb
end
end Ev

set_option Elab.async false
set_option linter.all false
set_option maxRecDepth 100000
set_option maxHeartbeats 1000000
namespace Ev80
open PySem PySem.Spec PyProof.Rows L2 Ow Ev
def m_x_word_of_thing  : MS :=
  (mSeq (mIfS (mTru (mCB wIsi (mCons (mVar 0) (mCons (mC (.ty "tuple")) mNil))))
  (mRet (mC .non))
  mNext)
  (mRet (mIf (mTru (mCB wIsi (mCons (mVar 0) (mCons (mC (.ty "str")) mNil)))) (mVar 0) (mCB wStrC (mCons (mVar 0) mNil)))))
def m_x_written_by (CA : Addr → Option Con) : MS :=
  (mSeq (mAsg (mLst mNil) (mgName 2))
  (mSeq (mAsg (mLst (mCons (mTup (mCons (mC (.bl false)) (mCons (mVar 1) mNil))) mNil)) (mgName 3))
  (mSeq (mWh (mTru (mVar 3))
  (mSeq (mAsg (mBM0 wPop (mVar 3)) (mgTup 2 (mgCons (mgName 4) (mgCons (mgName 5) mgNil))))
  (mSeq (mAsg (mIf (mTru (mVar 4)) (mVar 5) (mCallL 0 CA (mCons (mVar 5) mNil))) (mgName 6))
  (mSeq (mIfS (mTest (mBin (wIsN true) (mVar 6) (mC .non)))
  (mSeq (mDrop (mBM wAppend (mVar 2) (mCons (mVar 6) mNil)))
  mCont)
  mNext)
  (mSeq (mDrop (mBM wAppend (mVar 2) (mCons (mC (.str "(")) mNil)))
  (mSeq (mDrop (mBM wAppend (mVar 3) (mCons (mTup (mCons (mC (.bl true)) (mCons (mC (.str ")")) mNil))) mNil)))
  (mFor (mRevR (mCB wLen (mCons (mVar 5) mNil))) (mgName 7)
  (mSeq (mDrop (mBM wAppend (mVar 3) (mCons (mTup (mCons (mC (.bl false)) (mCons (mBin wIx (mVar 5) (mVar 7)) mNil))) mNil)))
  (mIfS (mTest (mBin wGt (mVar 7) (mC (.int 0))))
  (mDrop (mBM wAppend (mVar 3) (mCons (mTup (mCons (mC (.bl true)) (mCons (mC (.str " ")) mNil))) mNil)))
  mNext)))))))))
  (mRet (mJoin (mC (.str "")) (mVar 2))))))
def m_written (C_x_written_by : Con) (a_x_word_of_thing : Addr) : MS :=
  (mRet (mCB (conR C_x_written_by) (mCons (mC (.adr a_x_word_of_thing)) (mCons (mVar 0) mNil))))
def m_x_sign_at  : MS :=
  (mRet (mSl (mVar 0) (mP (mVar 1)) (mP (mBin wAdd (mVar 1) (mC (.int 1))))))
def m_x_is_letter  : MS :=
  (mRet (mChain wLe wLe (mC (.str "a")) (mVar 0) (mC (.str "z"))))
def m_x_is_figure  : MS :=
  (mRet (mChain wLe wLe (mC (.str "0")) (mVar 0) (mC (.str "9"))))
def m_x_read_word (C_x_is_letter : Con) (C_x_sign_at : Con) : MS :=
  (mSeq (mAsg (mVar 1) (mgName 2))
  (mSeq (mWh (mAnd (mTru (mCB (conR C_x_is_letter) (mCons (mCB (conR C_x_sign_at) (mCons (mVar 0) (mCons (mVar 2) mNil))) mNil))) (mTest (mBin wLt (mBin wSub (mVar 2) (mVar 1)) (mC (.int (8))))))
  (mAug 2 (wInt (fun i j => i + j) fun _ _ => True) (mC (.int 1))))
  (mRet (mTup (mCons (mSl (mVar 0) (mP (mVar 1)) (mP (mVar 2))) (mCons (mVar 2) mNil))))))
def m_x_read_number (C_x_sign_at : Con) (C_x_is_figure : Con) : MS :=
  (mSeq (mAsg (mVar 1) (mgName 2))
  (mSeq (mAsg (mC (.int 1)) (mgName 3))
  (mSeq (mIfS (mTest (mBin wEq (mCB (conR C_x_sign_at) (mCons (mVar 0) (mCons (mVar 1) mNil))) (mC (.str "-"))))
  (mSeq (mAug 2 (wInt (fun i j => i + j) fun _ _ => True) (mC (.int 1)))
  (mSeq (mAsg (mNeg (mC (.int 1))) (mgName 3))
  (mIfS (mTest (mBin wEq (mCB (conR C_x_sign_at) (mCons (mVar 0) (mCons (mVar 2) mNil))) (mC (.str "0"))))
  mNever
  mNext)))
  mNext)
  (mSeq (mIfS (mNot (mTru (mCB (conR C_x_is_figure) (mCons (mCB (conR C_x_sign_at) (mCons (mVar 0) (mCons (mVar 2) mNil))) mNil))))
  mNever
  mNext)
  (mSeq (mAsg (mC (.int 0)) (mgName 4))
  (mSeq (mAsg (mVar 2) (mgName 5))
  (mSeq (mWh (mAnd (mTru (mCB (conR C_x_is_figure) (mCons (mCB (conR C_x_sign_at) (mCons (mVar 0) (mCons (mVar 2) mNil))) mNil))) (mOr (mTest (mBin wNe (mVar 4) (mC (.int 0)))) (mTest (mBin wEq (mVar 2) (mVar 5)))))
  (mSeq (mAsg (mBin wAdd (mBin wMul (mVar 4) (mC (.int 10))) (mBin wMul (mVar 3) (mCB wIntS (mCons (mCB (conR C_x_sign_at) (mCons (mVar 0) (mCons (mVar 2) mNil))) mNil)))) (mgName 6))
  (mSeq (mIfS (mNot (mTest (mChain wLe wLe (mC (.int (-1000000000000000000))) (mVar 6) (mC (.int (1000000000000000000))))))
  mBreak
  mNext)
  (mSeq (mAsg (mVar 6) (mgName 4))
  (mAug 2 (wInt (fun i j => i + j) fun _ _ => True) (mC (.int 1)))))))
  (mRet (mTup (mCons (mVar 4) (mCons (mVar 2) mNil)))))))))))
def m_x_read_part (C_x_is_letter : Con) (C_x_sign_at : Con) (C_x_read_word : Con) (C_x_read_number : Con) : MS :=
  (mSeq (mIfS (mTru (mCB (conR C_x_is_letter) (mCons (mCB (conR C_x_sign_at) (mCons (mVar 0) (mCons (mVar 1) mNil))) mNil)))
  (mRet (mCB (conR C_x_read_word) (mCons (mVar 0) (mCons (mVar 1) mNil))))
  mNext)
  (mRet (mCB (conR C_x_read_number) (mCons (mVar 0) (mCons (mVar 1) mNil)))))
def m_x_close (C_x_sign_at : Con) : MS :=
  (mSeq (mWh (mTest (mBin wEq (mCB (conR C_x_sign_at) (mCons (mVar 0) (mCons (mVar 1) mNil))) (mC (.str ")"))))
  (mSeq (mAug 1 (wInt (fun i j => i + j) fun _ _ => True) (mC (.int 1)))
  (mSeq (mAsg (mCB wTuple (mCons (mBM0 wPop (mVar 2)) mNil)) (mgName 3))
  (mSeq (mIfS (mNot (mTru (mVar 2)))
  (mRet (mTup (mCons (mVar 3) (mCons (mVar 1) mNil))))
  mNext)
  (mDrop (mBM wAppend (mBin wIx (mVar 2) (mNeg (mC (.int 1)))) (mCons (mVar 3) mNil)))))))
  (mRet (mTup (mCons (mC .non) (mCons (mVar 1) mNil)))))
def m_read (C_x_sign_at : Con) (C_x_read_part : Con) (C_x_close : Con) : MS :=
  (mSeq (mAsg (mLst mNil) (mgName 1))
  (mSeq (mAsg (mC .non) (mgName 2))
  (mSeq (mAsg (mC (.int 0)) (mgName 3))
  (mSeq (mWh (mTest (mBin (wIsN false) (mVar 2) (mC .non)))
  (mSeq (mIfS (mAnd (mTest (mBin wEq (mCB (conR C_x_sign_at) (mCons (mVar 0) (mCons (mVar 3) mNil))) (mC (.str "(")))) (mTest (mBin wLt (mCB wLen (mCons (mVar 1) mNil)) (mC (.int (200))))))
  (mSeq (mDrop (mBM wAppend (mVar 1) (mCons (mLst mNil) mNil)))
  (mSeq (mAug 3 (wInt (fun i j => i + j) fun _ _ => True) (mC (.int 1)))
  (mIfS (mTest (mBin wNe (mCB (conR C_x_sign_at) (mCons (mVar 0) (mCons (mVar 3) mNil))) (mC (.str ")"))))
  mCont
  mNext)))
  (mIfS (mTru (mVar 1))
  (mSeq (mAsg (mCB (conR C_x_read_part) (mCons (mVar 0) (mCons (mVar 3) mNil))) (mgTup 2 (mgCons (mgName 4) (mgCons (mgName 3) mgNil))))
  (mDrop (mBM wAppend (mBin wIx (mVar 1) (mNeg (mC (.int 1)))) (mCons (mVar 4) mNil))))
  mNever))
  (mSeq (mAsg (mCB (conR C_x_close) (mCons (mVar 0) (mCons (mVar 3) (mCons (mVar 1) mNil)))) (mgTup 2 (mgCons (mgName 2) (mgCons (mgName 3) mgNil))))
  (mIfS (mTest (mBin (wIsN false) (mVar 2) (mC .non)))
  (mSeq (mIfS (mTest (mBin wNe (mCB (conR C_x_sign_at) (mCons (mVar 0) (mCons (mVar 3) mNil))) (mC (.str " "))))
  mNever
  mNext)
  (mAug 3 (wInt (fun i j => i + j) fun _ _ => True) (mC (.int 1))))
  mNext))))
  (mSeq (mIfS (mTest (mBin wLt (mVar 3) (mCB wLen (mCons (mVar 0) mNil))))
  mNever
  mNext)
  (mRet (mVar 2)))))))
def m_x_law_roll  : MS :=
  (mSeq (mIfS (mTest (mBin wEq (mBin wIx (mVar 0) (mC (.int 2))) (mC (.int 0))))
  (mSeq (mAsg (mBin wIx (mVar 0) (mC (.int 1))) (mgName 2))
  (mSeq (mAsg (mBin wAdd (mVar 2) (mC (.int 1))) (mgSub (mVar 0) (mC (.int 1))))
  (mSeq (mAsg (mC (.int 0)) (mgName 3))
  (mSeq (mIfS (mTest (mBin wNe (mBin wIx (mVar 0) (mC (.int 0))) (mLst mNil)))
  (mAsg (mBin wIx (mBin wIx (mVar 0) (mC (.int 0))) (mBin wMod (mVar 2) (mCB wLen (mCons (mBin wIx (mVar 0) (mC (.int 0))) mNil)))) (mgName 3))
  mNext)
  (mSeq (mIfS (mOr (mTest (mBin wGe (mVar 2) (mCB wLen (mCons (mBin wIx (mVar 0) (mC (.int 0))) mNil)))) (mTest (mBin wLt (mVar 3) (mBin wPow (mC (.int 10)) (mC (.int 18))))))
  (mSeq (mAsg (mBin wMod (mBin wMul (mBin wAdd (mBin wMod (mVar 3) (mC (.int 999953))) (mC (.int 37))) (mBin wAdd (mBin wAdd (mBin wMul (mVar 2) (mVar 2)) (mBin wMul (mC (.int 79)) (mVar 2))) (mC (.int 4001)))) (mC (.int 1000003))) (mgName 4))
  (mSeq (mAsg (mBin wMod (mBin wPow (mVar 4) (mC (.int 3))) (mC (.int 998244353))) (mgName 4))
  (mRet (mBin wMod (mBin wFdivX (mBin wMod (mBin wAdd (mVar 4) (mBin wMul (mC (.int 7109)) (mVar 2))) (mC (.int 1000033))) (mC (.int 2))) (mVar 1)))))
  mNext)
  (mSeq (mAsg (mC (.int 30)) (mgSub (mVar 0) (mC (.int 2))))
  (mAsg (mBin wSub (mVar 3) (mBin wPow (mC (.int 10)) (mC (.int 18)))) (mgSub (mVar 0) (mC (.int 3))))))))))
  mNext)
  (mSeq (mAsg (mBin wSub (mBin wIx (mVar 0) (mC (.int 2))) (mC (.int 1))) (mgSub (mVar 0) (mC (.int 2))))
  (mSeq (mAsg (mBin wIx (mVar 0) (mC (.int 3))) (mgName 5))
  (mSeq (mAsg (mBin wFdivX (mVar 5) (mVar 1)) (mgSub (mVar 0) (mC (.int 3))))
  (mRet (mBin wMod (mVar 5) (mVar 1)))))))
def m_x_law_pick (C_x_law_roll : Con) : MS :=
  (mRet (mBin wIx (mVar 1) (mCB (conR C_x_law_roll) (mCons (mVar 0) (mCons (mCB wLen (mCons (mVar 1) mNil)) mNil)))))
def m_x_law_word (C_x_law_roll : Con) : MS :=
  (mRet (mBin wAdd (mBin wIx (mC (.str "abcdefghijklmnopqrstuvwxyz")) (mCB (conR C_x_law_roll) (mCons (mVar 0) (mCons (mC (.int 26)) mNil)))) (mSl (mC (.str "nowletup")) mNoP (mP (mCB (conR C_x_law_roll) (mCons (mVar 0) (mCons (mC (.int 8)) mNil)))))))
def m_x_law_leaf (C_x_law_roll : Con) (C_x_law_word : Con) : MS :=
  (mSeq (mAsg (mCB (conR C_x_law_roll) (mCons (mVar 0) (mCons (mC (.int 6)) mNil))) (mgName 1))
  (mSeq (mIfS (mTest (mBin wLt (mVar 1) (mC (.int 3))))
  (mRet (mCB (conR C_x_law_word) (mCons (mVar 0) mNil)))
  mNext)
  (mSeq (mAsg (mLst (mCons (mBin wSub (mCB (conR C_x_law_roll) (mCons (mVar 0) (mCons (mC (.int 30)) mNil))) (mC (.int 15))) (mCons (mBin wSub (mCB (conR C_x_law_roll) (mCons (mVar 0) (mCons (mBin wAdd (mBin wMul (mC (.int 2)) (mBin wPow (mC (.int 10)) (mC (.int 18)))) (mC (.int 1))) mNil))) (mBin wPow (mC (.int 10)) (mC (.int 18)))) mNil))) (mgName 2))
  (mRet (mBin wIx (mBin wAdd (mVar 2) (mLst (mCons (mBin wMul (mBin wPow (mC (.int 10)) (mC (.int 18))) (mBin wSub (mC (.int 1)) (mBin wMul (mC (.int 2)) (mCB (conR C_x_law_roll) (mCons (mVar 0) (mCons (mC (.int 2)) mNil)))))) mNil))) (mBin wSub (mVar 1) (mC (.int 3))))))))
def m_x_law_thing (C_x_law_roll : Con) (C_x_law_leaf : Con) (C_x_law_thing : Con) : MS :=
  (mSeq (mAsg (mLst mNil) (mgName 2))
  (mSeq (mFor (mRg1 (mCons (mCB (conR C_x_law_roll) (mCons (mVar 0) (mCons (mC (.int 5)) mNil))) mNil)) (mgName 3)
  (mIfS (mOr (mTest (mBin wEq (mVar 1) (mC (.int 0)))) (mTest (mBin wGt (mCB (conR C_x_law_roll) (mCons (mVar 0) (mCons (mC (.int 3)) mNil))) (mC (.int 0)))))
  (mDrop (mBM wAppend (mVar 2) (mCons (mCB (conR C_x_law_leaf) (mCons (mVar 0) mNil)) mNil)))
  (mDrop (mBM wAppend (mVar 2) (mCons (mCB (conR C_x_law_thing) (mCons (mVar 0) (mCons (mBin wSub (mVar 1) (mC (.int 1))) mNil))) mNil)))))
  (mRet (mCB wTuple (mCons (mVar 2) mNil)))))
def m_x_law_text (C_x_law_text : Con) : MS :=
  (mSeq (mIfS (mNot (mTru (mCB wIsi (mCons (mVar 0) (mCons (mC (.ty "tuple")) mNil)))))
  (mRet (mIf (mTru (mCB wIsi (mCons (mVar 0) (mCons (mC (.ty "str")) mNil)))) (mVar 0) (mCB wStrC (mCons (mVar 0) mNil))))
  mNext)
  (mRet (mBin wAdd (mBin wAdd (mC (.str "(")) (mJoin (mC (.str " ")) (mLc (mIt (mVar 0)) (mgName 1) mYes (mCB (conR C_x_law_text) (mCons (mVar 1) mNil)) [1]))) (mC (.str ")")))))
def m_x_law_kinds (C_x_law_kinds : Con) : MS :=
  (mSeq (mIfS (mTru (mCB wIsi (mCons (mVar 0) (mCons (mC (.ty "tuple")) mNil))))
  (mRet (mCB wAllL (mCons (mLc (mIt (mVar 0)) (mgName 1) mYes (mCB (conR C_x_law_kinds) (mCons (mVar 1) mNil)) [1]) mNil)))
  mNext)
  (mRet (mOrV (mCB wIsi (mCons (mVar 0) (mCons (mC (.ty "str")) mNil))) (mAndV (mCB wIsi (mCons (mVar 0) (mCons (mC (.ty "int")) mNil))) (mNotV (mCB wIsi (mCons (mVar 0) (mCons (mC (.ty "bool")) mNil))))))))
def m_x_law_right (C_written : Con) (C_read : Con) (C_x_law_kinds : Con) : MS :=
  (mSeq (mIfS (mTest (mBin (wEqX 3000 true) (mCB (conR C_written) (mCons (mVar 0) mNil)) (mVar 1)))
  (mRet (mC (.bl false)))
  mNext)
  (mSeq (mAsg (mCB (conR C_read) (mCons (mVar 1) mNil)) (mgName 2))
  (mRet (mAndV (mBin (wEqX 3000 false) (mVar 2) (mVar 0)) (mCB (conR C_x_law_kinds) (mCons (mVar 2) mNil))))))
def m_law (C_x_law_thing : Con) (C_x_law_right : Con) (C_x_law_text : Con) (C_written : Con) (C_x_law_leaf : Con) (C_x_law_roll : Con) (C_x_law_pick : Con) : MS :=
  (mSeq (mAsg (mLst (mCons (mCB wList (mCons (mSl (mVar 0) mNoP (mP (mC (.int 63)))) mNil)) (mCons (mC (.int 0)) (mCons (mC (.int 0)) (mCons (mC (.int 0)) mNil))))) (mgName 1))
  (mSeq (mFor (mRg1 (mCons (mC (.int 4)) mNil)) (mgName 2)
  (mSeq (mAsg (mCB (conR C_x_law_thing) (mCons (mVar 1) (mCons (mC (.int 3)) mNil))) (mgName 3))
  (mSeq (mIfS (mOr (mNot (mTru (mCB (conR C_x_law_right) (mCons (mVar 3) (mCons (mCB (conR C_x_law_text) (mCons (mVar 3) mNil)) mNil))))) (mTest (mBin wNe (mCB (conR C_written) (mCons (mVar 3) mNil)) (mCB (conR C_x_law_text) (mCons (mVar 3) mNil)))))
  (mRet (mC (.bl false)))
  mNext)
  (mSeq (mAsg (mCB (conR C_x_law_leaf) (mCons (mVar 1) mNil)) (mgName 4))
  (mIfS (mTest (mBin wNe (mCB (conR C_written) (mCons (mVar 4) mNil)) (mCB (conR C_x_law_text) (mCons (mVar 4) mNil))))
  (mRet (mC (.bl false)))
  mNext)))))
  (mSeq (mAsg (mBin wAdd (mC (.int 1)) (mCB (conR C_x_law_roll) (mCons (mVar 1) (mCons (mC (.int 200)) mNil)))) (mgName 5))
  (mSeq (mAsg (mTup (mCons (mTup mNil) (mCons (mC (.str "()")) mNil))) (mgTup 2 (mgCons (mgName 6) (mgCons (mgName 7) mgNil))))
  (mSeq (mFor (mRg1 (mCons (mBin wSub (mCB (conR C_x_law_pick) (mCons (mVar 1) (mCons (mLst (mCons (mVar 5) (mCons (mC (.int 200)) mNil))) mNil))) (mC (.int 1))) mNil)) (mgName 8)
  (mSeq (mAsg (mBin wIx (mLst (mCons (mTup mNil) (mCons (mTup (mCons (mC (.str "a")) mNil)) (mCons (mTup (mCons (mBin wSub (mC (.int 0)) (mVar 8)) mNil)) mNil)))) (mCB (conR C_x_law_roll) (mCons (mVar 1) (mCons (mC (.int 3)) mNil)))) (mgName 9))
  (mSeq (mAsg (mBin wAdd (mVar 9) (mTup (mCons (mVar 6) mNil))) (mgName 6))
  (mAsg (mBin wAdd (mBin wAdd (mBin wAdd (mC (.str "(")) (mJoin (mC (.str "")) (mLc (mIt (mVar 9)) (mgName 11) mYes (mBin wAdd (mCB (conR C_x_law_text) (mCons (mVar 11) mNil)) (mC (.str " "))) [11]))) (mVar 7)) (mC (.str ")"))) (mgName 7)))))
  (mSeq (mAsg (mBin wAdd (mTup (mCons (mC (.str "a")) mNil)) (mBin wRepB (mTup (mCons (mC (.int 7)) mNil)) (mC (.int 2000)))) (mgName 10))
  (mRet (mAndV (mCB (conR C_x_law_right) (mCons (mVar 6) (mCons (mVar 7) mNil))) (mCB (conR C_x_law_right) (mCons (mVar 10) (mCons (mBin wAdd (mBin wAdd (mC (.str "(a")) (mBin wMul (mC (.str " 7")) (mC (.int 2000)))) (mC (.str ")"))) mNil)))))))))))
end Ev80

set_option Elab.async false
set_option linter.all false
set_option maxRecDepth 100000
set_option maxHeartbeats 1000000
/-! What is written, where there is no None and no ('fun',). -/
namespace Ev80
open PySem PySem.Spec PyProof.Rows L2 Ow Ev OwT EvT
open Ev82 (Vc catS catS_app catS_len join_cat isFun okG okGs wr wrH wrT cn cns cn_pos En mea mea_len mea_hd val_hd hdE tlE st2 st2_a st2_b app_a app_b pop_b isl_a isl_b loopB push_for isN_ok nonB word0 rr_succ)
mutual
def ok8 : W → Prop
  | .int _ => True
  | .str _ => True
  | .tup l => isFun l = false ∧ ok8s l
  | _ => False
def ok8s : List W → Prop
  | [] => True
  | w :: r => ok8 w ∧ ok8s r
end
structure Ok (w : W) : Prop where
  g : okG w
  n : ok8 w
structure Oks (l : List W) : Prop where
  g : okGs l
  n : ok8s l
def eok : En → Prop
  | .sg _ => True
  | .th w => Ok w
theorem eok_tl : ∀ (l : List W) (R : List En), Oks l → (∀ e ∈ R, eok e) → ∀ e ∈ tlE l R, eok e
  | [], R, _, h => h
  | w :: r, R, h, k => fun e he => by
    rcases List.mem_cons.mp he with rfl | he
    · trivial
    · rcases List.mem_cons.mp he with rfl | he
      · exact ⟨h.g.1, h.n.1⟩
      · exact eok_tl r R ⟨h.g.2, h.n.2⟩ k e he
theorem eok_hd : ∀ (l : List W) (R : List En), Oks l → (∀ e ∈ R, eok e) → ∀ e ∈ hdE l R, eok e
  | [], R, _, h => h
  | w :: r, R, h, k => fun e he => by
    rcases List.mem_cons.mp he with rfl | he
    · exact ⟨h.g.1, h.n.1⟩
    · exact eok_tl r R ⟨h.g.2, h.n.2⟩ k e he
abbrev WordC : Con := ⟨W, fun x ws S => ws = [x] ∧ Ok x, fun x S w S' => w = word0 x ∧ S' = S⟩
theorem vd_word : Vc 1 m_x_word_of_thing WordC := fun x ws S ⟨e, h⟩ => by
  subst e
  have key := Ev82.vd_word0 x [x] S ⟨rfl, h.g, by cases x <;> first | trivial | exact h.n.elim⟩
  exact key
theorem word_some {w : W} {z : Str} (h : Ok w) (e : word0 w = .str z) : z = wr w := by
  cases w with
  | int i => cases e; rfl
  | str x => cases e; rfl
  | tup l => cases e
  | _ => exact h.n.elim
theorem word_kind {w : W} (h : Ok w) : (∃ z, word0 w = .str z) ∨ ∃ l, w = .tup l ∧ isFun l = false ∧ word0 w = .non := by
  cases w with
  | int i => exact .inl ⟨_, rfl⟩
  | str x => exact .inl ⟨_, rfl⟩
  | tup l => exact .inr ⟨l, rfl, h.n.1, rfl⟩
  | _ => exact h.n.elim
section
variable {S0 : Store} {D : MD} {fa : Addr} {x : W} {CA : Addr → Option Con} {T : Str}
theorem loop80 (hC : CA fa = some WordC) (k : ∀ (sg : List Str) e4 e5 e6 e7, catS sg = T → sg.length ≤ 90000 → D.nx [some (.adr fa), some x, some (.ref S0.length), some (.ref (S0.length + 1)), e4, e5, e6, e7] (st2 S0 sg [])) :
    ∀ (f : Nat) (R : List En) (sg : List Str) (e4 e5 e6 e7 : Option W), mea R < f → (∀ e ∈ R, eok e) → sg.length + mea R ≤ 90000 → catS sg ++ catS (R.map En.val) = T →
      whL (mTru (mVar 3)) (loopB CA) D f [some (.adr fa), some x, some (.ref S0.length), some (.ref (S0.length + 1)), e4, e5, e6, e7] (st2 S0 sg R)
  | 0, R, sg, e4, e5, e6, e7, hf, _, _, _ => by omega
  | f + 1, R, sg, e4, e5, e6, e7, hf, ok, hs, hT => by
    have ih := loop80 hC k f
    unfold whL
    simp only [mTru, mVar, lk, Ev.wTru]
    rw [st2_b]
    simp only [oTru]
    cases R with
    | nil =>
      refine iteF ?_
      rw [show catS (([] : List En).map En.val) = Str.empty from rfl, Str.append_empty] at hT
      exact k sg e4 e5 e6 e7 hT (by omega)
    | cons e R =>
      have ne : (!((e :: R).map En.enc).reverse.isEmpty) = true := by
        rw [List.map_cons, List.reverse_cons]
        cases (R.map En.enc).reverse <;> rfl
      rw [ne]
      refine iteT ?_
      generalize hN : whL (mTru (mVar 3)) (loopB CA) D f = NX at ih ⊢
      have hR : ∀ e ∈ R, eok e := fun y hy => ok y (List.mem_cons_of_mem _ hy)
      have he := ok e List.mem_cons_self
      have hm : mea (e :: R) = e.me + mea R := rfl
      have hv : catS ((e :: R).map En.val) = e.val ++ catS (R.map En.val) := rfl
      have hl := mea_len R
      -- a word is written
      have wrote : ∀ (z : Str) (e4 e5 e7 : Option W), z = e.val → 1 ≤ e.me → NX [some (.adr fa), some x, some (.ref S0.length), some (.ref (S0.length + 1)), e4, e5, some (.str z), e7] (st2 S0 (sg ++ [z]) R) := by
        intro z e4 e5 e7 hz h1
        refine ih R (sg ++ [z]) e4 e5 _ e7 (by omega) hR (by rw [List.length_append, List.length_singleton]; omega) ?_
        rw [catS_app, ← hT, hv, ← hz]
        show catS sg ++ (z ++ Str.empty) ++ _ = _
        rw [Str.append_empty, Str.append_assoc]
      unfold loopB
      simp only [mSeq, mAsg]
      unfold mBM0
      simp only [mVar, lk]
      refine ⟨isl_b, pop_b ?_⟩
      cases e with
      | sg z =>
        refine ⟨rfl, ?_⟩
        simp only [mgCons, mgNil, mgName, List.set]
        refine ⟨trivial, ?_⟩
        unfold mBM
        simp only [mSeq, mIfS, mRet, mRetN, mAsg, mDrop, mTest, mBin, mChain, mTru, mAnd, mOr, mNot, mAndV, mOrV, mNotV, mIf, mVar, mC, mCons, mNil, mTup, mLst, mCB, mgName, mNext, mIt, mPar, mAug, lk, wLen_tup, wLe_int, wLt_int, wGt_int, wEq_int, wNe_int, wEq_str, wNe_str, wIx_tup, wAt0, wAt1, wAt2, wAt3, oW_s, tru_bl, List.set]
        refine ifT ?_
        refine isN_ok ?_
        simp only [mSeq, mIfS, mRet, mRetN, mAsg, mDrop, mTest, mBin, mChain, mTru, mAnd, mOr, mNot, mAndV, mOrV, mNotV, mIf, mVar, mC, mCons, mNil, mTup, mLst, mCB, mgName, mNext, mIt, mPar, mAug, lk, wLen_tup, wLe_int, wLt_int, wGt_int, wEq_int, wNe_int, wEq_str, wNe_str, wIx_tup, wAt0, wAt1, wAt2, wAt3, oW_s, tru_bl, List.set]
        refine ifB (fun _ => ⟨isl_a, app_a (by omega) ?_⟩) fun e => by cases e
        exact wrote z _ _ _ rfl (Nat.le_refl 1)
      | th w =>
        have he : Ok w := he
        refine ⟨rfl, ?_⟩
        simp only [mgCons, mgNil, mgName, List.set]
        refine ⟨trivial, ?_⟩
        unfold mBM
        simp only [mSeq, mIfS, mRet, mRetN, mAsg, mDrop, mTest, mBin, mChain, mTru, mAnd, mOr, mNot, mAndV, mOrV, mNotV, mIf, mVar, mC, mCons, mNil, mTup, mLst, mCB, mgName, mNext, mIt, mPar, mAug, lk, wLen_tup, wLe_int, wLt_int, wGt_int, wEq_int, wNe_int, wEq_str, wNe_str, wIx_tup, wAt0, wAt1, wAt2, wAt3, oW_s, tru_bl, List.set]
        refine iteF ?_
        unfold mCallL
        simp only [lk]
        refine ⟨WordC, hC, ?_⟩
        simp only [mSeq, mIfS, mRet, mRetN, mAsg, mDrop, mTest, mBin, mChain, mTru, mAnd, mOr, mNot, mAndV, mOrV, mNotV, mIf, mVar, mC, mCons, mNil, mTup, mLst, mCB, mgName, mNext, mIt, mPar, mAug, lk, wLen_tup, wLe_int, wLt_int, wGt_int, wEq_int, wNe_int, wEq_str, wNe_str, wIx_tup, wAt0, wAt1, wAt2, wAt3, oW_s, tru_bl, List.set]
        refine ⟨w, ⟨rfl, he⟩, fun w' S' ⟨e1, e2⟩ => ?_⟩
        subst e1
        subst e2
        refine isN_ok ?_
        rcases word_kind he with ⟨z, ez⟩ | ⟨l, rfl, hf1, ew⟩
        · rw [ez]
          simp only [mSeq, mIfS, mRet, mRetN, mAsg, mDrop, mTest, mBin, mChain, mTru, mAnd, mOr, mNot, mAndV, mOrV, mNotV, mIf, mVar, mC, mCons, mNil, mTup, mLst, mCB, mgName, mNext, mIt, mPar, mAug, lk, wLen_tup, wLe_int, wLt_int, wGt_int, wEq_int, wNe_int, wEq_str, wNe_str, wIx_tup, wAt0, wAt1, wAt2, wAt3, oW_s, tru_bl, List.set]
          refine ifB (fun _ => ⟨isl_a, app_a (by omega) ?_⟩) fun e => by cases e
          exact wrote z _ _ _ (word_some he ez) (cn_pos w)
        · rw [ew]
          simp only [mSeq, mIfS, mRet, mRetN, mAsg, mDrop, mTest, mBin, mChain, mTru, mAnd, mOr, mNot, mAndV, mOrV, mNotV, mIf, mVar, mC, mCons, mNil, mTup, mLst, mCB, mgName, mNext, mIt, mPar, mAug, lk, wLen_tup, wLe_int, wLt_int, wGt_int, wEq_int, wNe_int, wEq_str, wNe_str, wIx_tup, wAt0, wAt1, wAt2, wAt3, oW_s, tru_bl, List.set]
          refine ifB (fun e => by cases e) fun _ => ⟨isl_a, app_a (by omega) ⟨isl_b, by show 2 ≤ sizeLine; decide, app_b (e := .sg ")") rfl (by omega) ?_⟩⟩
          have hcn : (En.th (.tup l)).me = 2 + cns l := rfl
          have hm9 : mea (En.sg ")" :: R) = 1 + mea R := rfl
          refine push_for (.sg ")" :: R) he.g.1 (by omega) fun e7 => ?_
          have hm8 := mea_hd l (.sg ")" :: R)
          refine ih _ _ _ _ _ _ (by omega) (eok_hd l _ ⟨he.g.2, he.n.2⟩ fun y hy => ?_) (by rw [List.length_append, List.length_singleton]; omega) ?_
          · rcases List.mem_cons.mp hy with rfl | hy
            · trivial
            · exact hR y hy
          · have e1 : wr (.tup l) = "(" ++ (wrH l ++ ")") := by
              show (if isFun l = true then ("fun" : Str) else "(" ++ (wrH l ++ ")")) = _
              rw [if_neg (by rw [hf1]; decide)]
            have e2 : (En.th (.tup l)).val = "(" ++ (wrH l ++ ")") := e1
            rw [val_hd, catS_app, ← hT, hv, e2]
            show catS sg ++ ("(" ++ Str.empty) ++ (wrH l ++ (")" ++ _)) = _
            simp only [Str.append_assoc, Str.append_empty]
theorem vc_written (hC : CA fa = some WordC) (h : Ok x) (hc : cn x ≤ 80000) (hl : (wr x).length ≤ 16777216) {S : Store} (k : ∀ S', Ex S S' → D.rt (.str (wr x)) S') : m_x_written_by CA D [some (.adr fa), some x, none, none, none, none, none, none] S := by
  show Ev82.m_x_written_by CA D _ S
  rw [Ev82.written_eq]
  refine sa ⟨by show 0 ≤ sizeLine; decide, ?_⟩
  refine sa ⟨by show 2 ≤ sizeLine; decide, by show 1 ≤ sizeLine; decide, ?_⟩
  refine seq_ok ⟨cn x + 1, ?_⟩
  have e0 : S ++ [O.lst []] ++ [O.lst [.tup [.bl false, x]]] = st2 S [] [.th x] := by
    unfold st2
    rw [List.append_assoc]
    rfl
  rw [e0]
  have el : (S ++ [O.lst []]).length = S.length + 1 := by rw [List.length_append, List.length_singleton]
  rw [el]
  have key := loop80 (S0 := S) (D := { D with nx := fun e S' => mRet (mJoin (mC (.str "")) (mVar 2)) D e S' }) (fa := fa) (x := x) (CA := CA) (T := wr x) hC (fun sg e4 e5 e6 e7 hT hn => ?_) (cn x + 1) [.th x] [] none none none none (by show cn x + 0 < _; omega) (fun e he => by rw [List.mem_singleton.mp he]; exact h) (by show 0 + (cn x + 0) ≤ _; omega) (by show Str.empty ++ (wr x ++ Str.empty) = wr x; rw [Str.append_empty, Str.empty_append])
  · exact key
  · have e1 : seqW (.ref S.length) (st2 S sg []) = some (sg.map W.str) := by
      show (match (st2 S sg [])[S.length]? with | some (O.lst l) => some l | _ => none) = _
      rw [st2_a]
    show joinW "" (.ref S.length) (st2 S sg []) D.rt
    refine ⟨sg, e1, ?_, ?_⟩
    · rw [← catS_len, hT]
      show (wr x).length + sg.length * 0 ≤ _
      omega
    · rw [join_cat, hT]
      exact k _ ⟨_, rfl⟩
abbrev WrittenC (fa : Addr) : Con := ⟨W, fun x ws S => ws = [.adr fa, x] ∧ Ok x ∧ cn x ≤ 80000 ∧ (wr x).length ≤ 16777216, fun x S w S' => w = .str (wr x) ∧ Ex S S'⟩
abbrev TextC : Con := ⟨W, fun x ws S => ws = [x] ∧ Ok x ∧ cn x ≤ 80000 ∧ (wr x).length ≤ 16777216, fun x S w S' => w = .str (wr x) ∧ Ex S S'⟩
theorem vd_written_by (hC : CA fa = some WordC) : Vc 8 (m_x_written_by CA) (WrittenC fa) := fun x ws S ⟨e, h, h1, h2⟩ => by
  subst e
  exact vc_written hC h h1 h2 fun S' a => ⟨rfl, a⟩
theorem vd_written : Vc 1 (m_written (WrittenC fa) fa) TextC := fun x ws S ⟨e, h, h1, h2⟩ => by
  subst e
  exact ⟨x, ⟨rfl, h, h1, h2⟩, fun w S' z => z⟩
end
end Ev80

set_option Elab.async false
set_option linter.all false
set_option maxRecDepth 100000
set_option maxHeartbeats 1000000
/-! What is read: the machine, and that it reads what is written. -/
namespace Ev80
open PySem PySem.Spec PyProof.Rows L2 Ow Ev OwT EvT
open Ev82 (isFun okG okGs wr wrH wrT cn cns cn_pos)
abbrev cl (z : Str) : List Nat := z.cps.toList
theorem cl_app (a b : Str) : cl (a ++ b) = cl a ++ cl b := Array.toList_append
def isL (c : Nat) : Bool := decide (97 ≤ c ∧ c ≤ 122)
def isD (c : Nat) : Bool := decide (48 ≤ c ∧ c ≤ 57)
def hd (p : Nat → Bool) : List Nat → Bool
  | [] => false
  | c :: _ => p c
/-- the value of figures -/
def va (ds : List Nat) : Nat := ds.foldl (fun n d => n * 10 + d) 0
def fg (ds : List Nat) : List Nat := ds.map (48 + ·)
/-- a part that is no tuple, and its signs -/
inductive Lf : W → List Nat → Prop
  | wd (z : Str) : 1 ≤ z.length → z.length ≤ 8 → (∀ c ∈ cl z, isL c = true) → Lf (.str z) (cl z)
  | pos (ds : List Nat) : ds ≠ [] → (∀ d ∈ ds, d < 10) → (ds.head? = some 0 → ds = [0]) → va ds ≤ 10 ^ 18 → Lf (.int (va ds)) (fg ds)
  | neg (ds : List Nat) : ds ≠ [] → (∀ d ∈ ds, d < 10) → ds.head? ≠ some 0 → va ds ≤ 10 ^ 18 → Lf (.int (-(va ds : Int))) (45 :: fg ds)
/-- what may follow a part -/
def stop (r : List Nat) : Prop := ∃ c r', r = c :: r' ∧ (c = 32 ∨ c = 41)
/-- shuts as many as there are -/
def cls : List Nat → List (List W) → Option W × List Nat × List (List W)
  | 41 :: r, [d] => (some (.tup d), r, [])
  | 41 :: r, d :: e :: Z => cls r ((e ++ [.tup d]) :: Z)
  | r, Z => (none, r, Z)
def aft (P : List Nat → List (List W) → Prop) (w : W) : Option W × List Nat × List (List W) → Prop
  | (some v, r, _) => v = w ∧ r = []
  | (none, r, Z) => ∃ r', r = 32 :: r' ∧ P r' Z
def Runs (w : W) : Nat → List Nat → List (List W) → Prop
  | 0, _, _ => False
  | n + 1, R, Z => (∃ R1, R = 40 :: R1 ∧ Z.length < 200 ∧ ((R1.head? ≠ some 41 ∧ Runs w n R1 ([] :: Z)) ∨ (R1.head? = some 41 ∧ aft (Runs w n) w (cls R1 ([] :: Z))))) ∨
      ∃ L r p d Z', R = L ++ r ∧ Z = d :: Z' ∧ Lf p L ∧ stop r ∧ aft (Runs w n) w (cls r ((d ++ [p]) :: Z'))
/-! ### what is written is read -/
mutual
def rd : W → Prop
  | .int i => Lf (.int i) (cl (toString i : String))
  | .str z => Lf (.str z) (cl z)
  | .tup l => isFun l = false ∧ rds l
  | _ => False
def rds : List W → Prop
  | [] => True
  | w :: r => rd w ∧ rds r
end
mutual
def dp : W → Nat
  | .tup l => 1 + dps l
  | _ => 0
def dps : List W → Nat
  | [] => 0
  | w :: r => max (dp w) (dps r)
end
theorem lf_hd {p : W} {L : List Nat} (h : Lf p L) : ∃ c r, L = c :: r ∧ c ≠ 40 ∧ c ≠ 41 := by
  cases h with
  | wd z h1 h2 h3 =>
    cases e : cl z with
    | nil =>
      have : (cl z).length = z.length := Array.length_toList
      rw [e] at this
      have h0 : ([] : List Nat).length = 0 := rfl
      omega
    | cons c r =>
      have := h3 c (by rw [e]; exact List.mem_cons_self)
      unfold isL at this
      have := of_decide_eq_true this
      exact ⟨c, r, rfl, by omega, by omega⟩
  | pos ds h1 h2 h3 h4 =>
    cases ds with
    | nil => exact (h1 rfl).elim
    | cons d r => exact ⟨48 + d, fg r, rfl, by omega, by omega⟩
  | neg ds h1 h2 h3 h4 => exact ⟨45, fg ds, rfl, by decide, by decide⟩
theorem wr_tup {l : List W} (h : isFun l = false) : cl (wr (.tup l)) = 40 :: (cl (wrH l) ++ [41]) := by
  have e1 : wr (.tup l) = "(" ++ (wrH l ++ ")") := by
    show (if isFun l = true then ("fun" : Str) else "(" ++ (wrH l ++ ")")) = _
    rw [if_neg (by rw [h]; decide)]
  have e2 : cl (("(" : String) : Str) = [40] := by decide +kernel
  have e3 : cl ((")" : String) : Str) = [41] := by decide +kernel
  rw [e1, cl_app, cl_app, e2, e3]
  rfl
theorem wr_cons (w : W) (r : List W) : cl (wrT (w :: r)) = 32 :: (cl (wr w) ++ cl (wrT r)) := by
  have e2 : cl ((" " : String) : Str) = [32] := by decide +kernel
  show cl (" " ++ (wr w ++ wrT r)) = _
  rw [cl_app, cl_app, e2]
  rfl
theorem wr_hd (w : W) (r : List W) : cl (wrH (w :: r)) = cl (wr w) ++ cl (wrT r) := cl_app _ _
theorem wr_lf {w : W} (h : rd w) (e : ∀ l, w ≠ .tup l) : Lf w (cl (wr w)) := by
  cases w with
  | int i => exact h
  | str z => exact h
  | tup l => exact (e l rfl).elim
  | _ => exact h.elim
theorem wr_hd41 {w : W} (h : rd w) (X : List Nat) : (cl (wr w) ++ X).head? ≠ some 41 := by
  have key : ∃ c r, cl (wr w) = c :: r ∧ c ≠ 41 := by
    cases w with
    | int i => obtain ⟨c, r, a, _, b⟩ := lf_hd (wr_lf h (fun l z => by cases z)); exact ⟨c, r, a, b⟩
    | str i => obtain ⟨c, r, a, _, b⟩ := lf_hd (wr_lf h (fun l z => by cases z)); exact ⟨c, r, a, b⟩
    | tup l => exact ⟨40, _, wr_tup h.1, by decide⟩
    | _ => exact h.elim
  obtain ⟨c, r, e, hc⟩ := key
  rw [e]
  intro z
  exact hc (Option.some.inj z)
theorem cls_sp (r : List Nat) (Z : List (List W)) : cls (32 :: r) Z = (none, 32 :: r, Z) := by
  unfold cls
  rfl
theorem aft_mono {v : W} {P P' : List Nat → List (List W) → Prop} (k : ∀ R Z, P R Z → P' R Z) : ∀ {x : Option W × List Nat × List (List W)}, aft P v x → aft P' v x
  | (some _, _, _), h => h
  | (none, r, Z), ⟨r', e, h⟩ => ⟨r', e, k _ _ h⟩
theorem runs_up {v : W} : ∀ {n : Nat} {R : List Nat} {Z : List (List W)}, Runs v n R Z → Runs v (n + 1) R Z
  | 0, R, Z, h => h.elim
  | n + 1, R, Z, h => by
    rcases h with ⟨R1, e, hl, h⟩ | ⟨L, r, p, d, Z', e1, e2, h1, h2, h3⟩
    · refine .inl ⟨R1, e, hl, ?_⟩
      rcases h with ⟨a, b⟩ | ⟨a, b⟩
      · exact .inl ⟨a, runs_up b⟩
      · exact .inr ⟨a, aft_mono (fun _ _ => runs_up) b⟩
    · exact .inr ⟨L, r, p, d, Z', e1, e2, h1, h2, aft_mono (fun _ _ => runs_up) h3⟩
theorem aft_up {v : W} {n : Nat} {x : Option W × List Nat × List (List W)} (h : aft (Runs v n) v x) : aft (Runs v (n + 1)) v x := aft_mono (fun _ _ => runs_up) h
theorem wrT_ne {l : List W} (h : l ≠ []) : cl (wrT l) = 32 :: cl (wrH l) := by
  cases l with
  | nil => exact (h rfl).elim
  | cons b r =>
    rw [wr_cons, wr_hd]
mutual
theorem runs_part (v : W) : ∀ (w : W) (n : Nat) (X : List Nat) (d : List W) (Z : List (List W)), rd w → (d :: Z).length + dp w ≤ 200 → stop X → aft (Runs v n) v (cls X ((d ++ [w]) :: Z)) → Runs v (n + cn w) (cl (wr w) ++ X) (d :: Z)
  | .int i, n, X, d, Z, h, hd, hX, ha => .inr ⟨_, _, _, d, Z, rfl, rfl, h, hX, ha⟩
  | .str i, n, X, d, Z, h, hd, hX, ha => .inr ⟨_, _, _, d, Z, rfl, rfl, h, hX, ha⟩
  | .tup l, n, X, d, Z, h, hd, hX, ha => by
    have hd : (d :: Z).length + (1 + dps l) ≤ 200 := hd
    rw [wr_tup h.1]
    by_cases hl : l = []
    · subst hl
      exact .inl ⟨41 :: X, rfl, by omega, .inr ⟨rfl, aft_up ha⟩⟩
    · have key := runs_parts v l n (41 :: X) [] (d :: Z) hl h.2 (by rw [List.length_cons]; omega) ⟨41, X, rfl, .inr rfl⟩ ha
      show Runs v (n + (2 + cns l)) _ _
      rw [show n + (2 + cns l) = (n + cns l + 1) + 1 by omega]
      have e : cl (wrH l) ++ [41] ++ X = cl (wrH l) ++ (41 :: X) := by simp
      have hh : (cl (wrH l) ++ [41] ++ X).head? ≠ some 41 := by
        cases l with
        | nil => exact (hl rfl).elim
        | cons a r =>
          rw [wr_hd, List.append_assoc, List.append_assoc]
          exact wr_hd41 h.2.1 _
      refine .inl ⟨cl (wrH l) ++ [41] ++ X, rfl, by omega, .inl ⟨hh, ?_⟩⟩
      rw [e]
      exact runs_up key
  | .bl _, n, X, d, Z, h, hd, hX, ha => h.elim
  | .non, n, X, d, Z, h, hd, hX, ha => h.elim
  | .cl _, n, X, d, Z, h, hd, hX, ha => h.elim
  | .ref _, n, X, d, Z, h, hd, hX, ha => h.elim
  | .adr _, n, X, d, Z, h, hd, hX, ha => h.elim
  | .ty _, n, X, d, Z, h, hd, hX, ha => h.elim
theorem runs_parts (v : W) : ∀ (l : List W) (n : Nat) (X : List Nat) (d : List W) (Z : List (List W)), l ≠ [] → rds l → (d :: Z).length + dps l ≤ 200 → stop X → aft (Runs v n) v (cls X ((d ++ l) :: Z)) → Runs v (n + cns l) (cl (wrH l) ++ X) (d :: Z)
  | [], n, X, d, Z, hl, h, hd, hX, ha => (hl rfl).elim
  | a :: l, n, X, d, Z, _, h, hd, hX, ha => by
    have hd : (d :: Z).length + max (dp a) (dps l) ≤ 200 := hd
    have hm := Nat.le_max_left (dp a) (dps l)
    have hm2 := Nat.le_max_right (dp a) (dps l)
    have e0 : n + cns (a :: l) = (n + cns l + cn a) + 1 := by
      show n + (1 + cn a + cns l) = _
      omega
    rw [wr_hd, e0]
    by_cases hl : l = []
    · subst hl
      have := runs_part v a n X d Z h.1 (by omega) hX ha
      rw [List.append_assoc]
      exact runs_up this
    · have e1 : (d ++ a :: l) = ((d ++ [a]) ++ l) := by simp
      rw [e1] at ha
      have k2 := runs_parts v l n X (d ++ [a]) Z hl h.2 (by have : (d :: Z).length = ((d ++ [a]) :: Z).length := rfl; omega) hX ha
      have k3 := runs_part v a (n + cns l) (32 :: (cl (wrH l) ++ X)) d Z h.1 (by omega) ⟨32, _, rfl, .inl rfl⟩ (by rw [cls_sp]; exact ⟨_, rfl, k2⟩)
      rw [wrT_ne hl, List.append_assoc]
      exact runs_up k3
end
theorem runs_whole (l : List W) (h : rd (.tup l)) (hd : dp (.tup l) ≤ 200) : Runs (.tup l) (cn (.tup l)) (cl (wr (.tup l))) [] := by
  have hd : 1 + dps l ≤ 200 := hd
  rw [wr_tup h.1]
  by_cases hl : l = []
  · subst hl
    exact .inl ⟨[41], rfl, by decide, .inr ⟨rfl, rfl, rfl⟩⟩
  · have key := runs_parts (.tup l) l 0 [41] [] [] hl h.2 (by show 1 + _ ≤ 200; omega) ⟨41, [], rfl, .inr rfl⟩ ⟨rfl, rfl⟩
    show Runs _ (2 + cns l) _ _
    rw [show 2 + cns l = (0 + cns l + 1) + 1 by omega]
    have hh : (cl (wrH l) ++ [41]).head? ≠ some 41 := by
      cases l with
      | nil => exact (hl rfl).elim
      | cons a r =>
        rw [wr_hd, List.append_assoc]
        exact wr_hd41 h.2.1 _
    exact .inl ⟨_, rfl, by decide, .inl ⟨hh, runs_up key⟩⟩
end Ev80

set_option Elab.async false
set_option linter.all false
set_option maxRecDepth 100000
set_option maxHeartbeats 1000000
namespace EvT
open PySem PySem.Spec PyProof.Rows L2 Ow Ev OwT
/-! ### named -/
def NamedC : Con := ⟨T, fun t ws S => ws = [tW t] ∧ WF t, fun t S w S' => w = .tup ((nmd t).map W.str) ∧ Ex S S'⟩
theorem wIn_strN {z : Str} (xs : List Str) {l : List W} {S : Store} {Q : WK} (hl : l = xs.map W.str) (q : Q (.bl (decide (z ∈ xs))) S) : wIn (.str z) (.tup l) S Q := by
  subst hl
  refine wIn_strs ?_
  rw [Bool.false_xor]
  exact q
section
variable {S : Store} {D : MD} {z : Str} {r : List W}
theorem named_go {z : Str} {l : List W} (k1 : z = "made" → ∃ w, wAt l 2 = some w ∧ D.rt w S) (k2 : z ≠ "made" → z ∈ [("name" : Str), "by"] → D.rt (.tup (cutG l (some 1) (some 2))) S)
    (k3 : z ≠ "made" → z ∉ [("name" : Str), "by"] → z ∈ twos → D.rt (.tup (cutG l (some 1) (some 3))) S) (k4 : z ≠ "made" → z ∉ [("name" : Str), "by"] → z ∉ twos → D.rt (.tup []) S) (h0 : wAt l 0 = some (.str z)) : m_named D [some (.tup l), none] S := by
  unfold m_named
  simp only [mSeq, mIfS, mRet, mRetN, mAsg, mDrop, mTest, mBin, mChain, mTru, mAnd, mOr, mNot, mAndV, mOrV, mNotV, mIf, mVar, mC, mCons, mNil, mTup, mLst, mCB, mgName, mNext, mIt, mPar, mAug, lk, wLen_tup, wLe_int, wLt_int, wGt_int, wEq_int, wNe_int, wEq_str, wNe_str, wIx_tup, wAt0, wAt1, wAt2, wAt3, oW_s, tru_bl, List.set]
  rw [h0]
  simp only [oW]
  simp only [mSeq, mIfS, mRet, mRetN, mAsg, mDrop, mTest, mBin, mChain, mTru, mAnd, mOr, mNot, mAndV, mOrV, mNotV, mIf, mVar, mC, mCons, mNil, mTup, mLst, mCB, mgName, mNext, mIt, mPar, mAug, lk, wLen_tup, wLe_int, wLt_int, wGt_int, wEq_int, wNe_int, wEq_str, wNe_str, wIx_tup, wAt0, wAt1, wAt2, wAt3, oW_s, tru_bl, List.set]
  refine ifB (fun e => ?_) fun e => ?_
  · obtain ⟨w, h1, h2⟩ := k1 (of_decide_eq_true e)
    rw [h1]
    exact h2
  have n1 := of_decide_eq_false e
  refine ⟨by show 2 ≤ sizeLine; decide, wIn_strN [("name" : Str), "by"] rfl ?_⟩
  simp only [mSeq, mIfS, mRet, mRetN, mAsg, mDrop, mTest, mBin, mChain, mTru, mAnd, mOr, mNot, mAndV, mOrV, mNotV, mIf, mVar, mC, mCons, mNil, mTup, mLst, mCB, mgName, mNext, mIt, mPar, mAug, lk, wLen_tup, wLe_int, wLt_int, wGt_int, wEq_int, wNe_int, wEq_str, wNe_str, wIx_tup, wAt0, wAt1, wAt2, wAt3, oW_s, tru_bl, List.set]
  refine ifB (fun e => k2 n1 (of_decide_eq_true e)) fun e => ?_
  have n2 := of_decide_eq_false e
  refine ⟨by show 5 ≤ sizeLine; decide, wIn_strN twos rfl ?_⟩
  simp only [mSeq, mIfS, mRet, mRetN, mAsg, mDrop, mTest, mBin, mChain, mTru, mAnd, mOr, mNot, mAndV, mOrV, mNotV, mIf, mVar, mC, mCons, mNil, mTup, mLst, mCB, mgName, mNext, mIt, mPar, mAug, lk, wLen_tup, wLe_int, wLt_int, wGt_int, wEq_int, wNe_int, wEq_str, wNe_str, wIx_tup, wAt0, wAt1, wAt2, wAt3, oW_s, tru_bl, List.set]
  refine ifB (fun e => k3 n1 n2 (of_decide_eq_true e)) fun e => ?_
  exact ⟨Nat.zero_le _, k4 n1 n2 (of_decide_eq_false e)⟩
theorem cut12 {a b : W} {r : List W} (h : r.length ≤ 1) : cutG (a :: b :: r) (some 1) (some 2) = [b] := by
  match r, h with
  | [], _ => rfl
  | [c], _ => rfl
theorem cut13 {a b c : W} : cutG [a, b, c] (some 1) (some 3) = [b, c] := rfl
theorem vc_named (t : T) (h : WF t) (k : ∀ S', Ex S S' → D.rt (.tup ((nmd t).map W.str)) S') : ∃ l, tW t = .tup l ∧ m_named D [some (.tup l), none] S := by
  have k := k S Ex.refl
  cases t with
  | num n => exact ⟨_, rfl, named_go (fun e => absurd e (by decide)) (fun _ e => absurd e (by decide)) (fun _ _ e => absurd e (by decide)) (fun _ _ _ => k) rfl⟩
  | nam x => exact ⟨_, rfl, named_go (fun e => absurd e (by decide)) (fun _ _ => by rw [cut12 (Nat.zero_le _)]; exact k) (fun _ e => absurd (by decide) e) (fun _ e => absurd (by decide) e) rfl⟩
  | fn x e => exact ⟨_, rfl, named_go (fun e => absurd e (by decide)) (fun _ e => absurd e (by decide)) (fun _ _ e => absurd e (by decide)) (fun _ _ _ => k) rfl⟩
  | two w x y =>
    refine ⟨_, rfl, named_go (fun e => ?_) (fun _ e => ?_) (fun _ _ _ => ?_) (fun _ _ e => absurd h.1 e) rfl⟩
    · subst e
      exact absurd h.1 (by decide)
    · rcases isTwo h.1 with rfl | rfl | rfl | rfl | rfl <;> exact absurd e (by decide)
    · rw [cut13]
      exact k
  | lt w x e b =>
    refine ⟨_, rfl, named_go (fun e => ?_) (fun _ e => ?_) (fun _ _ e => ?_) (fun _ _ _ => k) rfl⟩
    all_goals rcases h.1 with rfl | rfl <;> exact absurd e (by decide)
  | all ps b => exact ⟨_, rfl, named_go (fun e => absurd e (by decide)) (fun _ e => absurd e (by decide)) (fun _ _ e => absurd e (by decide)) (fun _ _ _ => k) rfl⟩
  | mk c xs => exact ⟨_, rfl, named_go (fun _ => ⟨_, rfl, k⟩) (fun e _ => absurd rfl e) (fun e _ _ => absurd rfl e) (fun e _ _ => absurd rfl e) rfl⟩
  | by_ x bs => exact ⟨_, rfl, named_go (fun e => absurd e (by decide)) (fun _ _ => by rw [cut12 (r := [W.tup (bW bs)]) (Nat.le_refl 1)]; exact k) (fun _ e => absurd (by decide) e) (fun _ e => absurd (by decide) e) rfl⟩
end
/-! ### what within tells, of a term -/
def inT (l : List (T × List Str)) : List W := l.map fun p => .tup [tW p.1, .tup (p.2.map W.str)]
theorem ins_ps (ns : List Str) : ∀ ps : Ps, (pW ps).map (fun p => W.tup [secW p, .tup (ns.map W.str)]) = inT (ps.subs ns)
  | .nil => rfl
  | .cons x e r => by
    show _ :: _ = _ :: _
    rw [ins_ps ns r]
    rfl
theorem ins_bs : ∀ bs : Bs, (bW bs).map brW = inT bs.subs
  | .nil => rfl
  | .cons c ys e r => by
    show _ :: _ = _ :: _
    rw [ins_bs r]
    rfl
theorem ins_tW : ∀ (t : T), WF t → ∃ l, tW t = .tup l ∧ insW l = inT (wn t)
  | .num n, _ => ⟨_, rfl, rfl⟩
  | .nam x, _ => ⟨_, rfl, rfl⟩
  | .fn x e, _ => ⟨_, rfl, rfl⟩
  | .two w x y, h => by
    refine ⟨_, rfl, ?_⟩
    rcases isTwo h.1 with rfl | rfl | rfl | rfl | rfl <;> rfl
  | .lt w x e b, h => by
    refine ⟨_, rfl, ?_⟩
    rcases h.1 with rfl | rfl <;> rfl
  | .all ps b, _ => by
    refine ⟨_, rfl, ?_⟩
    show (pW ps).map (fun p => W.tup [secW p, namesW (pW ps)]) ++ [W.tup [tW b, namesW (pW ps)]] = inT (ps.subs ps.names ++ [(b, ps.names)])
    unfold namesW
    rw [pW_fst, ins_ps]
    unfold inT
    rw [List.map_append]
    rfl
  | .mk c xs, _ => ⟨_, rfl, rfl⟩
  | .by_ x bs, _ => by
    refine ⟨_, rfl, ?_⟩
    show (bW bs).map brW = _
    rw [ins_bs]
    rfl
/-- a term is data -/
theorem isNm_len {x : Str} (h : isNm x = true) : x.length ≤ sizeLine := by
  unfold isNm at h
  rw [Bool.and_eq_true] at h
  have := of_decide_eq_true h.1
  exact Nat.le_trans this.2 (by decide)
theorem strs_dat {S : Store} : ∀ xs : List Str, (∀ x ∈ xs, isNm x = true) → dats S (xs.map W.str)
  | [], _ => trivial
  | x :: xs, h => ⟨isNm_len (h x List.mem_cons_self), strs_dat xs fun y hy => h y (List.mem_cons_of_mem _ hy)⟩
theorem two_len {w : Str} (h : w ∈ twos) : w.length ≤ sizeLine := by
  rcases isTwo h with rfl | rfl | rfl | rfl | rfl <;> decide
mutual
theorem dat_tW {S : Store} : ∀ (t : T), WF t → dat S (tW t)
  | .num n, _ => ⟨by show 2 ≤ sizeLine; decide, by show Str.length "num" ≤ sizeLine; decide, trivial, trivial⟩
  | .nam x, h => ⟨by show 2 ≤ sizeLine; decide, by show Str.length "name" ≤ sizeLine; decide, isNm_len h, trivial⟩
  | .fn x e, h => ⟨by show 3 ≤ sizeLine; decide, by show Str.length "fun" ≤ sizeLine; decide, isNm_len h.1, dat_tW e h.2, trivial⟩
  | .two w x y, h => ⟨by show 3 ≤ sizeLine; decide, two_len h.1, isNm_len h.2.1, isNm_len h.2.2, trivial⟩
  | .lt w x e b, h => ⟨by show 4 ≤ sizeLine; decide, by rcases h.1 with rfl | rfl <;> (show Str.length _ ≤ sizeLine; decide), isNm_len h.2.1, dat_tW e h.2.2.1, dat_tW b h.2.2.2, trivial⟩
  | .all ps b, h => ⟨by show 3 ≤ sizeLine; decide, by show Str.length "letall" ≤ sizeLine; decide, ⟨by rw [pW_len]; exact small (by have := h.1.2; omega), dat_pW ps h.2.2.1⟩, dat_tW b h.2.2.2, trivial⟩
  | .mk c xs, h => ⟨by show 3 ≤ sizeLine; decide, by show Str.length "made" ≤ sizeLine; decide, isNm_len h.1, ⟨by rw [List.length_map]; exact small (by have := h.2.1; omega), strs_dat xs h.2.2⟩, trivial⟩
  | .by_ x bs, h => ⟨by show 3 ≤ sizeLine; decide, by show Str.length "by" ≤ sizeLine; decide, isNm_len h.1, ⟨by rw [bW_len]; exact small (by have := h.2.1.2; omega), dat_bW bs h.2.2.2⟩, trivial⟩
theorem dat_pW {S : Store} : ∀ (ps : Ps), WFp ps → dats S (pW ps)
  | .nil, _ => trivial
  | .cons x e r, h => ⟨⟨by show 2 ≤ sizeLine; decide, isNm_len h.1, dat_tW e h.2.2.1, trivial⟩, dat_pW r h.2.2.2⟩
theorem dat_bW {S : Store} : ∀ (bs : Bs), WFb bs → dats S (bW bs)
  | .nil, _ => trivial
  | .cons c ys e r, h => ⟨⟨by show 3 ≤ sizeLine; decide, isNm_len h.1, ⟨by rw [List.length_map]; exact small (by have := h.2.1.1; omega), strs_dat ys h.2.1.2.2⟩, dat_tW e h.2.2.1, trivial⟩, dat_bW r h.2.2.2⟩
end
theorem wf_ps (ns : List Str) : ∀ ps : Ps, WFp ps → ∀ q ∈ ps.subs ns, WF q.1
  | .nil, _, q, h => by cases h
  | .cons x e r, w, q, h => by
    rcases List.mem_cons.mp h with rfl | h
    · exact w.2.2.1
    · exact wf_ps ns r w.2.2.2 q h
theorem wf_bs : ∀ bs : Bs, WFb bs → ∀ q ∈ bs.subs, WF q.1 ∧ q.2.length ≤ 3
  | .nil, _, q, h => by cases h
  | .cons c ys e r, w, q, h => by
    rcases List.mem_cons.mp h with rfl | h
    · exact ⟨w.2.2.1, w.2.1.1⟩
    · exact wf_bs r w.2.2.2 q h
theorem subs_ns (ns : List Str) : ∀ ps : Ps, ∀ q ∈ ps.subs ns, q.2 = ns
  | .nil, q, h => by cases h
  | .cons x e r, q, h => by
    rcases List.mem_cons.mp h with rfl | h
    · rfl
    · exact subs_ns ns r q h
/-- what lies in a term: terms, few names -/
theorem wf_wn : ∀ (t : T), WF t → ∀ q ∈ wn t, WF q.1 ∧ q.2.length ≤ 6
  | .num n, _, q, h => by cases h
  | .nam x, _, q, h => by cases h
  | .fn x e, w, q, h => by
    rw [List.mem_singleton.mp h]
    exact ⟨w.2, by show 1 ≤ 6; decide⟩
  | .two _ _ _, _, q, h => by cases h
  | .lt _ x e b, w, q, h => by
    rcases List.mem_cons.mp h with rfl | h
    · exact ⟨w.2.2.1, by show 0 ≤ 6; decide⟩
    · rw [List.mem_singleton.mp h]
      exact ⟨w.2.2.2, by show 1 ≤ 6; decide⟩
  | .all ps b, w, q, h => by
    rcases List.mem_append.mp h with h | h
    · refine ⟨wf_ps _ ps w.2.2.1 q h, ?_⟩
      rw [subs_ns _ ps q h]
      exact w.1.2
    · rw [List.mem_singleton.mp h]
      exact ⟨w.2.2.2, w.1.2⟩
  | .mk _ _, _, q, h => by cases h
  | .by_ x bs, w, q, h => by
    have := wf_bs bs w.2.2.2 q h
    exact ⟨this.1, by omega⟩
end EvT

set_option Elab.async false
set_option linter.all false
set_option maxRecDepth 100000
set_option maxHeartbeats 1000000
namespace EvT
open PySem PySem.Spec PyProof.Rows L2 Ow Ev OwT
/-! ### free_names -/
def dkv (ks : List Str) : List (Key × W) := ks.map fun k => (Sum.inr k, W.bl true)
def addK (ks : List Str) (x : Str) : List Str := if x ∈ ks then ks else ks ++ [x]
theorem any_dkv (x : Str) : ∀ ks : List Str, ((dkv ks).any fun kv => decide (kv.1 = (Sum.inr x : Key))) = decide (x ∈ ks)
  | [] => rfl
  | k :: ks => by
    show (decide ((Sum.inr k : Key) = Sum.inr x) || (dkv ks).any _) = _
    rw [any_dkv x ks]
    by_cases h : k = x
    · subst h
      rw [decide_eq_true rfl, Bool.true_or, decide_eq_true List.mem_cons_self]
    · rw [decide_eq_false (fun z => h (Sum.inr.inj z)), Bool.false_or, decide_eq_decide, List.mem_cons]
      exact ⟨.inr, fun z => z.elim (fun z => absurd z.symm h) id⟩
theorem put_dkv (ks : List Str) (x : Str) : putW (dkv ks) (Sum.inr x : Key) (.bl true) = dkv (addK ks x) := by
  unfold putW addK
  rw [any_dkv]
  by_cases h : x ∈ ks
  · rw [decide_eq_true h, if_pos rfl, if_pos h]
    have : ∀ ks : List Str, (dkv ks).map (fun kv => if kv.1 = (Sum.inr x : Key) then (kv.1, W.bl true) else kv) = dkv ks := fun ks => by
      unfold dkv
      rw [List.map_map]
      refine List.map_congr_left fun k _ => ?_
      show (if (Sum.inr k : Key) = Sum.inr x then ((Sum.inr k : Key), W.bl true) else (Sum.inr k, W.bl true)) = _
      split <;> rfl
    exact this ks
  · rw [decide_eq_false h, if_neg (by decide), if_neg h]
    unfold dkv
    rw [List.map_append]
    rfl
theorem mem_addK {ks : List Str} {x k : Str} : k ∈ addK ks x ↔ k ∈ ks ∨ k = x := by
  unfold addK
  split
  · constructor
    · exact .inl
    · rintro (h | rfl)
      · exact h
      · assumption
  · simp
theorem nd_addK {ks : List Str} {x : Str} (h : ks.Nodup) : (addK ks x).Nodup := by
  unfold addK
  split
  · exact h
  · rename_i n
    refine List.nodup_append.mpr ⟨h, by simp, fun a ha b hb => ?_⟩
    rw [List.mem_singleton.mp hb]
    exact fun z => n (z ▸ ha)
def foldN (ns : List Str) : List Str → List Str → List Str
  | ks, [] => ks
  | ks, x :: xs => foldN ns (if x ∈ ns then ks else addK ks x) xs
theorem mem_foldN {ns : List Str} {k : Str} : ∀ (xs ks : List Str), k ∈ foldN ns ks xs ↔ k ∈ ks ∨ (k ∈ xs ∧ k ∉ ns)
  | [], ks => by
    show k ∈ ks ↔ _
    simp
  | x :: xs, ks => by
    show k ∈ foldN ns (if x ∈ ns then ks else addK ks x) xs ↔ _
    rw [mem_foldN xs]
    split
    · rename_i h
      constructor
      · rintro (a | ⟨a, b⟩)
        · exact .inl a
        · exact .inr ⟨List.mem_cons_of_mem _ a, b⟩
      · rintro (a | ⟨a, b⟩)
        · exact .inl a
        · rcases List.mem_cons.mp a with rfl | a
          · exact absurd h b
          · exact .inr ⟨a, b⟩
    · rename_i h
      rw [mem_addK]
      constructor
      · rintro ((a | rfl) | ⟨a, b⟩)
        · exact .inl a
        · exact .inr ⟨List.mem_cons_self, h⟩
        · exact .inr ⟨List.mem_cons_of_mem _ a, b⟩
      · rintro (a | ⟨a, b⟩)
        · exact .inl (.inl a)
        · rcases List.mem_cons.mp a with rfl | a
          · exact .inl (.inr rfl)
          · exact .inr ⟨a, b⟩
theorem nd_foldN {ns : List Str} : ∀ (xs ks : List Str), ks.Nodup → (foldN ns ks xs).Nodup
  | [], ks, h => h
  | x :: xs, ks, h => by
    show (foldN ns (if x ∈ ns then ks else addK ks x) xs).Nodup
    refine nd_foldN xs _ ?_
    split
    · exact h
    · exact nd_addK h
def encF (L : List (T × List Str)) : List W := inT L
def stF (S0 : Store) (ks : List Str) (L : List (T × List Str)) (m : Store) : Store := S0 ++ ([.dK (dkv ks), .lst (encF L)] ++ m)
section
variable {S0 m : Store} {ks ks' : List Str} {L L' : List (T × List Str)}
theorem stF_d : (stF S0 ks L m)[S0.length]? = some (.dK (dkv ks)) := by
  unfold stF
  rw [List.getElem?_append_right (Nat.le_refl _), Nat.sub_self]
  rfl
theorem stF_l : (stF S0 ks L m)[S0.length + 1]? = some (.lst (encF L)) := by
  unfold stF
  rw [List.getElem?_append_right (Nat.le_add_right S0.length 1), Nat.add_sub_cancel_left]
  rfl
theorem stF_setd : (stF S0 ks L m).set S0.length (.dK (dkv ks')) = stF S0 ks' L m := by
  unfold stF
  rw [List.set_append_right _ _ (Nat.le_refl _), Nat.sub_self]
  rfl
theorem stF_setl : (stF S0 ks L m).set (S0.length + 1) (.lst (encF L')) = stF S0 ks L' m := by
  unfold stF
  rw [List.set_append_right _ _ (Nat.le_add_right S0.length 1), Nat.add_sub_cancel_left]
  rfl
theorem stF_ne {n : Nat} (h1 : n ≠ S0.length) (h2 : n ≠ S0.length + 1) : (stF S0 ks L m)[n]? = (stF S0 ks' L' m)[n]? := by
  rw [← stF_setl (L := L) (L' := L'), List.getElem?_set_ne (Ne.symm h2), ← stF_setd (ks := ks) (ks' := ks'), List.getElem?_set_ne (Ne.symm h1)]
theorem stF_ex : Ex S0 (stF S0 ks L m) := ⟨_, rfl⟩
theorem stF_app {m' : Store} : stF S0 ks L m ++ m' = stF S0 ks L (m ++ m') := by
  unfold stF
  simp
end
theorem encF_snoc (L : List (T × List Str)) (p : T × List Str) : encF (L ++ [p]) = encF L ++ [.tup [tW p.1, .tup (p.2.map W.str)]] := by
  unfold encF inT
  rw [List.map_append]
  rfl
/-- for name in named(part): if name not in bound: found[name] = True -/
theorem names_for {S0 : Store} {ns : List Str} {L : List (T × List Str)} {m : Store} {D : MD} {e0 e3 e6 e7 : Option W} {chk : Store → Prop} (hc : ∀ S, chk S) : ∀ (xs ks : List Str) (e5 : Option W), ks.length + xs.length < 3000 →
    (∀ e5, D.nx [e0, some (.ref S0.length), some (.ref (S0.length + 1)), e3, some (.tup (ns.map W.str)), e5, e6, e7] (stF S0 (foldN ns ks xs) L m)) →
    forL chk (mgName 5) (mIfS (mTest (mBin wNotIn (mVar 5) (mVar 4))) (mAsg (mC (.bl true)) (mgSub (mVar 1) (mVar 5))) mNext) D (xs.map W.str)
      [e0, some (.ref S0.length), some (.ref (S0.length + 1)), e3, some (.tup (ns.map W.str)), e5, e6, e7] (stF S0 ks L m)
  | [], ks, e5, _, q => ⟨hc _, q e5⟩
  | x :: xs, ks, e5, hl, q => by
    rw [List.length_cons] at hl
    refine ⟨hc _, ?_⟩
    simp only [mgName, List.set]
    simp only [mSeq, mIfS, mRet, mRetN, mAsg, mDrop, mTest, mBin, mChain, mTru, mAnd, mOr, mNot, mAndV, mOrV, mNotV, mIf, mVar, mC, mCons, mNil, mTup, mLst, mCB, mgName, mNext, mIt, mPar, mAug, lk, wLen_tup, wLe_int, wLt_int, wGt_int, wEq_int, wNe_int, wEq_str, wNe_str, wIx_tup, wAt0, wAt1, wAt2, wAt3, oW_s, tru_bl, List.set]
    refine wIn_strs ?_
    rw [Bool.true_xor]
    simp only [mSeq, mIfS, mRet, mRetN, mAsg, mDrop, mTest, mBin, mChain, mTru, mAnd, mOr, mNot, mAndV, mOrV, mNotV, mIf, mVar, mC, mCons, mNil, mTup, mLst, mCB, mgName, mNext, mIt, mPar, mAug, lk, wLen_tup, wLe_int, wLt_int, wGt_int, wEq_int, wNe_int, wEq_str, wNe_str, wIx_tup, wAt0, wAt1, wAt2, wAt3, oW_s, tru_bl, List.set]
    refine ifNB (fun e => ?_) fun e => ?_
    · have hx := of_decide_eq_false e
      unfold mgSub
      simp only [mSeq, mIfS, mRet, mRetN, mAsg, mDrop, mTest, mBin, mChain, mTru, mAnd, mOr, mNot, mAndV, mOrV, mNotV, mIf, mVar, mC, mCons, mNil, mTup, mLst, mCB, mgName, mNext, mIt, mPar, mAug, lk, wLen_tup, wLe_int, wLt_int, wGt_int, wEq_int, wNe_int, wEq_str, wNe_str, wIx_tup, wAt0, wAt1, wAt2, wAt3, oW_s, tru_bl, List.set]
      show match (stF S0 ks L m)[S0.length]? with
        | some (.lst l) => _
        | some (.dK l) => _
        | _ => False
      rw [stF_d]
      refine ⟨by unfold dkv; rw [List.length_map]; exact Nat.lt_of_lt_of_le (show ks.length < 3000 by omega) (by decide), ?_⟩
      rw [put_dkv, stF_setd]
      refine names_for hc xs (addK ks x) _ ?_ fun e5 => ?_
      · have : (addK ks x).length ≤ ks.length + 1 := by
          unfold addK
          split
          · omega
          · rw [List.length_append, List.length_singleton]
            exact Nat.le_refl _
        omega
      · have := q e5
        have e9 : foldN ns ks (x :: xs) = foldN ns (addK ks x) xs := by
          show foldN ns (if x ∈ ns then ks else addK ks x) xs = _
          rw [if_neg hx]
        rw [e9] at this
        exact this
    · have hx := of_decide_eq_true e
      refine names_for hc xs ks _ (by omega) fun e5 => ?_
      have := q e5
      have e9 : foldN ns ks (x :: xs) = foldN ns ks xs := by
        show foldN ns (if x ∈ ns then ks else addK ks x) xs = _
        rw [if_pos hx]
      rw [e9] at this
      exact this
end EvT

set_option Elab.async false
set_option linter.all false
set_option maxRecDepth 100000
set_option maxHeartbeats 1000000
namespace EvT
open PySem PySem.Spec PyProof.Rows L2 Ow Ev OwT
def sumN (L : List (T × List Str)) : Nat := (L.map fun p => nodes p.1).sum
theorem sumN_cons (p : T × List Str) (L : List (T × List Str)) : sumN (p :: L) = nodes p.1 + sumN L := by
  unfold sumN
  rw [List.map_cons, List.sum_cons]
theorem sumN_app : ∀ (A B : List (T × List Str)), sumN (A ++ B) = sumN A + sumN B
  | [], B => by
    show sumN B = 0 + sumN B
    omega
  | p :: A, B => by
    rw [List.cons_append, sumN_cons, sumN_cons, sumN_app A B]
    omega
theorem sumN_ps (ns : List Str) : ∀ ps : Ps, sumN (ps.subs ns) = nodesPs ps
  | .nil => rfl
  | .cons x e r => by
    show sumN ((e, ns) :: r.subs ns) = nodes e + nodesPs r
    rw [sumN_cons, sumN_ps ns r]
theorem sumN_bs : ∀ bs : Bs, sumN bs.subs = nodesBs bs
  | .nil => rfl
  | .cons c ys e r => by
    show sumN ((e, ys) :: r.subs) = nodes e + nodesBs r
    rw [sumN_cons, sumN_bs r]
theorem nodes_wn (t : T) : nodes t = 1 + sumN (wn t) := by
  cases t with
  | num n => rfl
  | nam x => rfl
  | fn x e => rfl
  | two w x y => rfl
  | lt w x e b =>
    show 1 + nodes e + nodes b = 1 + (nodes e + (nodes b + 0))
    omega
  | all ps b =>
    show 1 + nodesPs ps + nodes b = 1 + sumN (ps.subs ps.names ++ [(b, ps.names)])
    rw [sumN_app, sumN_ps]
    show _ = 1 + (nodesPs ps + (nodes b + 0))
    omega
  | mk c xs => rfl
  | by_ x bs =>
    show 1 + nodesBs bs = 1 + sumN bs.subs
    rw [sumN_bs]
theorem len_sumN : ∀ L : List (T × List Str), L.length ≤ sumN L
  | [] => Nat.le_refl _
  | p :: L => by
    rw [sumN_cons, List.length_cons]
    have := nodes_pos p.1
    have := len_sumN L
    omega
theorem each_sumN : ∀ (L : List (T × List Str)), ∀ p ∈ L, nodes p.1 ≤ sumN L
  | q :: L, p, h => by
    rw [sumN_cons]
    rcases List.mem_cons.mp h with rfl | h
    · omega
    · have := each_sumN L p h
      omega
theorem sumN_ext (ns : List Str) : ∀ L : List (T × List Str), sumN (L.map fun p => (p.1, ns ++ p.2)) = sumN L
  | [] => rfl
  | p :: L => by
    rw [List.map_cons, sumN_cons, sumN_cons, sumN_ext ns L]
theorem nmd_few : ∀ t : T, WF t → (nmd t).length ≤ 3
  | .num _, _ => Nat.zero_le _
  | .nam _, _ => by show 1 ≤ 3; decide
  | .fn _ _, _ => Nat.zero_le _
  | .two _ _ _, _ => by show 2 ≤ 3; decide
  | .lt _ _ _ _, _ => Nat.zero_le _
  | .all _ _, _ => Nat.zero_le _
  | .mk _ xs, h => h.2.1
  | .by_ _ _, _ => by show 1 ≤ 3; decide
def pushB : MS := (mDrop (mBM wAppend (mVar 2) (mCons (mTup (mCons (mVar 6) (mCons (mBin wAdd (mVar 4) (mVar 7)) mNil))) mNil)))
theorem push_free {S0 : Store} {ks : List Str} {ns : List Str} {D : MD} {e0 e3 e5 : Option W} {n : Nat} {chkL : List W} (h1 : n ≠ S0.length) (h2 : n ≠ S0.length + 1) :
    ∀ (R : List (T × List Str)) (L : List (T × List Str)) (e6 e7 : Option W) (m : Store), L.length + R.length ≤ 3000 → (∀ p ∈ R, ns.length + p.2.length ≤ 3000) → (stF S0 ks L m)[n]? = some (.lst chkL) →
      (∀ e6 e7, D.nx [e0, some (.ref S0.length), some (.ref (S0.length + 1)), e3, some (.tup (ns.map W.str)), e5, e6, e7] (stF S0 ks (L ++ R.map fun p => (p.1, ns ++ p.2)) m)) →
      forL (fun S' => S'[n]? = some (.lst chkL)) (mgTup 2 (mgCons (mgName 6) (mgCons (mgName 7) mgNil))) pushB D (inT R) [e0, some (.ref S0.length), some (.ref (S0.length + 1)), e3, some (.tup (ns.map W.str)), e5, e6, e7] (stF S0 ks L m)
  | [], L, e6, e7, m, _, _, hc, q => by
    have := q e6 e7
    rw [List.map_nil, List.append_nil] at this
    exact ⟨hc, this⟩
  | p :: R, L, e6, e7, m, hl, hr, hc, q => by
    rw [List.length_cons] at hl
    refine ⟨hc, rfl, ⟨rfl, ?_⟩⟩
    have big : 3000 ≤ sizeLine := by decide
    show isLst (.ref (S0.length + 1)) (stF S0 ks L m) ∧ _
    refine ⟨?_, ?_, by show 2 ≤ sizeLine; decide, ?_⟩
    · show oL (stF S0 ks L m)[S0.length + 1]? _
      rw [stF_l]
      trivial
    · rw [List.length_map, List.length_map]
      exact Nat.le_trans (hr p List.mem_cons_self) big
    · show oL (stF S0 ks L m)[S0.length + 1]? _
      rw [stF_l]
      refine ⟨by unfold encF inT; rw [List.length_map]; exact Nat.lt_of_lt_of_le (show L.length < 3000 by omega) big, ?_⟩
      have e : encF L ++ [.tup [tW p.1, .tup (ns.map W.str ++ p.2.map W.str)]] = encF (L ++ [(p.1, ns ++ p.2)]) := by
        rw [encF_snoc, List.map_append]
      rw [e, stF_setl]
      refine push_free h1 h2 R (L ++ [(p.1, ns ++ p.2)]) _ _ m (by rw [List.length_append, List.length_singleton]; omega) (fun y hy => hr y (List.mem_cons_of_mem _ hy)) ?_ fun e6 e7 => ?_
      · rw [stF_ne h1 h2 (ks' := ks) (L' := L)]
        exact hc
      · have := q e6 e7
        rw [List.append_assoc]
        exact this
structure FreeOk (t0 : T) (fs ks : List Str) (L : List (T × List Str)) : Prop where
  nd : ks.Nodup
  sub : ∀ k ∈ ks, Free k t0
  all : ∀ k, Free k t0 → k ∈ ks ∨ ∃ p ∈ L, Free k p.1 ∧ k ∉ p.2
  wf : ∀ p ∈ L, WF p.1
  few : ∀ p ∈ L, p.2.length + 6 * nodes p.1 ≤ 2000
  own : ∀ p ∈ L, ∀ k, Free k p.1 → k ∉ p.2 → Free k t0
  size : sumN L ≤ 300
theorem FreeOk.step {t0 : T} {fs ks : List Str} {L : List (T × List Str)} {t : T} {ns : List Str} (h : FreeOk t0 fs ks (L ++ [(t, ns)])) : FreeOk t0 fs (foldN ns ks (nmd t)) (L ++ (wn t).map fun p => (p.1, ns ++ p.2)) := by
  have ht := List.mem_append_right L (List.mem_cons_self (a := (t, ns)) (l := []))
  have wt := h.wf _ ht
  refine ⟨nd_foldN _ _ h.nd, fun k hk => ?_, fun k hk => ?_, fun p hp => ?_, fun p hp => ?_, fun p hp => ?_, ?_⟩
  · rcases (mem_foldN _ _).mp hk with hk | ⟨a, b⟩
    · exact h.sub k hk
    · exact h.own _ ht k ((free_iff k t).mpr (.inl a)) b
  · rcases h.all k hk with a | ⟨p, hp, a, b⟩
    · exact .inl ((mem_foldN _ _).mpr (.inl a))
    · rcases List.mem_append.mp hp with hp | hp
      · exact .inr ⟨p, List.mem_append_left _ hp, a, b⟩
      · rw [List.mem_singleton.mp hp] at a b
        rcases (free_iff k t).mp a with a | ⟨q, hq, a, c⟩
        · exact .inl ((mem_foldN _ _).mpr (.inr ⟨a, b⟩))
        · refine .inr ⟨(q.1, ns ++ q.2), List.mem_append_right _ (List.mem_map.mpr ⟨q, hq, rfl⟩), a, fun z => ?_⟩
          rcases List.mem_append.mp z with z | z
          · exact b z
          · exact c z
  · rcases List.mem_append.mp hp with hp | hp
    · exact h.wf p (List.mem_append_left _ hp)
    · obtain ⟨q, hq, rfl⟩ := List.mem_map.mp hp
      exact (wf_wn t wt q hq).1
  · rcases List.mem_append.mp hp with hp | hp
    · exact h.few p (List.mem_append_left _ hp)
    · obtain ⟨q, hq, rfl⟩ := List.mem_map.mp hp
      have a := h.few _ ht
      have b := (wf_wn t wt q hq).2
      have c := each_sumN (wn t) q hq
      have d := nodes_wn t
      show (ns ++ q.2).length + 6 * nodes q.1 ≤ 2000
      rw [List.length_append]
      have a : ns.length + 6 * nodes t ≤ 2000 := a
      omega
  · rcases List.mem_append.mp hp with hp | hp
    · exact h.own p (List.mem_append_left _ hp)
    · obtain ⟨q, hq, rfl⟩ := List.mem_map.mp hp
      intro k a b
      have b : k ∉ ns ++ q.2 := b
      exact h.own _ ht k ((free_iff k t).mpr (.inr ⟨q, hq, a, fun z => b (List.mem_append_right _ z)⟩)) fun z => b (List.mem_append_left _ z)
  · have a := h.size
    rw [sumN_app] at a
    rw [sumN_app, sumN_ext]
    have d := nodes_wn t
    have e : sumN [(t, ns)] = nodes t + 0 := rfl
    omega
end EvT

set_option Elab.async false
set_option linter.all false
set_option maxRecDepth 100000
set_option maxHeartbeats 1000000
namespace EvT
open PySem PySem.Spec PyProof.Rows L2 Ow Ev OwT
def fBody : MS := (mSeq (mAsg (mBM0 wPop (mVar 2)) (mgTup 2 (mgCons (mgName 3) (mgCons (mgName 4) mgNil))))
  (mSeq (mFor (mIt (mCB (conR NamedC) (mCons (mVar 3) mNil))) (mgName 5)
  (mIfS (mTest (mBin wNotIn (mVar 5) (mVar 4)))
  (mAsg (mC (.bl true)) (mgSub (mVar 1) (mVar 5)))
  mNext))
  (mFor (mIt (mCB (conR WithinC) (mCons (mVar 3) mNil))) (mgTup 2 (mgCons (mgName 6) (mgCons (mgName 7) mgNil)))
  pushB)))
theorem named_call {t : T} {S : Store} {Q : WK} (h : WF t) (q : ∀ S', Ex S S' → Q (.tup ((nmd t).map W.str)) S') : conR NamedC [tW t] S Q :=
  ⟨t, ⟨rfl, h⟩, fun w S' ⟨a, b⟩ => by rw [a]; exact q S' b⟩
theorem popF_read {S0 m : Store} {ks : List Str} {L : List (T × List Str)} {t : T} {ns : List Str} {env : EvS} {Q : EvS → Store → Prop} (hv : lk env 2 = some (.ref (S0.length + 1))) (q : Q ((env.set 3 (some (tW t))).set 4 (some (.tup (ns.map W.str)))) (stF S0 ks L m)) :
    mBM0 wPop (mVar 2) env (stF S0 ks (L ++ [(t, ns)]) m) fun w S1 => mgTup 2 (mgCons (mgName 3) (mgCons (mgName 4) mgNil)) w env S1 Q := by
  unfold mBM0 mVar
  rw [hv]
  refine ⟨?_, ?_⟩
  · show oL (stF S0 ks _ m)[S0.length + 1]? _
    rw [stF_l]
    trivial
  · show oL (stF S0 ks (L ++ [(t, ns)]) m)[S0.length + 1]? _
    rw [stF_l]
    show oW (encF (L ++ [(t, ns)])).getLast? _
    rw [encF_snoc, List.getLast?_concat, List.dropLast_concat, stF_setl]
    exact ⟨rfl, rfl, q⟩
theorem loop_free {S0 : Store} {t0 : T} {fs : List Str} {D : MD} {e0 : Option W} (hfs : fs.length < 64) (hf : ∀ k, Free k t0 → k ∈ fs)
    (k : ∀ (ks : List Str) (e3 e4 e5 e6 e7 : Option W) (m : Store), ks.Nodup → (∀ k, k ∈ ks ↔ Free k t0) → D.nx [e0, some (.ref S0.length), some (.ref (S0.length + 1)), e3, e4, e5, e6, e7] (stF S0 ks [] m)) :
    ∀ (f : Nat) (ks : List Str) (L : List (T × List Str)) (e3 e4 e5 e6 e7 : Option W) (m : Store), sumN L < f → FreeOk t0 fs ks L → whL (mTru (mVar 2)) fBody D f [e0, some (.ref S0.length), some (.ref (S0.length + 1)), e3, e4, e5, e6, e7] (stF S0 ks L m)
  | 0, ks, L, e3, e4, e5, e6, e7, m, h, ok => by omega
  | f + 1, ks, L, e3, e4, e5, e6, e7, m, h, ok => by
    unfold whL
    simp only [mTru, mVar, lk, Ev.wTru]
    rw [stF_l]
    simp only [oTru]
    rcases last_or L with rfl | ⟨L, ⟨t, ns⟩, rfl⟩
    · refine iteF (k ks _ _ _ _ _ m ok.nd fun x => ⟨ok.sub x, fun hx => ?_⟩)
      rcases ok.all x hx with a | ⟨p, hp, _⟩
      · exact a
      · cases hp
    · have ne : (!(encF (L ++ [(t, ns)])).isEmpty) = true := by
        rw [encF_snoc]
        cases encF L <;> rfl
      rw [ne]
      refine iteT ?_
      have ih := loop_free (S0 := S0) (e0 := e0) hfs hf k f
      generalize hN : whL (mTru (mVar 2)) fBody D f = NX at ih ⊢
      have step := ok.step
      have ht := List.mem_append_right L (List.mem_cons_self (a := (t, ns)) (l := []))
      have wt := ok.wf _ ht
      unfold fBody
      simp only [mSeq, mAsg]
      refine popF_read (t := t) (ns := ns) rfl ?_
      simp only [List.set]
      simp only [mFor, mIt, mCB, mCons, mNil, mVar, lk]
      refine named_call wt fun S1 h1 => ?_
      obtain ⟨m1, rfl⟩ := h1
      rw [stF_app]
      have kfs : ks.length ≤ fs.length := nodup_sub ks fs ok.nd fun x hx => hf x (ok.sub x hx)
      refine names_for (fun _ => trivial) (nmd t) ks e5 (by have := nmd_few t wt; omega) fun e5 => ?_
      obtain ⟨l, el, hi⟩ := ins_tW t wt
      have hs := shaped_tW t wt
      have hd : dat (stF S0 (foldN ns ks (nmd t)) L (m ++ m1)) (tW t) := dat_tW t wt
      show conR WithinC [tW t] _ _
      rw [el] at hs hd ⊢
      refine within_call hs hd fun n S2 h2 hlen at2 => ?_
      rw [walk_lst at2, hi]
      rw [hi] at at2
      have hl2 : S0.length + 1 < n := by
        have : (stF S0 (foldN ns ks (nmd t)) L (m ++ m1)).length = S0.length + (2 + (m ++ m1).length) := by
          unfold stF
          rw [List.length_append, List.length_append]
          rfl
        omega
      obtain ⟨m2, rfl⟩ := h2
      rw [stF_app] at at2 ⊢
      have sz := ok.size
      have a1 := len_sumN (L ++ [(t, ns)])
      have a2 := nodes_wn t
      have a3 := len_sumN (wn t)
      have a4 : sumN (L ++ [(t, ns)]) = sumN L + (nodes t + 0) := sumN_app L [(t, ns)]
      rw [List.length_append] at a1
      refine push_free (by omega) (by omega) (wn t) L e6 e7 _ (by omega) (fun q hq => ?_) at2 fun e6 e7 => ?_
      · have b := ok.few _ ht
        have b : ns.length + 6 * nodes t ≤ 2000 := b
        have c := (wf_wn t wt q hq).2
        omega
      · rw [← el]
        have := ih (foldN ns ks (nmd t)) (L ++ (wn t).map fun p => (p.1, ns ++ p.2)) (some (tW t)) (some (.tup (ns.map W.str))) e5 e6 e7 (m ++ m1 ++ m2) (by rw [sumN_app, sumN_ext]; omega) step
        exact this
def FreeC : Con := ⟨T, fun t ws S => ws = [tW t] ∧ WF t ∧ nodes t ≤ 300 ∧ ∃ fs : List Str, fs.length < 64 ∧ ∀ k, Free k t → k ∈ fs,
  fun t S w S' => ∃ n ys, w = .ref n ∧ Ex S S' ∧ S.length ≤ n ∧ S'[n]? = some (.lst (ys.map W.str)) ∧ ys.Nodup ∧ sortedS ys = true ∧ ∀ k, k ∈ ys ↔ Free k t⟩
theorem vc_free {t : T} {S : Store} {D : MD} (wt : WF t) (sz : nodes t ≤ 300) {fs : List Str} (hfs : fs.length < 64) (hf : ∀ k, Free k t → k ∈ fs)
    (k : ∀ n ys S', Ex S S' → S.length ≤ n → S'[n]? = some (.lst (ys.map W.str)) → ys.Nodup → sortedS ys = true → (∀ k, k ∈ ys ↔ Free k t) → D.rt (.ref n) S') : m_free_names NamedC WithinC D [some (tW t), none, none, none, none, none, none, none] S := by
  show _ ≤ sizeLine ∧ _ ≤ sizeLine ∧ _ ≤ sizeLine ∧ _
  refine ⟨by show 0 ≤ sizeLine; decide, by show 2 ≤ sizeLine; decide, by show 1 ≤ sizeLine; decide, 302, ?_⟩
  have e : S ++ [O.dK []] ++ [.lst [.tup [tW t, .tup []]]] = stF S [] [(t, [])] [] := by
    unfold stF
    simp [dkv, encF, inT]
  have := loop_free (S0 := S) (e0 := some (tW t)) (D := { D with nx := fun e S' => mRet (mCB wSortD (mCons (mVar 1) mNil)) D e S' }) hfs hf (fun ks e3 e4 e5 e6 e7 m nd mem => ?_) 302 [] [(t, [])] none none none none none [] (by show nodes t + 0 < 302; omega) ⟨List.nodup_nil, (fun k h => by cases h), fun k h => .inr ⟨_, List.mem_cons_self, h, List.not_mem_nil⟩, fun p hp => ?_, fun p hp => ?_, fun p hp => ?_, by show nodes t + 0 ≤ 300; omega⟩
  · rw [← e] at this
    have e2 : (S ++ [O.dK []]).length = S.length + 1 := by rw [List.length_append]; rfl
    rw [← e2] at this
    exact this
  · simp only [mSeq, mIfS, mRet, mRetN, mAsg, mDrop, mTest, mBin, mChain, mTru, mAnd, mOr, mNot, mAndV, mOrV, mNotV, mIf, mVar, mC, mCons, mNil, mTup, mLst, mCB, mgName, mNext, mIt, mPar, mAug, lk, wLen_tup, wLe_int, wLt_int, wGt_int, wEq_int, wNe_int, wEq_str, wNe_str, wIx_tup, wAt0, wAt1, wAt2, wAt3, oW_s, tru_bl, List.set]
    show oD (stF S ks [] m)[S.length]? _
    rw [stF_d]
    have kfs : ks.length ≤ fs.length := nodup_sub ks fs nd fun x hx => hf x ((mem x).mp hx)
    refine ⟨ks, by unfold dkv; rw [List.map_map]; rfl, by omega, fun ys pm so => ?_⟩
    refine k _ ys _ (stF_ex.trans Ex.one) (by unfold stF; rw [List.length_append]; omega) (new_at _ _) (pm.nodup_iff.mpr nd) so fun x => ?_
    rw [pm.mem_iff]
    exact mem x
  · rw [List.mem_singleton.mp hp]
    exact wt
  · rw [List.mem_singleton.mp hp]
    show 0 + 6 * nodes t ≤ 2000
    omega
  · rw [List.mem_singleton.mp hp]
    exact fun _ h _ => h
end EvT

set_option Elab.async false
set_option linter.all false
set_option maxRecDepth 100000
set_option maxHeartbeats 1000000
namespace Ev05
open PySem PySem.Spec PyProof.Rows L2 Ow Ev
def m_x_law_feed  : MS :=
  (mSeq (mAsg (mIf (mTest (mBin wLt (mVar 1) (mCB wLen (mCons (mVar 0) mNil)))) (mBin wIx (mVar 0) (mVar 1)) (mBin wAdd (mBin wMul (mC (.int 71)) (mVar 1)) (mC (.int 23)))) (mgName 2))
  (mSeq (mAsg (mCB wMax (mCons (mC (.int 0)) (mCons (mBin wSub (mCB wAbs (mCons (mVar 2) mNil)) (mBin wPow (mC (.int 10)) (mC (.int 18)))) mNil))) (mgName 3))
  (mSeq (mAsg (mBin wMod (mBin wAdd (mBin wAdd (mBin wMul (mVar 2) (mC (.int 6364136223846793005))) (mBin wMul (mC (.int 9973)) (mVar 1))) (mC (.int 1442695040888963407))) (mC (.int 2305843009213693951))) (mgName 4))
  (mRet (mLst (mCons (mVar 3) (mCons (mVar 4) mNil)))))))
def m_x_law_take  : MS :=
  (mSeq (mIfS (mTest (mBin wGt (mBin wIx (mVar 0) (mC (.int 0))) (mC (.int 0))))
  (mSeq (mAsg (mBin wMod (mBin wIx (mVar 0) (mC (.int 0))) (mVar 1)) (mgName 2))
  (mSeq (mAsg (mBin wFdiv (mBin wIx (mVar 0) (mC (.int 0))) (mVar 1)) (mgSub (mVar 0) (mC (.int 0))))
  (mRet (mVar 2))))
  mNext)
  (mSeq (mAsg (mBin wMod (mBin wAdd (mBin wMul (mBin wIx (mVar 0) (mC (.int 1))) (mC (.int 6364136223846793005))) (mC (.int 1442695040888963407))) (mC (.int 2305843009213693951))) (mgSub (mVar 0) (mC (.int 1))))
  (mRet (mBin wMod (mBin wFdiv (mBin wIx (mVar 0) (mC (.int 1))) (mC (.int 65536))) (mVar 1)))))
def m_x_law_pick (C_x_law_take : Con) : MS :=
  (mRet (mBin wIx (mVar 1) (mCB (conR C_x_law_take) (mCons (mVar 0) (mCons (mCB wLen (mCons (mVar 1) mNil)) mNil)))))
def m_x_law_names (C_x_law_take : Con) (C_x_law_pick : Con) : MS :=
  (mSeq (mAsg (mC (.str "abcdefghijklmnopqrstuvwxyz")) (mgName 1))
  (mSeq (mAsg (mTup (mCons (mCB (conR C_x_law_take) (mCons (mVar 0) (mCons (mC (.int 26)) mNil))) (mCons (mBin wMul (mBin wIx (mVar 1) (mCB (conR C_x_law_take) (mCons (mVar 0) (mCons (mC (.int 26)) mNil)))) (mCB (conR C_x_law_take) (mCons (mVar 0) (mCons (mC (.int 8)) mNil)))) mNil))) (mgTup 2 (mgCons (mgName 2) (mgCons (mgName 3) mgNil))))
  (mSeq (mAsg (mLc (mRg1 (mCons (mC (.int 8)) mNil)) (mgName 7) mYes (mBin wAdd (mBin wIx (mVar 1) (mBin wMod (mBin wAdd (mVar 2) (mBin wMul (mC (.int 5)) (mVar 7))) (mC (.int 26)))) (mVar 3)) [7]) (mgName 4))
  (mSeq (mAsg (mLst (mCons (mC (.str "num")) (mCons (mC (.str "name")) (mCons (mC (.str "fun")) (mCons (mC (.str "call")) (mCons (mC (.str "let")) (mCons (mC (.str "now")) (mCons (mC (.str "letall")) (mCons (mC (.str "made")) (mCons (mC (.str "by")) (mCons (mC (.str "sum")) (mCons (mC (.str "minus")) (mCons (mC (.str "less")) mNil))))))))))))) (mgName 5))
  (mSeq (mAsg (mBin wAdd (mVar 5) (mLst (mCons (mC (.str "same")) (mCons (mC (.str "yes")) mNil)))) (mgName 5))
  (mSeq (mFor (mRg1 (mCons (mCB (conR C_x_law_pick) (mCons (mVar 0) (mCons (mLst (mCons (mC (.int 0)) (mCons (mC (.int 0)) (mCons (mC (.int 1)) (mCons (mC (.int 4)) mNil))))) mNil))) mNil)) (mgName 6)
  (mAsg (mCB (conR C_x_law_pick) (mCons (mVar 0) (mCons (mVar 5) mNil))) (mgSub (mVar 4) (mCB (conR C_x_law_take) (mCons (mVar 0) (mCons (mC (.int 8)) mNil))))))
  (mRet (mVar 4))))))))
def m_x_law_few (C_x_law_take : Con) (C_x_law_pick : Con) : MS :=
  (mSeq (mAsg (mLst mNil) (mgName 3))
  (mSeq (mFor (mRg1 (mCons (mCB (conR C_x_law_take) (mCons (mVar 0) (mCons (mBin wAdd (mVar 2) (mC (.int 1))) mNil))) mNil)) (mgName 4)
  (mSeq (mAsg (mCB (conR C_x_law_pick) (mCons (mVar 0) (mCons (mVar 1) mNil))) (mgName 5))
  (mIfS (mTest (mBin wNotIn (mVar 5) (mVar 3)))
  (mDrop (mBM wAppend (mVar 3) (mCons (mVar 5) mNil)))
  mNext)))
  (mRet (mCB wTuple (mCons (mVar 3) mNil)))))
def m_x_law_made (C_x_law_take : Con) (C_x_law_pick : Con) : MS :=
  (mSeq (mAsg (mLc (mRg1 (mCons (mCB (conR C_x_law_take) (mCons (mVar 0) (mCons (mC (.int 4)) mNil))) mNil)) (mgName 3) mYes (mCB (conR C_x_law_pick) (mCons (mVar 0) (mCons (mVar 1) mNil))) [3]) (mgName 2))
  (mRet (mTup (mCons (mC (.str "made")) (mCons (mCB (conR C_x_law_pick) (mCons (mVar 0) (mCons (mVar 1) mNil))) (mCons (mCB wTuple (mCons (mVar 2) mNil)) mNil))))))
def m_x_law_leaf (C_x_law_take : Con) (C_x_law_pick : Con) (C_x_law_made : Con) : MS :=
  (mSeq (mAsg (mCB (conR C_x_law_take) (mCons (mVar 0) (mCons (mC (.int 5)) mNil))) (mgName 2))
  (mSeq (mIfS (mTest (mBin wEq (mVar 2) (mC (.int 0))))
  (mRet (mTup (mCons (mC (.str "num")) (mCons (mCB (conR C_x_law_pick) (mCons (mVar 0) (mCons (mLst (mCons (mC (.int 0)) (mCons (mC (.int 1)) (mCons (mNeg (mC (.int 1))) (mCons (mBin wPow (mC (.int 10)) (mC (.int 18))) (mCons (mBin wSub (mC (.int 0)) (mBin wPow (mC (.int 10)) (mC (.int 18)))) (mCons (mBin wSub (mCB (conR C_x_law_take) (mCons (mVar 0) (mCons (mC (.int 99)) mNil))) (mC (.int 40))) mNil))))))) mNil))) mNil))))
  mNext)
  (mSeq (mIfS (mTest (mBin wEq (mVar 2) (mC (.int 1))))
  (mRet (mCB (conR C_x_law_made) (mCons (mVar 0) (mCons (mVar 1) mNil))))
  mNext)
  (mSeq (mIfS (mTest (mBin wEq (mVar 2) (mC (.int 2))))
  (mRet (mTup (mCons (mC (.str "name")) (mCons (mCB (conR C_x_law_pick) (mCons (mVar 0) (mCons (mVar 1) mNil))) mNil))))
  mNext)
  (mSeq (mAsg (mCB (conR C_x_law_pick) (mCons (mVar 0) (mCons (mLst (mCons (mC (.str "call")) (mCons (mC (.str "sum")) (mCons (mC (.str "minus")) (mCons (mC (.str "less")) (mCons (mC (.str "same")) (mCons (mC (.str "call")) mNil))))))) mNil))) (mgName 3))
  (mRet (mTup (mCons (mVar 3) (mCons (mCB (conR C_x_law_pick) (mCons (mVar 0) (mCons (mVar 1) mNil))) (mCons (mCB (conR C_x_law_pick) (mCons (mVar 0) (mCons (mVar 1) mNil))) mNil))))))))))
def m_x_law_worth (C_x_law_take : Con) (C_x_law_made : Con) (C_x_law_term : Con) (C_x_law_pick : Con) : MS :=
  (mSeq (mAsg (mBin wSub (mBin wIx (mVar 2) (mC (.int 0))) (mC (.int 1))) (mgSub (mVar 2) (mC (.int 0))))
  (mSeq (mIfS (mTest (mBin wEq (mCB (conR C_x_law_take) (mCons (mVar 0) (mCons (mC (.int 3)) mNil))) (mC (.int 0))))
  (mRet (mCB (conR C_x_law_made) (mCons (mVar 0) (mCons (mVar 1) mNil))))
  mNext)
  (mRet (mTup (mCons (mC (.str "fun")) (mCons (mCB (conR C_x_law_pick) (mCons (mVar 0) (mCons (mVar 1) mNil))) (mCons (mCB (conR C_x_law_term) (mCons (mVar 0) (mCons (mVar 1) (mCons (mVar 2) (mCons (mBin wSub (mVar 3) (mC (.int 1))) mNil))))) mNil)))))))
def m_x_law_term (C_x_law_take : Con) (C_x_law_leaf : Con) (C_x_law_term : Con) (C_x_law_pick : Con) (C_x_law_few : Con) (C_x_law_worth : Con) : MS :=
  (mSeq (mAsg (mBin wSub (mBin wIx (mVar 2) (mC (.int 0))) (mC (.int 1))) (mgSub (mVar 2) (mC (.int 0))))
  (mSeq (mAsg (mCB (conR C_x_law_take) (mCons (mVar 0) (mCons (mC (.int 7)) mNil))) (mgName 4))
  (mSeq (mIfS (mOr (mTest (mBin wLt (mVar 3) (mC (.int 1)))) (mOr (mTest (mBin wLt (mBin wIx (mVar 2) (mC (.int 0))) (mC (.int 1)))) (mTest (mBin wEq (mVar 4) (mC (.int 0))))))
  (mRet (mCB (conR C_x_law_leaf) (mCons (mVar 0) (mCons (mVar 1) mNil))))
  mNext)
  (mSeq (mIfS (mTest (mBin wEq (mVar 4) (mC (.int 1))))
  (mRet (mTup (mCons (mC (.str "fun")) (mCons (mCB (conR C_x_law_pick) (mCons (mVar 0) (mCons (mVar 1) mNil))) (mCons (mCB (conR C_x_law_term) (mCons (mVar 0) (mCons (mVar 1) (mCons (mVar 2) (mCons (mBin wSub (mVar 3) (mC (.int 1))) mNil))))) mNil)))))
  mNext)
  (mSeq (mIfS (mTest (mBin wEq (mVar 4) (mC (.int 2))))
  (mSeq (mAsg (mCB (conR C_x_law_few) (mCons (mVar 0) (mCons (mVar 1) (mCons (mC (.int 6)) mNil)))) (mgName 5))
  (mSeq (mAsg (mIf (mTest (mBin wNe (mVar 5) (mTup mNil))) (mVar 5) (mCB wTuple (mCons (mSl (mVar 1) mNoP (mP (mC (.int 1)))) mNil))) (mgName 5))
  (mSeq (mAsg (mCB wTuple (mCons (mLc (mIt (mVar 5)) (mgName 11) mYes (mTup (mCons (mVar 11) (mCons (mCB (conR C_x_law_worth) (mCons (mVar 0) (mCons (mVar 1) (mCons (mVar 2) (mCons (mBin wSub (mVar 3) (mC (.int 1))) mNil))))) mNil))) [11]) mNil)) (mgName 6))
  (mRet (mTup (mCons (mC (.str "letall")) (mCons (mVar 6) (mCons (mCB (conR C_x_law_term) (mCons (mVar 0) (mCons (mVar 1) (mCons (mVar 2) (mCons (mBin wSub (mVar 3) (mC (.int 1))) mNil))))) mNil))))))))
  mNext)
  (mSeq (mIfS (mTest (mBin wEq (mVar 4) (mC (.int 3))))
  (mSeq (mAsg (mCB (conR C_x_law_few) (mCons (mVar 0) (mCons (mVar 1) (mCons (mC (.int 6)) mNil)))) (mgName 5))
  (mSeq (mAsg (mLst mNil) (mgName 7))
  (mSeq (mFor (mIt (mIf (mTest (mBin wNe (mVar 5) (mTup mNil))) (mVar 5) (mCB wTuple (mCons (mSl (mVar 1) mNoP (mP (mC (.int 1)))) mNil)))) (mgName 8)
  (mSeq (mAsg (mCB (conR C_x_law_few) (mCons (mVar 0) (mCons (mVar 1) (mCons (mC (.int 3)) mNil)))) (mgName 9))
  (mDrop (mBM wAppend (mVar 7) (mCons (mTup (mCons (mVar 8) (mCons (mVar 9) (mCons (mCB (conR C_x_law_term) (mCons (mVar 0) (mCons (mVar 1) (mCons (mVar 2) (mCons (mBin wSub (mVar 3) (mC (.int 1))) mNil))))) mNil)))) mNil)))))
  (mRet (mTup (mCons (mC (.str "by")) (mCons (mCB (conR C_x_law_pick) (mCons (mVar 0) (mCons (mVar 1) mNil))) (mCons (mCB wTuple (mCons (mVar 7) mNil)) mNil))))))))
  mNext)
  (mSeq (mAsg (mCB (conR C_x_law_term) (mCons (mVar 0) (mCons (mVar 1) (mCons (mVar 2) (mCons (mBin wSub (mVar 3) (mC (.int 1))) mNil))))) (mgName 10))
  (mSeq (mAsg (mCB (conR C_x_law_pick) (mCons (mVar 0) (mCons (mLst (mCons (mC (.str "let")) (mCons (mC (.str "let")) (mCons (mC (.str "now")) mNil)))) mNil))) (mgName 8))
  (mRet (mTup (mCons (mVar 8) (mCons (mCB (conR C_x_law_pick) (mCons (mVar 0) (mCons (mVar 1) mNil))) (mCons (mVar 10) (mCons (mCB (conR C_x_law_term) (mCons (mVar 0) (mCons (mVar 1) (mCons (mVar 2) (mCons (mBin wSub (mVar 3) (mC (.int 1))) mNil))))) mNil))))))))))))))
def m_x_law_open (C_x_law_open : Con) : MS :=
  (mSeq (mAsg (mBin wIx (mVar 0) (mC (.int 0))) (mgName 2))
  (mSeq (mIfS (mTest (mBin wEq (mVar 2) (mC (.str "num"))))
  (mRet (mLst mNil))
  mNext)
  (mSeq (mAsg (mLst mNil) (mgName 3))
  (mSeq (mAsg (mLst mNil) (mgName 4))
  (mSeq (mIfS (mTest (mBin wEq (mVar 2) (mC (.str "made"))))
  (mAsg (mCB wList (mCons (mBin wIx (mVar 0) (mC (.int 2))) mNil)) (mgName 3))
  (mIfS (mTest (mBin wEq (mVar 2) (mC (.str "by"))))
  (mSeq (mAsg (mLst (mCons (mBin wIx (mVar 0) (mC (.int 1))) mNil)) (mgName 3))
  (mAsg (mLc (mIt (mBin wIx (mVar 0) (mC (.int 2)))) (mgName 8) mYes (mTup (mCons (mBin wIx (mVar 8) (mC (.int 2))) (mCons (mCB wList (mCons (mBin wIx (mVar 8) (mC (.int 1))) mNil)) mNil))) [8]) (mgName 4)))
  (mIfS (mTest (mBin wEq (mVar 2) (mC (.str "fun"))))
  (mAsg (mLst (mCons (mTup (mCons (mBin wIx (mVar 0) (mC (.int 2))) (mCons (mLst (mCons (mBin wIx (mVar 0) (mC (.int 1))) mNil)) mNil))) mNil)) (mgName 4))
  (mIfS (mTest (mBin wIn (mVar 2) (mLst (mCons (mC (.str "let")) (mCons (mC (.str "now")) mNil)))))
  (mAsg (mLst (mCons (mTup (mCons (mBin wIx (mVar 0) (mC (.int 2))) (mCons (mLst mNil) mNil))) (mCons (mTup (mCons (mBin wIx (mVar 0) (mC (.int 3))) (mCons (mLst (mCons (mBin wIx (mVar 0) (mC (.int 1))) mNil)) mNil))) mNil))) (mgName 4))
  (mIfS (mTest (mBin wEq (mVar 2) (mC (.str "letall"))))
  (mSeq (mAsg (mLc (mIt (mBin wIx (mVar 0) (mC (.int 1)))) (mgName 9) mYes (mBin wIx (mVar 9) (mC (.int 0))) [9]) (mgName 5))
  (mAsg (mBin wAdd (mLc (mIt (mBin wIx (mVar 0) (mC (.int 1)))) (mgName 9) mYes (mTup (mCons (mBin wIx (mVar 9) (mC (.int 1))) (mCons (mVar 5) mNil))) [9]) (mLst (mCons (mTup (mCons (mBin wIx (mVar 0) (mC (.int 2))) (mCons (mVar 5) mNil))) mNil))) (mgName 4)))
  (mAsg (mCB wList (mCons (mSl (mVar 0) (mP (mC (.int 1))) mNoP) mNil)) (mgName 3)))))))
  (mSeq (mAsg (mLc (mIt (mVar 3)) (mgName 10) (mTest (mBin wNotIn (mVar 10) (mVar 1))) (mVar 10) [10]) (mgName 3))
  (mSeq (mFor (mIt (mVar 4)) (mgTup 2 (mgCons (mgName 6) (mgCons (mgName 7) mgNil)))
  (mAsg (mBin wAdd (mVar 3) (mCB (conR C_x_law_open) (mCons (mVar 6) (mCons (mBin wAdd (mVar 1) (mVar 7)) mNil)))) (mgName 3)))
  (mRet (mVar 3)))))))))
def m_x_law_bound (C_x_law_take : Con) : MS :=
  (mSeq (mFor (mIt (mVar 2)) (mgName 3)
  (mSeq (mAsg (mCB (conR C_x_law_take) (mCons (mVar 0) (mCons (mC (.int 5)) mNil))) (mgName 4))
  (mIfS (mTest (mBin wEq (mVar 4) (mC (.int 0))))
  (mAsg (mTup (mCons (mC (.str "fun")) (mCons (mVar 3) (mCons (mVar 1) mNil)))) (mgName 1))
  (mIfS (mTest (mBin wEq (mVar 4) (mC (.int 1))))
  (mAsg (mTup (mCons (mC (.str "now")) (mCons (mVar 3) (mCons (mTup (mCons (mC (.str "num")) (mCons (mC (.int 1)) mNil))) (mCons (mVar 1) mNil))))) (mgName 1))
  (mIfS (mTest (mBin wEq (mVar 4) (mC (.int 2))))
  (mAsg (mTup (mCons (mC (.str "letall")) (mCons (mTup (mCons (mTup (mCons (mVar 3) (mCons (mTup (mCons (mC (.str "made")) (mCons (mC (.str "c")) (mCons (mTup (mCons (mVar 3) mNil)) mNil)))) mNil))) mNil)) (mCons (mVar 1) mNil)))) (mgName 1))
  (mIfS (mTest (mBin wEq (mVar 4) (mC (.int 3))))
  (mAsg (mTup (mCons (mC (.str "let")) (mCons (mVar 3) (mCons (mTup (mCons (mC (.str "num")) (mCons (mC (.int 0)) mNil))) (mCons (mTup (mCons (mC (.str "by")) (mCons (mVar 3) (mCons (mTup (mCons (mTup (mCons (mC (.str "c")) (mCons (mTup mNil) (mCons (mTup (mCons (mC (.str "num")) (mCons (mC (.int 1)) mNil))) mNil)))) (mCons (mTup (mCons (mC (.str "d")) (mCons (mTup (mCons (mVar 3) mNil)) (mCons (mVar 1) mNil)))) mNil))) mNil)))) mNil))))) (mgName 1))
  (mAsg (mTup (mCons (mC (.str "let")) (mCons (mVar 3) (mCons (mTup (mCons (mC (.str "num")) (mCons (mC (.int 0)) mNil))) (mCons (mVar 1) mNil))))) (mgName 1))))))))
  (mRet (mVar 1)))
def m_x_law_otherwise (C_x_law_take : Con) (C_x_law_otherwise : Con) : MS :=
  (mSeq (mIfS (mTru (mCB wIsi (mCons (mVar 1) (mCons (mC (.ty "str")) mNil))))
  (mRet (mVar 2))
  mNext)
  (mSeq (mIfS (mOr (mNot (mTru (mCB wIsi (mCons (mVar 1) (mCons (mC (.ty "tuple")) mNil))))) (mTest (mBin wEq (mVar 1) (mTup mNil))))
  (mRet (mVar 1))
  mNext)
  (mSeq (mAsg (mCB (conR C_x_law_take) (mCons (mVar 0) (mCons (mCB wLen (mCons (mVar 1) mNil)) mNil))) (mgName 3))
  (mSeq (mIfS (mAnd (mTest (mBin wEq (mVar 3) (mC (.int 0)))) (mAnd (mTru (mCB wIsi (mCons (mBin wIx (mVar 1) (mC (.int 0))) (mCons (mC (.ty "str")) mNil)))) (mTest (mBin wGt (mCB wLen (mCons (mVar 1) mNil)) (mC (.int 1))))))
  (mAsg (mBin wSub (mCB wLen (mCons (mVar 1) mNil)) (mC (.int 1))) (mgName 3))
  mNext)
  (mRet (mBin wAdd (mBin wAdd (mSl (mVar 1) mNoP (mP (mVar 3))) (mTup (mCons (mCB (conR C_x_law_otherwise) (mCons (mVar 0) (mCons (mBin wIx (mVar 1) (mVar 3)) (mCons (mVar 2) mNil)))) mNil))) (mSl (mVar 1) (mP (mBin wAdd (mVar 3) (mC (.int 1)))) mNoP)))))))
def m_law (C_x_law_feed : Con) (C_x_law_names : Con) (C_x_law_take : Con) (C_x_law_term : Con) (C_x_law_pick : Con) (C_x_law_open : Con) (C_x_law_bound : Con) (C_x_law_otherwise : Con) (C_is_term : Con) (C_is_program : Con) : MS :=
  (mSeq (mFor (mRg1 (mCons (mCB wMax (mCons (mC (.int 2)) (mCons (mCB wMin (mCons (mC (.int 5)) (mCons (mCB wLen (mCons (mVar 0) mNil)) mNil))) mNil))) mNil)) (mgName 1)
  (mSeq (mAsg (mCB (conR C_x_law_feed) (mCons (mVar 0) (mCons (mVar 1) mNil))) (mgName 2))
  (mSeq (mAsg (mSl (mCB (conR C_x_law_names) (mCons (mVar 2) mNil)) mNoP (mP (mBin wAdd (mC (.int 1)) (mCB (conR C_x_law_take) (mCons (mVar 2) (mCons (mC (.int 8)) mNil)))))) (mgName 3))
  (mSeq (mAsg (mCB (conR C_x_law_term) (mCons (mVar 2) (mCons (mVar 3) (mCons (mLst (mCons (mCB (conR C_x_law_pick) (mCons (mVar 2) (mCons (mLst (mCons (mC (.int 3)) (mCons (mC (.int 10)) (mCons (mC (.int 30)) (mCons (mC (.int 60)) mNil))))) mNil))) mNil)) (mCons (mBin wAdd (mC (.int 1)) (mCB (conR C_x_law_take) (mCons (mVar 2) (mCons (mC (.int 8)) mNil)))) mNil))))) (mgName 4))
  (mSeq (mAsg (mSortSet (mCB (conR C_x_law_open) (mCons (mVar 4) (mCons (mLst mNil) mNil)))) (mgName 5))
  (mSeq (mAsg (mCB (conR C_x_law_take) (mCons (mVar 2) (mCons (mBin wAdd (mCB wLen (mCons (mVar 5) mNil)) (mC (.int 1))) mNil))) (mgName 6))
  (mSeq (mAsg (mCB (conR C_x_law_bound) (mCons (mVar 2) (mCons (mVar 4) (mCons (mBin wAdd (mSl (mVar 5) (mP (mVar 6)) mNoP) (mSl (mVar 5) mNoP (mP (mVar 6)))) mNil)))) (mgName 7))
  (mSeq (mAsg (mLst (mCons (mVar 4) (mCons (mVar 7) (mCons (mCB (conR C_x_law_bound) (mCons (mVar 2) (mCons (mVar 4) (mCons (mSl (mVar 5) (mP (mC (.int 1))) mNoP) mNil)))) mNil)))) (mgName 8))
  (mSeq (mFor (mRg1 (mCons (mC (.int 4)) mNil)) (mgName 9)
  (mDrop (mBM wAppend (mVar 8) (mCons (mCB (conR C_x_law_otherwise) (mCons (mVar 2) (mCons (mVar 7) (mCons (mCB (conR C_x_law_pick) (mCons (mVar 2) (mCons (mBin wAdd (mLst (mCons (mC (.str "qq")) (mCons (mC (.str "qq")) mNil))) (mVar 3)) mNil))) mNil)))) mNil))))
  (mSeq (mFor (mIt (mVar 8)) (mgName 10)
  (mSeq (mAsg (mAndV (mCB (conR C_is_term) (mCons (mVar 10) mNil)) (mBin wEq (mCB (conR C_x_law_open) (mCons (mVar 10) (mCons (mLst mNil) mNil))) (mLst mNil))) (mgName 11))
  (mSeq (mAsg (mCB (conR C_is_program) (mCons (mVar 10) mNil)) (mgName 12))
  (mIfS (mOr (mNot (mTru (mCB wIsi (mCons (mVar 12) (mCons (mC (.ty "bool")) mNil))))) (mTest (mBin wNe (mVar 12) (mVar 11))))
  (mRet (mC (.bl false)))
  mNext))))
  (mIfS (mTest (mBin (wIsN true) (mCB (conR C_is_program) (mCons (mVar 7) mNil)) (mC (.bl true))))
  (mRet (mC (.bl false)))
  mNext)))))))))))
  (mSeq (mAsg (mLst (mCons (mC .non) (mCons (mC (.bl true)) (mCons (mC (.int 0)) (mCons (mC (.str "a")) (mCons (mTup mNil) (mCons (mLst mNil) (mCons (mTup (mCons (mC (.str "name")) (mCons (mC (.str "a")) mNil))) (mCons (mLst (mCons (mC (.str "num")) (mCons (mC (.int 1)) mNil))) (mCons (mTup (mCons (mC (.str "num")) (mCons (mC (.bl true)) mNil))) (mCons (mTup (mCons (mC (.str "fun")) (mCons (mC (.str "a")) mNil))) mNil))))))))))) (mgName 13))
  (mSeq (mDrop (mBM wAppend (mVar 13) (mCons (mTup (mCons (mC (.str "fun")) (mCons (mC (.str "a")) (mCons (mC (.str "a")) mNil)))) mNil)))
  (mRet (mBin wEq (mLc (mIt (mVar 13)) (mgName 10) (mTest (mBin (wIsN true) (mCB (conR C_is_program) (mCons (mVar 10) mNil)) (mC (.bl false)))) (mVar 10) [10]) (mLst mNil))))))
end Ev05

set_option Elab.async false
set_option linter.all false
set_option maxRecDepth 100000
set_option maxHeartbeats 1000000
/-! The law's sources of numbers, names. -/
namespace Ev05
open PySem PySem.Spec PyProof.Rows L2 Ow Ev OwT EvT
/-- S' is S but at ps, and for what is new -/
structure Fx (ps : List Nat) (S S' : Store) : Prop where
  len : S.length ≤ S'.length
  keep : ∀ n o, n ∉ ps → S[n]? = some o → S'[n]? = some o
theorem Fx.refl {ps : List Nat} {S : Store} : Fx ps S S := ⟨Nat.le_refl _, fun _ _ _ e => e⟩
theorem Fx.trans {ps : List Nat} {A B C : Store} (a : Fx ps A B) (b : Fx ps B C) : Fx ps A C := ⟨Nat.le_trans a.len b.len, fun n o h e => b.keep n o h (a.keep n o h e)⟩
theorem Fx.ex {ps : List Nat} {S S' : Store} (h : Ex S S') : Fx ps S S' := ⟨h.len, fun n o _ e => h.at e⟩
theorem Fx.mono {ps qs : List Nat} {S S' : Store} (h : Fx ps S S') (k : ∀ n ∈ ps, n ∈ qs) : Fx qs S S' := ⟨h.len, fun n o hn e => h.keep n o (fun z => hn (k n z)) e⟩
theorem Fx.set {ps : List Nat} {S : Store} {n : Nat} {o : O} (h : n ∈ ps) : Fx ps S (S.set n o) := ⟨by rw [List.length_set]; exact Nat.le_refl _, fun m u hm e => by
  rw [List.getElem?_set_ne (fun z => hm (by rw [← z]; exact h))]
  exact e⟩
def big : Int := 2305843009213693951
def FdS (S : Store) (p : Nat) : Prop := ∃ d st : Int, S[p]? = some (.lst [.int d, .int st]) ∧ 0 ≤ d ∧ 0 ≤ st ∧ st < big
def FeedC : Con := ⟨List Int × W × Nat, fun (l, x, k) ws S => ws = [x, .int k] ∧ seqW x S = some (l.map W.int), fun _ S w S' => ∃ p, w = .ref p ∧ Ex S S' ∧ S.length ≤ p ∧ FdS S' p⟩
theorem get_set {S : Store} {n : Nat} {o o' : O} (h : S[n]? = some o) : (S.set n o')[n]? = some o' := List.getElem?_set_self (List.getElem?_eq_some_iff.mp h).1
theorem lt_len {S : Store} {n : Nat} {o : O} (h : S[n]? = some o) : n < S.length := (List.getElem?_eq_some_iff.mp h).1
theorem max_0 (j : Int) : (0 : Int) ≤ (fun i j : Int => if j > i then j else i) 0 j := by
  show (0 : Int) ≤ if j > 0 then j else 0
  by_cases h : j > 0
  · rw [if_pos h]
    omega
  · rw [if_neg h]
    omega
section
variable {S : Store} {D : MD}
theorem feed_rest {c : Int} {k : Nat} {x : W} (q : ∀ p S', Ex S S' → S.length ≤ p → FdS S' p → D.rt (.ref p) S') :
    (mSeq (mAsg (mCB wMax (mCons (mC (.int 0)) (mCons (mBin wSub (mCB wAbs (mCons (mVar 2) mNil)) (mBin wPow (mC (.int 10)) (mC (.int 18)))) mNil))) (mgName 3))
  (mSeq (mAsg (mBin wMod (mBin wAdd (mBin wAdd (mBin wMul (mVar 2) (mC (.int 6364136223846793005))) (mBin wMul (mC (.int 9973)) (mVar 1))) (mC (.int 1442695040888963407))) (mC (.int 2305843009213693951))) (mgName 4))
  (mRet (mLst (mCons (mVar 3) (mCons (mVar 4) mNil)))))) D [some x, some (.int k), some (.int c), none, none] S := by
  simp only [mSeq, mIfS, mRet, mRetN, mAsg, mDrop, mTest, mBin, mChain, mTru, mAnd, mOr, mNot, mAndV, mOrV, mNotV, mIf, mVar, mC, mCons, mNil, mTup, mLst, mCB, mgName, mNext, mIt, mPar, mAug, lk, wLen_tup, wLe_int, wLt_int, wGt_int, wEq_int, wNe_int, wEq_str, wNe_str, wIx_tup, wAt0, wAt1, wAt2, wAt3, oW_s, tru_bl, List.set]
  refine ⟨⟨by decide, by decide, by decide⟩, trivial, ?_⟩
  refine ⟨.inr (by decide), .inl (by decide), ?_⟩
  refine ⟨by show (0 : Int) < 2305843009213693951; decide, by show 2 ≤ sizeLine; decide, ?_⟩
  refine q _ _ Ex.one (Nat.le_refl _) ⟨_, _, new_at S _, ?_, Int.emod_nonneg _ (by decide), Int.emod_lt_of_pos _ (by decide)⟩
  exact max_0 _
theorem ix_seqA {s : W} {l : List W} {S : Store} {i : Int} {w : W} {Q : WK} (hl : seqW s S = some l) (hi : wAt l i = some w) (q : Q w S) : wIx s (.int i) S Q := by
  cases s with
  | tup m =>
    cases hl
    show oW (wAt l i) _
    rw [hi]
    exact q
  | cl m =>
    cases hl
    show oW (wAt l i) _
    rw [hi]
    exact q
  | ref n =>
    unfold seqW at hl
    dsimp only at hl
    cases e : S[n]? with
    | none => rw [e] at hl; cases hl
    | some o =>
      rw [e] at hl
      cases o with
      | lst m =>
        cases hl
        show oIx (.int i) S[n]? fun w => Q w S
        rw [e]
        show oW (wAt l i) _
        rw [hi]
        exact q
      | _ => cases hl
  | _ => cases hl
theorem vc_feed {l : List Int} {x : W} {k : Nat} (h : seqW x S = some (l.map W.int)) (q : ∀ p S', Ex S S' → S.length ≤ p → FdS S' p → D.rt (.ref p) S') : m_x_law_feed D [some x, some (.int k), none, none, none] S := by
  unfold m_x_law_feed
  rw [show ∀ a b : MS, mSeq a b D [some x, some (.int k), none, none, none] S = a { D with nx := fun e S' => b D e S' } [some x, some (.int k), none, none, none] S from fun _ _ => rfl]
  simp only [mAsg, mIf, mTest, mBin, mVar, lk, mCB, mCons, mNil]
  refine len_seq h ?_
  rw [wLt_int]
  refine ifB (fun e => ?_) fun e => ?_
  · have hk : k < l.length := by
      have := of_decide_eq_true e
      rw [List.length_map] at this
      omega
    refine ix_seqA h (w := .int l[k]) (by rw [wAt_nat (by omega), Int.toNat_natCast, List.getElem?_map, List.getElem?_eq_getElem hk]; rfl) ?_
    exact feed_rest q
  · refine ⟨.inl (by decide), ?_⟩
    exact feed_rest q
end
end Ev05

set_option Elab.async false
set_option linter.all false
set_option maxRecDepth 100000
set_option maxHeartbeats 1000000
namespace Ev05
open PySem PySem.Spec PyProof.Rows L2 Ow Ev OwT EvT
def TakeC : Con := ⟨Nat × Int, fun (p, m) ws S => ws = [.ref p, .int m] ∧ FdS S p ∧ 0 < m ∧ m < 1000000, fun (p, m) S w S' => ∃ r : Int, w = .int r ∧ 0 ≤ r ∧ r < m ∧ Fx [p] S S' ∧ FdS S' p⟩
theorem take_call {p : Nat} {m : Int} {S : Store} {Q : WK} (h : FdS S p) (h0 : 0 < m) (h1 : m < 1000000) (q : ∀ (r : Int) S', 0 ≤ r → r < m → Fx [p] S S' → FdS S' p → Q (.int r) S') : conR TakeC [.ref p, .int m] S Q :=
  ⟨(p, m), ⟨rfl, h, h0, h1⟩, fun w S' ⟨r, e, a, b, c, d⟩ => by rw [e]; exact q r S' a b c d⟩
section
variable {S : Store} {D : MD}
theorem ix_at {S : Store} {n : Nat} {l : List W} {i : Int} {w : W} {Q : WK} (h : S[n]? = some (.lst l)) (hi : wAt l i = some w) (q : Q w S) : wIx (.ref n) (.int i) S Q := by
  show oIx (.int i) S[n]? fun w => Q w S
  rw [h]
  show oW (wAt l i) _
  rw [hi]
  exact q
theorem set_at {S : Store} {n : Nat} {l : List W} {i : Int} {c : Nat} {v : W} {k : Store → Prop} (h : S[n]? = some (.lst l)) (hc : ixN l.length i = some c) (q : k (S.set n (.lst (l.set c v)))) : wSet (.ref n) (.int i) v S k := by
  unfold wSet
  dsimp only
  rw [h]
  show oW (ixN l.length i) _
  rw [hc]
  exact q
theorem vc_take {p : Nat} {m : Int} (h : FdS S p) (h0 : 0 < m) (h1 : m < 1000000) (q : ∀ (r : Int) S', 0 ≤ r → r < m → Fx [p] S S' → FdS S' p → D.rt (.int r) S') : m_x_law_take D [some (.ref p), some (.int m), none] S := by
  obtain ⟨d, st, e, hd, hs1, hs2⟩ := h
  unfold m_x_law_take
  simp only [mSeq, mIfS, mTest, mBin, mVar, mC, lk, mAsg, mRet, mNext]
  refine ix_at e wAt0 ?_
  rw [wGt_int]
  refine ifB (fun g => ?_) fun g => ?_
  · refine ix_at e wAt0 ?_
    refine ⟨h0, ?_⟩
    simp only [mgName, List.set]
    refine ix_at e wAt0 ?_
    refine ⟨⟨h0, by omega⟩, ?_⟩
    unfold mgSub
    simp only [mVar, mC, lk]
    refine set_at e (c := 0) rfl ?_
    refine q _ _ (Int.emod_nonneg _ (by omega)) (Int.emod_lt_of_pos _ h0) (Fx.set (List.mem_singleton.mpr rfl)) ⟨_, _, get_set e, Int.ediv_nonneg hd (by omega), hs1, hs2⟩
  · refine ix_at e wAt1 ?_
    refine ⟨.inr (by decide), ?_⟩
    refine ⟨by show (0 : Int) < 2305843009213693951; decide, ?_⟩
    unfold mgSub
    simp only [mVar, mC, lk]
    refine set_at e (c := 1) rfl ?_
    refine ix_at (get_set e) wAt1 ?_
    refine ⟨⟨by decide, by decide⟩, ?_⟩
    refine ⟨h0, ?_⟩
    exact q _ _ (Int.emod_nonneg _ (by omega)) (Int.emod_lt_of_pos _ h0) (Fx.set (List.mem_singleton.mpr rfl)) ⟨_, _, get_set e, hd, Int.emod_nonneg _ (by decide), Int.emod_lt_of_pos _ (by decide)⟩
end
/-- some[take(feed, len(some))] -/
def PickC : Con := ⟨Nat × W × List W, fun (p, s, l) ws S => ws = [.ref p, s] ∧ FdS S p ∧ s ≠ .ref p ∧ seqW s S = some l ∧ 0 < l.length ∧ l.length < 1000000, fun (p, s, l) S w S' => w ∈ l ∧ Fx [p] S S' ∧ FdS S' p⟩
theorem pick_call {p : Nat} {s : W} {l : List W} {S : Store} {Q : WK} (h : FdS S p) (hs : s ≠ .ref p) (hl : seqW s S = some l) (h0 : 0 < l.length) (h1 : l.length < 1000000) (q : ∀ w S', w ∈ l → Fx [p] S S' → FdS S' p → Q w S') : conR PickC [.ref p, s] S Q :=
  ⟨(p, s, l), ⟨rfl, h, hs, hl, h0, h1⟩, fun w S' ⟨a, b, c⟩ => q w S' a b c⟩
theorem seq_keep {ps : List Nat} {s : W} {l : List W} {S S' : Store} (hl : seqW s S = some l) (f : Fx ps S S') (hs : ∀ n ∈ ps, s ≠ .ref n) : seqW s S' = some l := by
  cases s with
  | ref n =>
    unfold seqW at hl ⊢
    dsimp only at hl ⊢
    cases e : S[n]? with
    | none => rw [e] at hl; cases hl
    | some o =>
      rw [e] at hl
      rw [f.keep n o (fun z => hs n z rfl) e]
      exact hl
  | _ => exact hl
theorem ix_seq {s : W} {l : List W} {S : Store} {i : Int} {w : W} {Q : WK} (hl : seqW s S = some l) (hi : wAt l i = some w) (q : Q w S) : wIx s (.int i) S Q := by
  cases s with
  | tup m =>
    cases hl
    show oW (wAt l i) _
    rw [hi]
    exact q
  | cl m =>
    cases hl
    show oW (wAt l i) _
    rw [hi]
    exact q
  | ref n =>
    unfold seqW at hl
    dsimp only at hl
    cases e : S[n]? with
    | none => rw [e] at hl; cases hl
    | some o =>
      rw [e] at hl
      cases o with
      | lst m =>
        cases hl
        exact ix_at e hi q
      | _ => cases hl
  | _ => cases hl
theorem vc_pick {S : Store} {D : MD} {p : Nat} {s : W} {l : List W} (h : FdS S p) (hs : s ≠ .ref p) (hl : seqW s S = some l) (h0 : 0 < l.length) (h1 : l.length < 1000000) (q : ∀ w S', w ∈ l → Fx [p] S S' → FdS S' p → D.rt w S') : m_x_law_pick TakeC D [some (.ref p), some s] S := by
  unfold m_x_law_pick
  simp only [mSeq, mIfS, mRet, mRetN, mAsg, mDrop, mTest, mBin, mChain, mTru, mAnd, mOr, mNot, mAndV, mOrV, mNotV, mIf, mVar, mC, mCons, mNil, mTup, mLst, mCB, mgName, mNext, mIt, mPar, mAug, lk, wLen_tup, wLe_int, wLt_int, wGt_int, wEq_int, wNe_int, wEq_str, wNe_str, wIx_tup, wAt0, wAt1, wAt2, wAt3, oW_s, tru_bl, List.set]
  refine len_seq hl ?_
  refine take_call h (by omega) (by omega) fun r S' r0 r1 f fd => ?_
  obtain ⟨w, hw⟩ : ∃ w, l[r.toNat]? = some w := ⟨_, List.getElem?_eq_getElem (by omega)⟩
  refine ix_seq (seq_keep hl f fun n hn => by rw [List.mem_singleton.mp hn]; exact hs) (w := w) (by rw [wAt_nat r0]; exact hw) ?_
  exact q w S' (List.mem_of_getElem? hw) f fd
end Ev05

set_option Elab.async false
set_option linter.all false
set_option maxRecDepth 100000
set_option maxHeartbeats 1000000
/-! The law's dice. -/
namespace Ev82
open PySem PySem.Spec PyProof.Rows L2 Ow Ev OwT EvT Ev05
def Dice (S : Store) (p q : Nat) (cs : List Int) (n : Nat) : Prop := p ≠ q ∧ cs.length ≤ 63 ∧ S[q]? = some (.lst (cs.map W.int)) ∧ ∃ a b c : Int, S[p]? = some (.lst [.ref q, .int a, .int b, .int c]) ∧ 0 ≤ a ∧ a ≤ n
def restE : MS := (mSeq (mAsg (mBin wSub (mBin wIx (mVar 0) (mC (.int 2))) (mC (.int 1))) (mgSub (mVar 0) (mC (.int 2))))
  (mSeq (mAsg (mBin wIx (mVar 0) (mC (.int 3))) (mgName 5))
  (mSeq (mAsg (mBin wFdivX (mVar 5) (mVar 1)) (mgSub (mVar 0) (mC (.int 3))))
  (mRet (mBin wMod (mVar 5) (mVar 1))))))
def seedE : MS := (mSeq (mAsg (mBin wMod (mBin wMul (mBin wAdd (mBin wMod (mVar 3) (mC (.int 999953))) (mC (.int 37))) (mBin wAdd (mBin wAdd (mBin wMul (mVar 2) (mVar 2)) (mBin wMul (mC (.int 79)) (mVar 2))) (mC (.int 4001)))) (mC (.int 1000003))) (mgName 4))
  (mSeq (mAsg (mBin wMod (mBin wPow (mVar 4) (mC (.int 3))) (mC (.int 998244353))) (mgName 4))
  (mRet (mBin wMod (mBin wFdivX (mBin wMod (mBin wAdd (mVar 4) (mBin wMul (mC (.int 7109)) (mVar 2))) (mC (.int 1000033))) (mC (.int 2))) (mVar 1)))))
def lateE : MS := (mSeq (mIfS (mOr (mTest (mBin wGe (mVar 2) (mCB wLen (mCons (mBin wIx (mVar 0) (mC (.int 0))) mNil)))) (mTest (mBin wLt (mVar 3) (mBin wPow (mC (.int 10)) (mC (.int 18))))))
  seedE
  mNext)
  (mSeq (mAsg (mC (.int 30)) (mgSub (mVar 0) (mC (.int 2))))
  (mAsg (mBin wSub (mVar 3) (mBin wPow (mC (.int 10)) (mC (.int 18)))) (mgSub (mVar 0) (mC (.int 3))))))
def cellE : MS := (mIfS (mTest (mBin wNe (mBin wIx (mVar 0) (mC (.int 0))) (mLst mNil)))
  (mAsg (mBin wIx (mBin wIx (mVar 0) (mC (.int 0))) (mBin wMod (mVar 2) (mCB wLen (mCons (mBin wIx (mVar 0) (mC (.int 0))) mNil)))) (mgName 3))
  mNext)
theorem roll_eq : m_x_law_roll = (mSeq (mIfS (mTest (mBin wEq (mBin wIx (mVar 0) (mC (.int 2))) (mC (.int 0))))
  (mSeq (mAsg (mBin wIx (mVar 0) (mC (.int 1))) (mgName 2))
  (mSeq (mAsg (mBin wAdd (mVar 2) (mC (.int 1))) (mgSub (mVar 0) (mC (.int 1))))
  (mSeq (mAsg (mC (.int 0)) (mgName 3))
  (mSeq cellE lateE))))
  mNext) restE) := rfl
section
variable {S : Store} {D : MD} {p q : Nat} {a b c m : Int} {e2 e3 e4 e5 : Option W}
theorem roll_rest (hS : S[p]? = some (.lst [.ref q, .int a, .int b, .int c])) (hm : 0 < m) (hl : m.natAbs.log2 < 9000) (k : ∀ r b c S', 0 ≤ r → r < m → Fx [p] S S' → S'[p]? = some (.lst [.ref q, .int a, .int b, .int c]) → D.rt (.int r) S') :
    restE D [some (.ref p), some (.int m), e2, e3, e4, e5] S := by
  unfold restE mgSub
  simp only [mSeq, mIfS, mRet, mRetN, mAsg, mDrop, mTest, mBin, mChain, mTru, mAnd, mOr, mNot, mAndV, mOrV, mNotV, mIf, mVar, mC, mCons, mNil, mTup, mLst, mCB, mgName, mNext, mIt, mPar, mAug, lk, wLen_tup, wLe_int, wLt_int, wGt_int, wEq_int, wNe_int, wEq_str, wNe_str, wIx_tup, wAt0, wAt1, wAt2, wAt3, oW_s, tru_bl, List.set]
  refine ix_at hS rfl ⟨trivial, set_at hS (c := 2) rfl ?_⟩
  have h1 := get_set (o' := .lst [.ref q, .int a, .int (b - 1), .int c]) hS
  refine ix_at h1 rfl ?_
  refine ⟨⟨hm, hl⟩, set_at h1 (c := 3) rfl ⟨hm, ?_⟩⟩
  have h2 := get_set (o' := .lst [.ref q, .int a, .int (b - 1), .int (c / m)]) h1
  exact k _ _ _ _ (Int.emod_nonneg _ (by omega)) (Int.emod_lt_of_pos _ hm) ((Fx.set List.mem_cons_self).trans (Fx.set List.mem_cons_self)) h2
theorem roll_seed {spot cell : Int} (h0 : 0 ≤ spot) (h1 : spot < 2 ^ 60) (hm : 0 < m) (k : ∀ r, 0 ≤ r → r < m → D.rt (.int r) S) :
    seedE D [some (.ref p), some (.int m), some (.int spot), some (.int cell), e4, e5] S := by
  unfold seedE
  simp only [mSeq, mIfS, mRet, mRetN, mAsg, mDrop, mTest, mBin, mChain, mTru, mAnd, mOr, mNot, mAndV, mOrV, mNotV, mIf, mVar, mC, mCons, mNil, mTup, mLst, mCB, mgName, mNext, mIt, mPar, mAug, lk, wLen_tup, wLe_int, wLt_int, wGt_int, wEq_int, wNe_int, wEq_str, wNe_str, wIx_tup, wAt0, wAt1, wAt2, wAt3, oW_s, tru_bl, List.set]
  have c0 := Int.emod_nonneg cell (show (999953 : Int) ≠ 0 by decide)
  have c1 := Int.emod_lt_of_pos cell (show (0 : Int) < 999953 by decide)
  refine ⟨by show (0 : Int) < 999953; decide, ?_⟩
  refine ⟨.inl ⟨by omega, by omega⟩, .inl ⟨by decide, by decide⟩, ?_⟩
  refine ⟨.inl ⟨?_, ?_⟩, by show (0 : Int) < 1000003; decide, ?_⟩
  · show -(2 ^ 64 : Int) < cell % 999953 + 37
    omega
  · show cell % 999953 + 37 < (2 ^ 64 : Int)
    omega
  have s0 := Int.emod_nonneg ((cell % 999953 + 37) * (spot * spot + 79 * spot + 4001)) (show (1000003 : Int) ≠ 0 by decide)
  have s1 := Int.emod_lt_of_pos ((cell % 999953 + 37) * (spot * spot + 79 * spot + 4001)) (show (0 : Int) < 1000003 by decide)
  refine ⟨⟨by decide, by decide, ?_⟩, by show (0 : Int) < 998244353; decide, ?_⟩
  · show Int.natAbs ((cell % 999953 + 37) * (spot * spot + 79 * spot + 4001) % 1000003) < 2 ^ 64
    omega
  refine ⟨.inl ⟨by decide, by decide⟩, by show (0 : Int) < 1000033; decide, ⟨by decide, by decide⟩, hm, ?_⟩
  exact k _ (Int.emod_nonneg _ (by omega)) (Int.emod_lt_of_pos _ hm)
theorem dw_ints {S : Store} : ∀ cs : List Int, DWs S (cs.map W.int) (cs.map PyData.int)
  | [] => .nil
  | i :: r => .cons (.int i) (dw_ints r)
theorem lay_ints : ∀ cs : List Int, PyData.canLayAll0 (cs.map PyData.int) = true ∧ PyData.depthAll (cs.map PyData.int) = 0
  | [] => ⟨by simp [PyData.canLayAll0], by simp [PyData.depthAll]⟩
  | i :: r => by
    obtain ⟨a, b⟩ := lay_ints r
    refine ⟨by simp [PyData.canLayAll0, PyData.canLay0, a], by simp [PyData.depthAll, PyData.depth, b]⟩
theorem shaped_ints (cs : List Int) : SeqAt.shaped (.list (cs.map PyData.int)) = true := by
  obtain ⟨a, b⟩ := lay_ints cs
  unfold SeqAt.shaped PyData.canLay0 PyData.depth
  rw [a, b]
  decide
theorem eqv_ints (cs : List Int) : PyData.eqv (.list (cs.map PyData.int)) (.list []) = cs.isEmpty := by
  cases cs with
  | nil => decide
  | cons i r => simp [PyData.eqv, PyData.eqvAll]
theorem len_at {S : Store} {n : Nat} {l : List W} {Q : WK} (h : S[n]? = some (.lst l)) (q : Q (.int l.length) S) : wLen [.ref n] S Q := by
  show oLen S[n]? fun k => Q (.int k) S
  rw [h]
  exact q
/-- the cell, where there is one -/
theorem cell_ok {cs : List Int} {spot : Int} {S : Store} (hpq : p ≠ q) (hq : S[q]? = some (.lst (cs.map W.int))) (hS : S[p]? = some (.lst [.ref q, .int a, .int b, .int c]))
    (kk : ∀ cell S', Ex S S' → D.nx [some (.ref p), some (.int m), some (.int spot), some (.int cell), e4, e5] S') :
    cellE D [some (.ref p), some (.int m), some (.int spot), some (.int 0), e4, e5] S := by
  unfold cellE
  simp only [mSeq, mIfS, mRet, mRetN, mAsg, mDrop, mTest, mBin, mChain, mTru, mAnd, mOr, mNot, mAndV, mOrV, mNotV, mIf, mVar, mC, mCons, mNil, mTup, mLst, mCB, mgName, mNext, mIt, mPar, mAug, lk, wLen_tup, wLe_int, wLt_int, wGt_int, wEq_int, wNe_int, wEq_str, wNe_str, wIx_tup, wAt0, wAt1, wAt2, wAt3, oW_s, tru_bl, List.set]
  refine ix_at hS rfl ⟨by show 0 ≤ sizeLine; decide, ?_⟩
  have x1 : Ex S (S ++ [O.lst []]) := Ex.one
  have hq1 := x1.at hq
  have hS1 := x1.at hS
  refine ⟨_, _, .lst hq1 (dw_ints cs), .lst (new_at S _) .nil, shaped_ints cs, by decide, ?_⟩
  rw [eqv_ints]
  cases cs with
  | nil => exact ifB (fun e => by cases e) fun _ => kk 0 _ x1
  | cons i r =>
    refine ifB (fun _ => ?_) fun e => by cases e
    refine ix_at hS1 rfl (ix_at hS1 rfl (len_at hq1 ?_))
    have hn : (0 : Int) < (((i :: r).map W.int).length : Int) := by rw [List.length_map, List.length_cons]; omega
    refine ⟨hn, ?_⟩
    have g0 := Int.emod_nonneg spot (show (((i :: r).map W.int).length : Int) ≠ 0 by omega)
    have g1 := Int.emod_lt_of_pos spot hn
    have g2 : (spot % (((i :: r).map W.int).length : Int)).toNat < (i :: r).length := by
      rw [List.length_map] at g0 g1 ⊢
      omega
    have hw : wAt ((i :: r).map W.int) (spot % (((i :: r).map W.int).length : Int)) = some (.int (i :: r)[(spot % (((i :: r).map W.int).length : Int)).toNat]) := by
      rw [wAt_nat g0, List.getElem?_map, List.getElem?_eq_getElem g2]
      rfl
    exact ix_at hq1 hw (kk _ _ x1)
theorem roll_late {cs : List Int} {spot cell : Int} {S : Store} (hq : S[q]? = some (.lst (cs.map W.int))) (hS : S[p]? = some (.lst [.ref q, .int a, .int b, .int c])) (h0 : 0 ≤ spot) (h1 : spot < 2 ^ 60) (hm : 0 < m)
    (kr : ∀ r, 0 ≤ r → r < m → D.rt (.int r) S) (kn : ∀ e S' b c, Fx [p] S S' → S'[p]? = some (.lst [.ref q, .int a, .int b, .int c]) → D.nx [some (.ref p), some (.int m), some (.int spot), some (.int cell), e, e5] S') :
    lateE D [some (.ref p), some (.int m), some (.int spot), some (.int cell), e4, e5] S := by
  unfold lateE mgSub
  refine si0 ?_
  have sd : ∀ D' : MD, D'.rt = D.rt → seedE D' [some (.ref p), some (.int m), some (.int spot), some (.int cell), e4, e5] S := fun D' e => roll_seed h0 h1 hm fun r a b => by rw [e]; exact kr r a b
  simp only [mSeq, mIfS, mRet, mRetN, mAsg, mDrop, mTest, mBin, mChain, mTru, mAnd, mOr, mNot, mAndV, mOrV, mNotV, mIf, mVar, mC, mCons, mNil, mTup, mLst, mCB, mgName, mNext, mIt, mPar, mAug, lk, wLen_tup, wLe_int, wLt_int, wGt_int, wEq_int, wNe_int, wEq_str, wNe_str, wIx_tup, wAt0, wAt1, wAt2, wAt3, oW_s, tru_bl, List.set]
  refine ix_at hS rfl (len_at hq ?_)
  show if _ = true then _ else _
  refine ifB (fun _ => ?_) fun _ => ?_
  · exact ifT (sd _ rfl)
  · refine ⟨⟨by decide, by decide, by decide⟩, ?_⟩
    refine ifB (fun _ => sd _ rfl) fun _ => ?_
    refine set_at hS (c := 2) rfl ?_
    have h1 := get_set (o' := .lst [.ref q, .int a, .int 30, .int c]) hS
    refine ⟨⟨by decide, by decide, by decide⟩, trivial, set_at h1 (c := 3) rfl ?_⟩
    exact kn _ _ _ _ ((Fx.set List.mem_cons_self).trans (Fx.set List.mem_cons_self)) (get_set h1)
theorem vc_roll {cs : List Int} {n : Nat} {S : Store} (h : Dice S p q cs n) (hn : n < 1000000) (hm : 0 < m) (hl : m.natAbs.log2 < 9000) (k : ∀ r S', 0 ≤ r → r < m → Fx [p] S S' → Dice S' p q cs (n + 1) → D.rt (.int r) S') :
    m_x_law_roll D [some (.ref p), some (.int m), none, none, none, none] S := by
  obtain ⟨hpq, hc, hq, a, b, c, hS, a0, an⟩ := h
  have hqp : q ∉ [p] := fun z => hpq (List.mem_singleton.mp z).symm
  rw [roll_eq]
  refine si0 ?_
  simp only [mTest, mBin, mVar, mC, lk]
  refine ix_at hS rfl ?_
  rw [wEq_int]
  have fin : ∀ (S1 : Store) (a b c : Int), Fx [p] S S1 → 0 ≤ a → a ≤ n + 1 → S1[p]? = some (.lst [.ref q, .int a, .int b, .int c]) → ∀ e2 e3 e4 e5, restE D [some (.ref p), some (.int m), e2, e3, e4, e5] S1 := by
    intro S1 a b c f a0 an h1 e2 e3 e4 e5
    refine roll_rest h1 hm hl fun r b' c' S2 r0 r1 f2 h2 => ?_
    have f3 := f.trans f2
    exact k r S2 r0 r1 f3 ⟨hpq, hc, f3.keep q _ hqp hq, a, b', c', h2, a0, by omega⟩
  refine ifB (fun _ => ?_) fun _ => ?_
  · refine sa (ix_at hS rfl ?_)
    refine seq_ok ?_
    unfold mgSub
    simp only [mSeq, mIfS, mRet, mRetN, mAsg, mDrop, mTest, mBin, mChain, mTru, mAnd, mOr, mNot, mAndV, mOrV, mNotV, mIf, mVar, mC, mCons, mNil, mTup, mLst, mCB, mgName, mNext, mIt, mPar, mAug, lk, wLen_tup, wLe_int, wLt_int, wGt_int, wEq_int, wNe_int, wEq_str, wNe_str, wIx_tup, wAt0, wAt1, wAt2, wAt3, oW_s, tru_bl, List.set]
    refine set_at hS (c := 1) rfl ?_
    have h1 := get_set (o' := .lst [.ref q, .int (a + 1), .int b, .int c]) hS
    have f1 : Fx [p] S (S.set p (.lst [.ref q, .int (a + 1), .int b, .int c])) := Fx.set List.mem_cons_self
    have hq1 := f1.keep q _ hqp hq
    have es : S.set p (.lst ([W.ref q, .int a, .int b, .int c].set 1 (.int (a + 1)))) = S.set p (.lst [.ref q, .int (a + 1), .int b, .int c]) := rfl
    rw [es]
    generalize S.set p (.lst [.ref q, .int (a + 1), .int b, .int c]) = S1 at h1 f1 hq1
    refine cell_ok hpq hq1 h1 fun cell S2 x2 => ?_
    have f2 := f1.trans (Fx.ex x2)
    refine roll_late (x2.at hq1) (x2.at h1) a0 (by omega) hm (fun r r0 r1 => ?_) fun e S3 b' c' f3 h3 => ?_
    · exact k r S2 r0 r1 f2 ⟨hpq, hc, f2.keep q _ hqp hq, a + 1, b, c, x2.at h1, by omega, by omega⟩
    · exact fin S3 (a + 1) b' c' (f2.trans f3) (by omega) (by omega) h3 _ _ _ _
  · exact fin S a b c Fx.refl a0 (by omega) hS _ _ _ _
end
abbrev RollC : Con := ⟨Nat × Nat × List Int × Nat × Int, fun (p, q, cs, n, m) ws S => ws = [.ref p, .int m] ∧ Dice S p q cs n ∧ n < 1000000 ∧ 0 < m ∧ m.natAbs.log2 < 9000, fun (p, q, cs, n, m) S w S' => ∃ r, w = .int r ∧ 0 ≤ r ∧ r < m ∧ Fx [p] S S' ∧ Dice S' p q cs (n + 1)⟩
theorem vd_roll : Vc 6 m_x_law_roll RollC := fun (p, q, cs, n, m) ws S ⟨e, h, hn, hm, hl⟩ => by
  subst e
  exact vc_roll h hn hm hl fun r S' a b c d => ⟨r, rfl, a, b, c, d⟩
theorem roll_call {p q n : Nat} {cs : List Int} {m : Int} {S : Store} {Q : WK} (h : Dice S p q cs n) (hn : n < 1000000) (hm : 0 < m) (hl : m.natAbs.log2 < 9000) (k : ∀ r S', 0 ≤ r → r < m → Fx [p] S S' → Dice S' p q cs (n + 1) → Q (.int r) S') : conR RollC [.ref p, .int m] S Q :=
  ⟨(p, q, cs, n, m), ⟨rfl, h, hn, hm, hl⟩, fun w S' ⟨r, e, a, b, c, d⟩ => by rw [e]; exact k r S' a b c d⟩
end Ev82

set_option Elab.async false
set_option linter.all false
set_option maxRecDepth 100000
set_option maxHeartbeats 1000000
/-! One sign, a word, a number. -/
namespace Ev80
open PySem PySem.Spec PyProof.Rows L2 Ow Ev OwT EvT Ev05
open Ev82 (Vc)
/-- the first sign -/
def sg : List Nat → Str
  | [] => ⟨#[]⟩
  | c :: _ => ⟨#[c]⟩
theorem cl_len (z : Str) : (cl z).length = z.length := Array.length_toList
theorem str_cl (z : Str) : (⟨(cl z).toArray⟩ : Str) = z := by
  cases z
  rfl
theorem sIx_nat (n d a : Nat) : HT.sIx n d (some (a : Int)) = min a n := by
  show (if (a : Int) < 0 then ((a : Int) + n).toNat else min (a : Int).toNat n) = _
  rw [if_neg (by omega)]
  rfl
theorem cut_ab (z : Str) (a b : Nat) (h : a ≤ b) (hb : b ≤ z.length) : cutS z (some (a : Int)) (some (b : Int)) = ⟨(((cl z).drop a).take (b - a)).toArray⟩ := by
  unfold cutS
  have e1 : HT.sIx z.length 0 (some (a : Int)) = a := by
    rw [sIx_nat]
    omega
  have e2 : HT.sIx z.length z.length (some (b : Int)) = b := by
    rw [sIx_nat]
    omega
  rw [e1, e2]
theorem cut_sign (z : Str) (a : Nat) : cutS z (some (a : Int)) (some ((a : Int) + 1)) = sg ((cl z).drop a) := by
  by_cases h : a + 1 ≤ z.length
  · rw [show ((a : Int) + 1) = ((a + 1 : Nat) : Int) from rfl, cut_ab z a (a + 1) (by omega) h, show a + 1 - a = 1 by omega]
    cases e : (cl z).drop a with
    | nil => rfl
    | cons c r => rfl
  · have e : (cl z).drop a = [] := List.drop_eq_nil_of_le (by rw [cl_len]; omega)
    unfold cutS
    have e1 : HT.sIx z.length 0 (some (a : Int)) = z.length := by
      rw [sIx_nat]
      omega
    rw [e1, e, List.drop_eq_nil_of_le (by rw [cl_len]; omega), List.take_nil]
    rfl
abbrev SignC : Con := ⟨Str × Nat, fun (T, at_) ws S => ws = [.str T, .int at_] ∧ T.length ≤ sizeLine, fun (T, at_) S w S' => w = .str (sg ((cl T).drop at_)) ∧ S' = S⟩
abbrev LetC : Con := ⟨List Nat, fun L ws S => ws = [.str (sg L)], fun L S w S' => w = .bl (hd isL L) ∧ S' = S⟩
abbrev FigC : Con := ⟨List Nat, fun L ws S => ws = [.str (sg L)], fun L S w S' => w = .bl (hd isD L) ∧ S' = S⟩
theorem vd_sign : Vc 2 m_x_sign_at SignC := fun (T, k) ws S ⟨e, h⟩ => by
  subst e
  show m_x_sign_at _ [some (.str T), some (.int k)] S
  unfold m_x_sign_at
  simp only [mSeq, mIfS, mRet, mRetN, mAsg, mDrop, mTest, mBin, mChain, mTru, mAnd, mOr, mNot, mAndV, mOrV, mNotV, mIf, mVar, mC, mCons, mNil, mTup, mLst, mCB, mgName, mNext, mIt, mPar, mAug, lk, wLen_tup, wLe_int, wLt_int, wGt_int, wEq_int, wNe_int, wEq_str, wNe_str, wIx_tup, wAt0, wAt1, wAt2, wAt3, oW_s, tru_bl, List.set]
  unfold mSl mP
  simp only [mSeq, mIfS, mRet, mRetN, mAsg, mDrop, mTest, mBin, mChain, mTru, mAnd, mOr, mNot, mAndV, mOrV, mNotV, mIf, mVar, mC, mCons, mNil, mTup, mLst, mCB, mgName, mNext, mIt, mPar, mAug, lk, wLen_tup, wLe_int, wLt_int, wGt_int, wEq_int, wNe_int, wEq_str, wNe_str, wIx_tup, wAt0, wAt1, wAt2, wAt3, oW_s, tru_bl, List.set]
  refine ⟨h, ?_⟩
  show W.str (cutS T (some (k : Int)) (some ((k : Int) + 1))) = _ ∧ _
  rw [cut_sign]
  exact ⟨rfl, rfl⟩
theorem lt_one' (a b : Nat) : decide ([a] < [b]) = decide (a < b) := lt_one a b
theorem in_eq (lo hi c : Nat) : (!decide ([c] < [lo]) && !decide ([hi] < [c])) = decide (lo ≤ c ∧ c ≤ hi) := by
  rw [lt_one', lt_one']
  by_cases h1 : lo ≤ c
  · by_cases h2 : c ≤ hi
    · rw [decide_eq_false (show ¬ c < lo by omega), decide_eq_false (show ¬ hi < c by omega), decide_eq_true ⟨h1, h2⟩]
      rfl
    · rw [decide_eq_true (show hi < c by omega), decide_eq_false (show ¬ (lo ≤ c ∧ c ≤ hi) by omega), Bool.not_true, Bool.and_false]
  · rw [decide_eq_true (show c < lo by omega), decide_eq_false (show ¬ (lo ≤ c ∧ c ≤ hi) by omega)]
    rfl
theorem between {lo hi : Nat} {x y : Str} (hx : cl x = [lo]) (hy : cl y = [hi]) (L : List Nat) (S : Store) {env : EvS} {Q : WK} {i : Nat} (he : lk env i = some (.str (sg L))) (q : Q (.bl (hd (fun c => decide (lo ≤ c ∧ c ≤ hi)) L)) S) :
    mChain wLe wLe (mC (.str x)) (mVar i) (mC (.str y)) env S Q := by
  unfold mChain mC mVar
  rw [he]
  show if (!decide (cl (sg L) < cl x)) = true then Q (.bl (!decide (cl y < cl (sg L)))) S else Q (.bl false) S
  rw [hx, hy]
  cases L with
  | nil =>
    refine ifNB (fun e => ?_) fun e => q
    have e : decide (([] : List Nat) < [lo]) = false := e
    simp at e
  | cons c r =>
    have q : Q (.bl (decide (lo ≤ c ∧ c ≤ hi))) S := q
    rw [← in_eq] at q
    show if (!decide ([c] < [lo])) = true then Q (.bl (!decide ([hi] < [c]))) S else Q (.bl false) S
    refine ifB (fun e => ?_) fun e => ?_
    · rw [e, Bool.true_and] at q
      exact q
    · rw [e, Bool.false_and] at q
      exact q
theorem vd_let : Vc 1 m_x_is_letter LetC := fun L ws S e => by
  obtain rfl : ws = [.str (sg L)] := e
  show mChain wLe wLe (mC (.str "a")) (mVar 0) (mC (.str "z")) [some (.str (sg L))] S _
  refine between (lo := 97) (hi := 122) (by decide +kernel) (by decide +kernel) L S rfl ?_
  exact ⟨rfl, rfl⟩
theorem vd_fig : Vc 1 m_x_is_figure FigC := fun L ws S e => by
  obtain rfl : ws = [.str (sg L)] := e
  show mChain wLe wLe (mC (.str "0")) (mVar 0) (mC (.str "9")) [some (.str (sg L))] S _
  refine between (lo := 48) (hi := 57) (by decide +kernel) (by decide +kernel) L S rfl ?_
  exact ⟨rfl, rfl⟩
section
variable {S : Store} {Q : WK} {T : Str} {k : Nat} {L : List Nat}
theorem sign_call (h : T.length ≤ sizeLine) (e : (cl T).drop k = L) (q : Q (.str (sg L)) S) : conR SignC [.str T, .int k] S Q := ⟨(T, k), ⟨rfl, h⟩, fun w S' ⟨a, b⟩ => by
  have a : w = .str (sg ((cl T).drop k)) := a
  have b : S' = S := b
  rw [a, b, e]
  exact q⟩
theorem let_call (q : Q (.bl (hd isL L)) S) : conR LetC [.str (sg L)] S Q := ⟨L, rfl, fun w S' ⟨a, b⟩ => by rw [a, b]; exact q⟩
theorem fig_call (q : Q (.bl (hd isD L)) S) : conR FigC [.str (sg L)] S Q := ⟨L, rfl, fun w S' ⟨a, b⟩ => by rw [a, b]; exact q⟩
theorem let_t {R : Bool → Store → Prop} (q : R (hd isL L) S) : conR LetC [.str (sg L)] S fun w S' => Ev.wTru w S' R := let_call (Q := fun w S' => Ev.wTru w S' R) q
theorem fig_t {R : Bool → Store → Prop} (q : R (hd isD L) S) : conR FigC [.str (sg L)] S fun w S' => Ev.wTru w S' R := fig_call (Q := fun w S' => Ev.wTru w S' R) q
theorem sg_ne {c : Nat} {z : Str} (hz : cl z = [c]) : decide (sg L = z) = hd (fun x => decide (x = c)) L := by
  cases L with
  | nil =>
    refine decide_eq_false fun e => ?_
    have : cl (sg []) = [c] := by rw [e, hz]
    cases this
  | cons a r =>
    show decide ((⟨#[a]⟩ : Str) = z) = decide (a = c)
    by_cases h : a = c
    · subst h
      rw [decide_eq_true (show (⟨#[a]⟩ : Str) = z by rw [← str_cl z, hz]), decide_eq_true rfl]
    · rw [decide_eq_false h]
      exact decide_eq_false fun e => h (by
        have : cl (⟨#[a]⟩ : Str) = [c] := by rw [e, hz]
        exact (List.cons.inj this).1)
end
/-- x = y -/
theorem sav {i j : Nat} {w : W} {q : MS} {D : MD} {e : EvS} {S : Store} (hj : lk e j = some w) (h : q D (e.set i (some w)) S) : mSeq (mAsg (mVar j) (mgName i)) q D e S := by
  show mVar j e S fun w S' => q D (e.set i (some w)) S'
  unfold mVar
  rw [hj]
  exact h
theorem sac {i : Nat} {w : W} {q : MS} {D : MD} {e : EvS} {S : Store} (h : q D (e.set i (some w)) S) : mSeq (mAsg (mC w) (mgName i)) q D e S := h
/-! ### a word -/
abbrev RdWordC : Con := ⟨Str × Nat × List Nat × List Nat, fun (T, k, wd, r) ws S => ws = [.str T, .int k] ∧ T.length ≤ sizeLine ∧ (cl T).drop k = wd ++ r ∧ k + wd.length ≤ T.length ∧ wd.length ≤ 8 ∧ (∀ c ∈ wd, isL c = true) ∧ hd isL r = false, fun (T, k, wd, r) S w S' => w = .tup [.str ⟨wd.toArray⟩, .int ((k + wd.length : Nat) : Int)] ∧ S' = S⟩
def wordT : MT := (mAnd (mTru (mCB (conR LetC) (mCons (mCB (conR SignC) (mCons (mVar 0) (mCons (mVar 2) mNil))) mNil))) (mTest (mBin wLt (mBin wSub (mVar 2) (mVar 1)) (mC (.int (8))))))
def wordB : MS := (mAug 2 (wInt (fun i j => i + j) fun _ _ => True) (mC (.int 1)))
theorem word_loop {T : Str} {k : Nat} {wd r : List Nat} {S : Store} {D : MD} (h : T.length ≤ sizeLine) (e : (cl T).drop k = wd ++ r) (h8 : wd.length ≤ 8) (hw : ∀ c ∈ wd, isL c = true) (hr : hd isL r = false)
    (q : D.nx [some (.str T), some (.int k), some (.int ((k + wd.length : Nat) : Int))] S) : ∀ m j, j + m = wd.length → whL wordT wordB D (m + 1) [some (.str T), some (.int k), some (.int ((k + j : Nat) : Int))] S
  | 0, j, hj => by
    obtain rfl : j = wd.length := by omega
    show wordT _ _ _
    unfold wordT
    simp only [mSeq, mIfS, mRet, mRetN, mAsg, mDrop, mTest, mBin, mChain, mTru, mAnd, mOr, mNot, mAndV, mOrV, mNotV, mIf, mVar, mC, mCons, mNil, mTup, mLst, mCB, mgName, mNext, mIt, mPar, mAug, lk, wLen_tup, wLe_int, wLt_int, wGt_int, wEq_int, wNe_int, wEq_str, wNe_str, wIx_tup, wAt0, wAt1, wAt2, wAt3, oW_s, tru_bl, List.set]
    have e1 : (cl T).drop (k + wd.length) = r := by
      rw [← List.drop_drop, e, List.drop_left]
    refine sign_call h e1 (let_t ?_)
    rw [hr]
    exact ifB (fun e => by cases e) fun _ => ifB (fun e => by cases e) fun _ => q
  | m + 1, j, hj => by
    have ih := word_loop h e h8 hw hr q m (j + 1) (by omega)
    unfold whL
    generalize whL wordT wordB D (m + 1) = NX at ih ⊢
    unfold wordT
    simp only [mSeq, mIfS, mRet, mRetN, mAsg, mDrop, mTest, mBin, mChain, mTru, mAnd, mOr, mNot, mAndV, mOrV, mNotV, mIf, mVar, mC, mCons, mNil, mTup, mLst, mCB, mgName, mNext, mIt, mPar, mAug, lk, wLen_tup, wLe_int, wLt_int, wGt_int, wEq_int, wNe_int, wEq_str, wNe_str, wIx_tup, wAt0, wAt1, wAt2, wAt3, oW_s, tru_bl, List.set]
    have e1 : (cl T).drop (k + j) = wd.drop j ++ r := by
      rw [← List.drop_drop, e, List.drop_append_of_le_length (by omega)]
    have e2 : hd isL (wd.drop j ++ r) = true := by
      rw [List.drop_eq_getElem_cons (show j < wd.length by omega)]
      exact hw _ (List.getElem_mem _)
    refine sign_call h e1 (let_t ?_)
    rw [e2]
    refine ifB (fun _ => ⟨trivial, ?_⟩) fun e => by cases e
    show if decide ((((k + j : Nat) : Int) - (k : Int)) < 8) = true then _ else _
    rw [decide_eq_true (show (((k + j : Nat) : Int) - (k : Int)) < 8 by omega)]
    refine ifB (fun _ => ?_) fun e => by cases e
    unfold wordB
    simp only [mSeq, mIfS, mRet, mRetN, mAsg, mDrop, mTest, mBin, mChain, mTru, mAnd, mOr, mNot, mAndV, mOrV, mNotV, mIf, mVar, mC, mCons, mNil, mTup, mLst, mCB, mgName, mNext, mIt, mPar, mAug, lk, wLen_tup, wLe_int, wLt_int, wGt_int, wEq_int, wNe_int, wEq_str, wNe_str, wIx_tup, wAt0, wAt1, wAt2, wAt3, oW_s, tru_bl, List.set]
    exact ⟨trivial, ih⟩
theorem vd_read_word : Vc 3 (m_x_read_word LetC SignC) RdWordC := fun (T, k, wd, r) ws S ⟨e, h, hd1, hk, h8, hw, hr⟩ => by
  subst e
  show m_x_read_word _ _ _ [some (.str T), some (.int k), none] S
  refine sav (i := 2) rfl ?_
  refine seq_ok ⟨wd.length + 1, ?_⟩
  refine word_loop (j := 0) h hd1 h8 hw hr ?_ wd.length (by omega)
  dsimp only
  refine ret_ok ?_
  unfold mSl mP
  simp only [mSeq, mIfS, mRet, mRetN, mAsg, mDrop, mTest, mBin, mChain, mTru, mAnd, mOr, mNot, mAndV, mOrV, mNotV, mIf, mVar, mC, mCons, mNil, mTup, mLst, mCB, mgName, mNext, mIt, mPar, mAug, lk, wLen_tup, wLe_int, wLt_int, wGt_int, wEq_int, wNe_int, wEq_str, wNe_str, wIx_tup, wAt0, wAt1, wAt2, wAt3, oW_s, tru_bl, List.set]
  refine ⟨h, ?_⟩
  rw [cut_ab T k (k + wd.length) (by omega) hk, hd1, show k + wd.length - k = wd.length by omega, List.take_left]
  exact ⟨by show 2 ≤ sizeLine; decide, rfl, rfl⟩
end Ev80

set_option Elab.async false
set_option linter.all false
set_option maxRecDepth 100000
set_option maxHeartbeats 1000000
/-! A number's figures, and how a number is read. -/
namespace Ev80
open PySem PySem.Spec PyProof.Rows L2 Ow Ev OwT EvT Ev05
open Ev82 (Vc)
theorem fold_ge : ∀ (b : List Nat) (n : Nat), n ≤ b.foldl (fun n d => n * 10 + d) n
  | [], n => Nat.le_refl n
  | d :: b, n => Nat.le_trans (by omega) (fold_ge b (n * 10 + d))
theorem va_app (a b : List Nat) : va a ≤ va (a ++ b) := by
  unfold va
  rw [List.foldl_append]
  exact fold_ge b _
theorem va_snoc (a : List Nat) (d : Nat) : va (a ++ [d]) = va a * 10 + d := by
  unfold va
  rw [List.foldl_append]
  rfl
theorem va_take_le (ds : List Nat) (j : Nat) : va (ds.take j) ≤ va ds := by
  have := va_app (ds.take j) (ds.drop j)
  rwa [List.take_append_drop] at this
theorem va_take_pos {ds : List Nat} (h : ds.head? ≠ some 0) {j : Nat} (hj : 1 ≤ j) (hl : j ≤ ds.length) : 1 ≤ va (ds.take j) := by
  cases ds with
  | nil =>
    have : j ≤ 0 := hl
    omega
  | cons d r =>
    cases j with
    | zero => omega
    | succ j =>
      have hd : d ≠ 0 := fun z => h (by rw [z]; rfl)
      show 1 ≤ (d :: r.take j).foldl (fun n d => n * 10 + d) 0
      rw [List.foldl_cons]
      exact Nat.le_trans (by omega) (fold_ge _ _)
theorem dig_ex (n : Nat) : ∃ ds : List Nat, ds ≠ [] ∧ (∀ d ∈ ds, d < 10) ∧ (ds.head? = some 0 → ds = [0]) ∧ va ds = n ∧ Nat.toDigits 10 n = ds.map Nat.digitChar := by
  induction n using Nat.strongRecOn with
  | _ n ih =>
    by_cases h : n < 10
    · exact ⟨[n], by simp, fun d hd => by rw [List.mem_singleton.mp hd]; exact h, fun e => by
        have : n = 0 := Option.some.inj e
        rw [this], by show 0 * 10 + n = n; omega, Nat.toDigits_of_lt_base h⟩
    · obtain ⟨ds, h1, h2, h3, h4, h5⟩ := ih (n / 10) (by omega)
      refine ⟨ds ++ [n % 10], by simp, fun d hd => ?_, fun e => ?_, ?_, ?_⟩
      · rcases List.mem_append.mp hd with hd | hd
        · exact h2 d hd
        · rw [List.mem_singleton.mp hd]
          omega
      · have e2 : ds.head? = some 0 := by
          cases ds with
          | nil => exact (h1 rfl).elim
          | cons a b => exact e
        have e3 := h3 e2
        rw [e3] at h4
        have : va [0] = 0 := rfl
        omega
      · rw [va_snoc, h4]
        omega
      · rw [Nat.toDigits_of_base_le (by decide) (by omega), h5, List.map_append]
        rfl
theorem fig_char : ∀ {d : Nat}, d < 10 → (Nat.digitChar d).toNat = 48 + d := by
  intro d h
  have : d = 0 ∨ d = 1 ∨ d = 2 ∨ d = 3 ∨ d = 4 ∨ d = 5 ∨ d = 6 ∨ d = 7 ∨ d = 8 ∨ d = 9 := by omega
  rcases this with rfl | rfl | rfl | rfl | rfl | rfl | rfl | rfl | rfl | rfl <;> rfl
theorem cl_of (s : String) : cl (s : Str) = s.toList.map Char.toNat := by
  show (Str.ofString s).cps.toList = _
  rw [PySem.Str.ofString_eq_toList]
theorem cl_nat (n : Nat) : ∃ ds : List Nat, ds ≠ [] ∧ (∀ d ∈ ds, d < 10) ∧ (ds.head? = some 0 → ds = [0]) ∧ va ds = n ∧ n.repr.toList.map Char.toNat = fg ds := by
  obtain ⟨ds, h1, h2, h3, h4, h5⟩ := dig_ex n
  refine ⟨ds, h1, h2, h3, h4, ?_⟩
  rw [Nat.toList_repr, h5, List.map_map]
  exact List.map_congr_left fun d hd => fig_char (h2 d hd)
/-- a number within the bounds is a part to be read -/
theorem lf_int {i : Int} (h1 : -(10 ^ 18) ≤ i) (h2 : i ≤ 10 ^ 18) : Lf (.int i) (cl (toString i : String)) := by
  rw [cl_of]
  show Lf _ (i.repr.toList.map Char.toNat)
  rw [Int.repr_eq_if]
  by_cases h : 0 ≤ i
  · rw [if_pos h]
    obtain ⟨ds, a, b, c, d, e⟩ := cl_nat i.toNat
    rw [e]
    have : i = (va ds : Int) := by omega
    rw [this]
    exact .pos ds a b c (by omega)
  · rw [if_neg h]
    obtain ⟨ds, a, b, c, d, e⟩ := cl_nat (-i).toNat
    rw [String.toList_append, List.map_append, e]
    have : i = -(va ds : Int) := by omega
    rw [this]
    refine .neg ds a b (fun z => ?_) (by omega)
    have z1 := c z
    rw [z1] at d
    have : va [0] = 0 := rfl
    omega
/-! ### reading it -/
theorem int_fig {d : Nat} (h : d < 10) : PySem.intText? (⟨#[48 + d]⟩ : Str) = some (d : Int) := by
  have : d = 0 ∨ d = 1 ∨ d = 2 ∨ d = 3 ∨ d = 4 ∨ d = 5 ∨ d = 6 ∨ d = 7 ∨ d = 8 ∨ d = 9 := by omega
  rcases this with rfl | rfl | rfl | rfl | rfl | rfl | rfl | rfl | rfl | rfl <;> decide +kernel
def numT : MT := (mAnd (mTru (mCB (conR FigC) (mCons (mCB (conR SignC) (mCons (mVar 0) (mCons (mVar 2) mNil))) mNil))) (mOr (mTest (mBin wNe (mVar 4) (mC (.int 0)))) (mTest (mBin wEq (mVar 2) (mVar 5)))))
def numB : MS := (mSeq (mAsg (mBin wAdd (mBin wMul (mVar 4) (mC (.int 10))) (mBin wMul (mVar 3) (mCB wIntS (mCons (mCB (conR SignC) (mCons (mVar 0) (mCons (mVar 2) mNil))) mNil)))) (mgName 6))
  (mSeq (mIfS (mNot (mTest (mChain wLe wLe (mC (.int (-1000000000000000000))) (mVar 6) (mC (.int (1000000000000000000))))))
  mBreak
  mNext)
  (mSeq (mAsg (mVar 6) (mgName 4))
  (mAug 2 (wInt (fun i j => i + j) fun _ _ => True) (mC (.int 1))))))
def numF : MS := (mSeq (mAsg (mC (.int 0)) (mgName 4))
  (mSeq (mAsg (mVar 2) (mgName 5))
  (mSeq (mWh numT numB)
  (mRet (mTup (mCons (mVar 4) (mCons (mVar 2) mNil)))))))
def numE : MS := (mSeq (mIfS (mNot (mTru (mCB (conR FigC) (mCons (mCB (conR SignC) (mCons (mVar 0) (mCons (mVar 2) mNil))) mNil))))
  mNever
  mNext) numF)
def negE : MS := (mSeq (mAug 2 (wInt (fun i j => i + j) fun _ _ => True) (mC (.int 1)))
  (mSeq (mAsg (mNeg (mC (.int 1))) (mgName 3))
  (mIfS (mTest (mBin wEq (mCB (conR SignC) (mCons (mVar 0) (mCons (mVar 2) mNil))) (mC (.str "0"))))
  mNever
  mNext)))
theorem num_eq : m_x_read_number SignC FigC = (mSeq (mAsg (mVar 1) (mgName 2))
  (mSeq (mAsg (mC (.int 1)) (mgName 3))
  (mSeq (mIfS (mTest (mBin wEq (mCB (conR SignC) (mCons (mVar 0) (mCons (mVar 1) mNil))) (mC (.str "-")))) negE mNext) numE))) := rfl
section
variable {T : Str} {k b : Nat} {ds r : List Nat} {S : Store} {D : MD} {s : Int}
theorem fg_drop (ds : List Nat) (j : Nat) : (fg ds).drop j = fg (ds.drop j) := (List.map_drop).symm
theorem num_turn {v : Nat} {m : Nat} {e6 : Option W} (h : T.length ≤ sizeLine) (hs : s = 1 ∨ s = -1) {d : Nat} {L : List Nat} (e : (cl T).drop b = (48 + d) :: L) (hd : d < 10) (hv : v * 10 + d ≤ 10 ^ 18)
    (q : ∀ e6, D.nx [some (.str T), some (.int k), some (.int ((b + 1 : Nat) : Int)), some (.int s), some (.int (s * ((v * 10 + d : Nat) : Int))), some (.int m), e6] S) :
    numB D [some (.str T), some (.int k), some (.int b), some (.int s), some (.int (s * (v : Int))), some (.int m), e6] S := by
  unfold numB
  refine sa (i := 6) ?_
  simp only [mBin, mCB, mCons, mNil, mVar, mC, lk]
  have hv2 : v < 2 ^ 62 := by omega
  refine ⟨.inl ⟨?_, ?_⟩, ?_⟩
  · show -(2 ^ 64 : Int) < s * (v : Int)
    rcases hs with rfl | rfl <;> omega
  · show s * (v : Int) < (2 ^ 64 : Int)
    rcases hs with rfl | rfl <;> omega
  refine sign_call h e ?_
  refine ⟨d, int_fig hd, by show 1 ≤ 640; decide, ?_⟩
  refine ⟨.inl ⟨?_, ?_⟩, ?_⟩
  · show -(2 ^ 64 : Int) < s
    rcases hs with rfl | rfl <;> decide
  · show s < (2 ^ 64 : Int)
    rcases hs with rfl | rfl <;> decide
  have e1 : s * (v : Int) * 10 + s * (d : Int) = s * ((v * 10 + d : Nat) : Int) := by
    rcases hs with rfl | rfl <;> push_cast <;> omega
  have b1 : (-1000000000000000000 : Int) ≤ s * ((v * 10 + d : Nat) : Int) := by
    rcases hs with rfl | rfl <;> omega
  have b2 : s * ((v * 10 + d : Nat) : Int) ≤ (1000000000000000000 : Int) := by
    rcases hs with rfl | rfl <;> omega
  refine si0 ?_
  show (mNot (mTest (mChain wLe wLe _ _ _))) [_, _, _, _, _, _, some (.int (s * (v : Int) * 10 + s * (d : Int)))] S _
  rw [e1]
  unfold mNot mTest mChain mC mVar
  show if decide _ = true then _ else _
  rw [decide_eq_true b1]
  refine ifB (fun _ => ?_) fun e => by cases e
  show if (!decide _) = true then _ else _
  rw [decide_eq_true b2]
  refine ifB (fun e => by cases e) fun _ => ?_
  refine sav (i := 4) rfl ?_
  exact ⟨trivial, q _⟩
theorem num_loop (h : T.length ≤ sizeLine) (hs : s = 1 ∨ s = -1) (e : (cl T).drop b = fg ds ++ r) (h9 : ∀ d ∈ ds, d < 10) (h0 : ds.head? = some 0 → ds = [0]) (hv : va ds ≤ 10 ^ 18) (hr : hd isD r = false)
    (q : ∀ e6, D.nx [some (.str T), some (.int k), some (.int ((b + ds.length : Nat) : Int)), some (.int s), some (.int (s * (va ds : Int))), some (.int b), e6] S) :
    ∀ m j, j + m = ds.length → ∀ e6, whL numT numB D (m + 1) [some (.str T), some (.int k), some (.int ((b + j : Nat) : Int)), some (.int s), some (.int (s * (va (ds.take j) : Int))), some (.int b), e6] S
  | 0, j, hj, e6 => by
    obtain rfl : j = ds.length := by omega
    show numT _ _ _
    unfold numT
    simp only [mSeq, mIfS, mRet, mRetN, mAsg, mDrop, mTest, mBin, mChain, mTru, mAnd, mOr, mNot, mAndV, mOrV, mNotV, mIf, mVar, mC, mCons, mNil, mTup, mLst, mCB, mgName, mNext, mIt, mPar, mAug, lk, wLen_tup, wLe_int, wLt_int, wGt_int, wEq_int, wNe_int, wEq_str, wNe_str, wIx_tup, wAt0, wAt1, wAt2, wAt3, oW_s, tru_bl, List.set]
    have e1 : (cl T).drop (b + ds.length) = r := by
      rw [← List.drop_drop, e, show ds.length = (fg ds).length from (List.length_map _).symm, List.drop_left]
    refine sign_call h e1 (fig_t ?_)
    rw [hr, List.take_length]
    exact ifB (fun e => by cases e) fun _ => ifB (fun e => by cases e) fun _ => q _
  | m + 1, j, hj, e6 => by
    have ih := num_loop h hs e h9 h0 hv hr q m (j + 1) (by omega)
    unfold whL
    generalize whL numT numB D (m + 1) = NX at ih ⊢
    have hjl : j < ds.length := by omega
    have e1 : (cl T).drop (b + j) = (48 + ds[j]) :: (fg (ds.drop (j + 1)) ++ r) := by
      rw [← List.drop_drop, e, List.drop_append_of_le_length (by show j ≤ (ds.map _).length; rw [List.length_map]; omega), fg_drop, List.drop_eq_getElem_cons hjl]
      rfl
    have h10 := h9 _ (List.getElem_mem hjl)
    have e2 : hd isD ((48 + ds[j]) :: (fg (ds.drop (j + 1)) ++ r)) = true := by
      show isD (48 + ds[j]) = true
      unfold isD
      exact decide_eq_true (by omega)
    have e3 : ds.take (j + 1) = ds.take j ++ [ds[j]] := List.take_succ_eq_append_getElem hjl
    have e4 : va (ds.take (j + 1)) = va (ds.take j) * 10 + ds[j] := by rw [e3, va_snoc]
    have b4 := va_take_le ds (j + 1)
    have step : numB { nx := NX, rt := D.rt, bk := D.nx, ct := NX } [some (.str T), some (.int k), some (.int ((b + j : Nat) : Int)), some (.int s), some (.int (s * (va (ds.take j) : Int))), some (.int b), e6] S := by
      refine num_turn h hs e1 h10 (by omega) fun e6 => ?_
      rw [← e4]
      exact ih e6
    unfold numT
    simp only [mSeq, mIfS, mRet, mRetN, mAsg, mDrop, mTest, mBin, mChain, mTru, mAnd, mOr, mNot, mAndV, mOrV, mNotV, mIf, mVar, mC, mCons, mNil, mTup, mLst, mCB, mgName, mNext, mIt, mPar, mAug, lk, wLen_tup, wLe_int, wLt_int, wGt_int, wEq_int, wNe_int, wEq_str, wNe_str, wIx_tup, wAt0, wAt1, wAt2, wAt3, oW_s, tru_bl, List.set]
    refine sign_call h e1 (fig_t ?_)
    rw [e2]
    refine ifB (fun _ => ?_) fun e => by cases e
    refine ifNB (fun _ => ifT step) fun z => ?_
    have z := of_decide_eq_true z
    have z2 : va (ds.take j) = 0 := by
      rcases hs with rfl | rfl <;> omega
    have z3 : j = 0 := by
      rcases Nat.eq_zero_or_pos j with z | z
      · exact z
      · exfalso
        by_cases hh : ds.head? = some 0
        · have := h0 hh
          rw [this] at hjl
          have : j < 1 := hjl
          omega
        · have := va_take_pos hh z (by omega)
          omega
    subst z3
    rw [decide_eq_true (show ((b + 0 : Nat) : Int) = (b : Int) by omega)]
    exact ifB (fun _ => step) fun e => by cases e
theorem num_rest {e4 e5 e6 : Option W} (h : T.length ≤ sizeLine) (hs : s = 1 ∨ s = -1) (e : (cl T).drop b = fg ds ++ r) (hn : ds ≠ []) (h9 : ∀ d ∈ ds, d < 10) (h0 : ds.head? = some 0 → ds = [0]) (hv : va ds ≤ 10 ^ 18) (hr : hd isD r = false)
    (q : D.rt (.tup [.int (s * (va ds : Int)), .int ((b + ds.length : Nat) : Int)]) S) :
    numE D [some (.str T), some (.int k), some (.int b), some (.int s), e4, e5, e6] S := by
  unfold numE
  refine si0 ?_
  simp only [mNot, mTru, mCB, mCons, mNil, mVar, lk]
  refine sign_call h e (fig_t ?_)
  have e2 : hd isD (fg ds ++ r) = true := by
    cases ds with
    | nil => exact (hn rfl).elim
    | cons d l =>
      show isD (48 + d) = true
      have := h9 d List.mem_cons_self
      unfold isD
      exact decide_eq_true (by omega)
  rw [e2]
  refine ifB (fun e => by cases e) fun _ => ?_
  unfold numF
  refine sac (i := 4) ?_
  refine sav (i := 5) rfl ?_
  refine seq_ok ⟨ds.length + 1, ?_⟩
  have key := num_loop (D := { D with nx := fun e S' => (mRet (mTup (mCons (mVar 4) (mCons (mVar 2) mNil)))) D e S' }) (k := k) (S := S) h hs e h9 h0 hv hr (fun e6 => ?_) ds.length 0 (by omega) e6
  · have e5 : s * (va (ds.take 0) : Int) = 0 := by
      show s * ((0 : Nat) : Int) = 0
      rcases hs with rfl | rfl <;> rfl
    rw [e5] at key
    exact key
  · dsimp only
    refine ret_ok ?_
    simp only [mSeq, mIfS, mRet, mRetN, mAsg, mDrop, mTest, mBin, mChain, mTru, mAnd, mOr, mNot, mAndV, mOrV, mNotV, mIf, mVar, mC, mCons, mNil, mTup, mLst, mCB, mgName, mNext, mIt, mPar, mAug, lk, wLen_tup, wLe_int, wLt_int, wGt_int, wEq_int, wNe_int, wEq_str, wNe_str, wIx_tup, wAt0, wAt1, wAt2, wAt3, oW_s, tru_bl, List.set]
    exact ⟨by show 2 ≤ sizeLine; decide, q⟩
theorem num_pos (h : T.length ≤ sizeLine) (e : (cl T).drop b = fg ds ++ r) (hn : ds ≠ []) (h9 : ∀ d ∈ ds, d < 10) (h0 : ds.head? = some 0 → ds = [0]) (hv : va ds ≤ 10 ^ 18) (hr : hd isD r = false)
    (q : D.rt (.tup [.int (va ds : Int), .int ((b + (fg ds).length : Nat) : Int)]) S) : m_x_read_number SignC FigC D [some (.str T), some (.int b), none, none, none, none, none] S := by
  rw [num_eq]
  refine sav (i := 2) rfl ?_
  refine sac (i := 3) ?_
  refine si0 ?_
  simp only [mTest, mBin, mCB, mCons, mNil, mVar, mC, lk, List.set]
  refine sign_call h e ?_
  rw [wEq_str, sg_ne (c := 45) (by decide +kernel)]
  have e2 : hd (fun x => decide (x = 45)) (fg ds ++ r) = false := by
    cases ds with
    | nil => exact (hn rfl).elim
    | cons d l => exact decide_eq_false (show ¬ 48 + d = 45 by omega)
  rw [e2]
  refine ifB (fun e => by cases e) fun _ => ?_
  refine num_rest h (.inl rfl) e hn h9 h0 hv hr ?_
  rw [show (fg ds).length = ds.length from List.length_map _] at q
  rw [Int.one_mul]
  exact q
theorem num_neg (h : T.length ≤ sizeLine) (e : (cl T).drop b = 45 :: (fg ds ++ r)) (hn : ds ≠ []) (h9 : ∀ d ∈ ds, d < 10) (h0 : ds.head? ≠ some 0) (hv : va ds ≤ 10 ^ 18) (hr : hd isD r = false)
    (q : D.rt (.tup [.int (-(va ds : Int)), .int ((b + (45 :: fg ds).length : Nat) : Int)]) S) : m_x_read_number SignC FigC D [some (.str T), some (.int b), none, none, none, none, none] S := by
  rw [num_eq]
  refine sav (i := 2) rfl ?_
  refine sac (i := 3) ?_
  refine si0 ?_
  simp only [mTest, mBin, mCB, mCons, mNil, mVar, mC, lk, List.set]
  refine sign_call h e ?_
  rw [wEq_str, sg_ne (c := 45) (by decide +kernel)]
  rw [show hd (fun x => decide (x = 45)) (45 :: (fg ds ++ r)) = true from rfl]
  refine ifB (fun _ => ?_) fun e => by cases e
  have e1 : (cl T).drop (b + 1) = fg ds ++ r := by
    rw [← List.drop_drop, e]
    rfl
  unfold negE
  refine seq_ok ⟨trivial, ?_⟩
  dsimp only
  refine sa (i := 3) (m := mNeg (mC (.int 1))) ?_
  simp only [mNeg, mIfS, mTest, mBin, mCB, mCons, mNil, mVar, mC, lk, List.set]
  refine sign_call h e1 ?_
  rw [wEq_str, sg_ne (c := 48) (by decide +kernel)]
  have e2 : hd (fun x => decide (x = 48)) (fg ds ++ r) = false := by
    cases ds with
    | nil => exact (hn rfl).elim
    | cons d l => exact decide_eq_false (show ¬ 48 + d = 48 from fun z => h0 (by rw [show d = 0 by omega]; rfl))
  rw [e2]
  refine ifB (fun e => by cases e) fun _ => ?_
  refine num_rest h (.inr rfl) e1 hn h9 (fun z => (h0 z).elim) hv hr ?_
  have e3 : (b + (45 :: fg ds).length) = b + 1 + ds.length := by
    rw [List.length_cons, show (fg ds).length = ds.length from List.length_map _]
    omega
  rw [e3] at q
  rw [show (-1 : Int) * (va ds : Int) = -(va ds : Int) by omega]
  exact q
end
/-! ### a part -/
abbrev RdNumC : Con := ⟨Str × Nat × W × List Nat × List Nat, fun (T, k, p, L, r) ws S => ws = [.str T, .int k] ∧ T.length ≤ sizeLine ∧ Lf p L ∧ (cl T).drop k = L ++ r ∧ hd isD r = false ∧ (∃ i, p = .int i), fun (T, k, p, L, r) S w S' => w = .tup [p, .int ((k + L.length : Nat) : Int)] ∧ S' = S⟩
theorem vd_read_number : Vc 7 (m_x_read_number SignC FigC) RdNumC := fun (T, k, p, L, r) ws S ⟨e, h, hl, e1, hr, i, hi⟩ => by
  subst e
  show m_x_read_number _ _ _ [some (.str T), some (.int k), none, none, none, none, none] S
  cases hl with
  | wd z _ _ _ => cases hi
  | pos ds a b c d => exact num_pos h e1 a b c d hr ⟨rfl, rfl⟩
  | neg ds a b c d => exact num_neg h e1 a b c d hr ⟨rfl, rfl⟩
abbrev RdPartC : Con := ⟨Str × Nat × W × List Nat × List Nat, fun (T, k, p, L, r) ws S => ws = [.str T, .int k] ∧ T.length ≤ sizeLine ∧ Lf p L ∧ (cl T).drop k = L ++ r ∧ stop r ∧ k + L.length ≤ T.length, fun (T, k, p, L, r) S w S' => w = .tup [p, .int ((k + L.length : Nat) : Int)] ∧ S' = S⟩
theorem stop_L {r : List Nat} (h : stop r) : hd isL r = false ∧ hd isD r = false := by
  obtain ⟨c, r', rfl, h⟩ := h
  rcases h with rfl | rfl <;> exact ⟨rfl, rfl⟩
theorem vd_read_part : Vc 2 (m_x_read_part LetC SignC RdWordC RdNumC) RdPartC := fun (T, k, p, L, r) ws S ⟨e, h, hl, e1, hr, hk⟩ => by
  subst e
  show m_x_read_part _ _ _ _ _ [some (.str T), some (.int k)] S
  obtain ⟨s1, s2⟩ := stop_L hr
  unfold m_x_read_part
  refine si0 ?_
  simp only [mTru, mCB, mCons, mNil, mVar, mC, lk]
  refine sign_call h e1 (let_t ?_)
  cases hl with
  | wd z z1 z8 zl =>
    have e2 : hd isL (cl z ++ r) = true := by
      cases ez : cl z with
      | nil =>
        have := cl_len z
        rw [ez] at this
        have h0 : ([] : List Nat).length = 0 := rfl
        omega
      | cons c l => exact zl c (by rw [ez]; exact List.mem_cons_self)
    rw [e2]
    refine ifB (fun _ => ret_ok ?_) fun e => by cases e
    refine ⟨(T, k, cl z, r), ⟨rfl, h, e1, hk, by rw [cl_len]; exact z8, zl, s1⟩, fun w S' ⟨a, b⟩ => ?_⟩
    rw [a, b]
    dsimp only
    rw [str_cl]
    exact ⟨rfl, rfl⟩
  | pos ds a b c d =>
    have e2 : hd isL (fg ds ++ r) = false := by
      cases ds with
      | nil => exact (a rfl).elim
      | cons x l =>
        have := b x List.mem_cons_self
        exact decide_eq_false (show ¬ (97 ≤ 48 + x ∧ 48 + x ≤ 122) by omega)
    rw [e2]
    refine ifB (fun e => by cases e) fun _ => (ret_ok ?_)
    exact ⟨(T, k, .int (va ds), fg ds, r), ⟨rfl, h, .pos ds a b c d, e1, s2, _, rfl⟩, fun w S' z => z⟩
  | neg ds a b c d =>
    refine ifB (fun e => by cases e) fun _ => (ret_ok ?_)
    exact ⟨(T, k, .int (-(va ds : Int)), 45 :: fg ds, r), ⟨rfl, h, .neg ds a b c d, e1, s2, _, rfl⟩, fun w S' z => z⟩
end Ev80

set_option Elab.async false
set_option linter.all false
set_option maxRecDepth 100000
set_option maxHeartbeats 1000000
/-! What is open, and how it is shut. -/
namespace Ev80
open PySem PySem.Spec PyProof.Rows L2 Ow Ev OwT EvT Ev05
open Ev82 (Vc len_at isN_ok nonB)
theorem pop_at {S : Store} {n : Nat} {l : List W} {y : W} {Q : WK} (h : S[n]? = some (.lst (l ++ [y]))) (q : Q y (S.set n (.lst l))) : wPop (.ref n) [] S Q := by
  show oL S[n]? _
  rw [h]
  show oW (l ++ [y]).getLast? _
  rw [List.getLast?_concat, List.dropLast_concat]
  exact q
theorem isl_at {S : Store} {n : Nat} {l : List W} (h : S[n]? = some (.lst l)) : isLst (.ref n) S := by
  show oL S[n]? _
  rw [h]
  trivial
theorem tup_at {S : Store} {n : Nat} {l : List W} {Q : WK} (h : S[n]? = some (.lst l)) (q : Q (.tup l) S) : wTuple [.ref n] S Q := by
  show oL S[n]? _
  rw [h]
  exact q
theorem tru_at {S : Store} {n : Nat} {l : List W} {k : Bool → Store → Prop} (h : S[n]? = some (.lst l)) (q : k (!l.isEmpty) S) : Ev.wTru (.ref n) S k := by
  simp only [Ev.wTru]
  rw [h]
  simp only [oTru]
  exact q
theorem apd_at {S : Store} {n : Nat} {l : List W} {w : W} {Q : WK} (h : S[n]? = some (.lst l)) (hl : l.length < sizeLine) (q : Q .non (S.set n (.lst (l ++ [w])))) : wAppend (.ref n) [w] S Q := by
  show oL S[n]? _
  rw [h]
  exact ⟨hl, q⟩
theorem wAt_last {α : Type} (l : List α) (x : α) : wAt (l ++ [x]) (-1) = some x := by
  unfold wAt
  rw [if_neg (by omega), if_pos (by rw [List.length_append, List.length_singleton]; omega), List.length_append, List.length_singleton]
  rw [show ((-1 : Int) + ((l.length + 1 : Nat) : Int)).toNat = l.length by omega, List.getElem?_append_right (Nat.le_refl _), Nat.sub_self]
  rfl
abbrev Zp := List (Nat × List W)
def tot : Zp → Nat
  | [] => 0
  | p :: Z => p.2.length + 1 + tot Z
def refs (Z : Zp) : List W := (Z.map fun p => W.ref p.1).reverse
theorem refs_cons (p : Nat × List W) (Z : Zp) : refs (p :: Z) = refs Z ++ [.ref p.1] := by
  unfold refs
  rw [List.map_cons, List.reverse_cons]
theorem refs_len (Z : Zp) : (refs Z).length = Z.length := by
  unfold refs
  rw [List.length_reverse, List.length_map]
theorem refs_emp (p : Nat × List W) (Z : Zp) : (refs (p :: Z)).isEmpty = false := by
  rw [refs_cons]
  cases refs Z <;> rfl
def snds (Z : Zp) : List (List W) := Z.map (·.2)
structure Stk (B : Nat) (S : Store) (o : Nat) (Z : Zp) (k : Nat) : Prop where
  top : S[o]? = some (.lst (refs Z))
  all : ∀ p ∈ Z, S[p.1]? = some (.lst p.2)
  ne : ∀ p ∈ Z, p.1 ≠ o
  nd : (Z.map (·.1)).Nodup
  sz : tot Z ≤ k
  bo : B ≤ o
  ba : ∀ p ∈ Z, B ≤ p.1
/-- what was there before is as it was -/
structure Kp (B : Nat) (S S' : Store) : Prop where
  len : S.length ≤ S'.length
  keep : ∀ n u, n < B → S[n]? = some u → S'[n]? = some u
theorem Kp.refl {B : Nat} {S : Store} : Kp B S S := ⟨Nat.le_refl _, fun _ _ _ h => h⟩
theorem Kp.trans {B : Nat} {a b c : Store} (h : Kp B a b) (k : Kp B b c) : Kp B a c := ⟨Nat.le_trans h.len k.len, fun n u a e => k.keep n u a (h.keep n u a e)⟩
theorem Kp.set {B : Nat} {S : Store} {n : Nat} {u : O} (h : B ≤ n) : Kp B S (S.set n u) := ⟨by rw [List.length_set]; exact Nat.le_refl _, fun m v hm e => by
  rw [List.getElem?_set_ne (by omega)]
  exact e⟩
theorem Kp.ex {B : Nat} {S S' : Store} (h : Ex S S') : Kp B S S' := ⟨h.len, fun n u _ e => h.at e⟩
theorem set_other {S : Store} {n m : Nat} {u v : O} (h : S[m]? = some v) (hn : m ≠ n) : (S.set n u)[m]? = some v := by
  rw [List.getElem?_set_ne (fun z => hn z.symm)]
  exact h
section
variable {B o k : Nat} {S : Store} {Z : Zp} {a b : Nat} {d e : List W} {w : W}
/-- opened.pop() -/
theorem Stk.pop (h : Stk B S o ((a, d) :: Z) k) : Stk B (S.set o (.lst (refs Z))) o Z k ∧ (S.set o (.lst (refs Z)))[a]? = some (.lst d) ∧ a ≠ o ∧ (∀ p ∈ Z, p.1 ≠ a) ∧ B ≤ a ∧ tot Z + d.length + 1 ≤ k := by
  have h1 := h.nd
  rw [List.map_cons, List.nodup_cons] at h1
  have hs : d.length + 1 + tot Z ≤ k := h.sz
  have ho := h.ne (a, d) List.mem_cons_self
  refine ⟨⟨get_set h.top, fun p hp => set_other (h.all p (List.mem_cons_of_mem _ hp)) (h.ne p (List.mem_cons_of_mem _ hp)), fun p hp => h.ne p (List.mem_cons_of_mem _ hp), h1.2, by omega, h.bo, fun p hp => h.ba p (List.mem_cons_of_mem _ hp)⟩, set_other (h.all (a, d) List.mem_cons_self) ho, ho, fun p hp z => h1.1 (List.mem_map.mpr ⟨p, hp, z⟩), h.ba (a, d) List.mem_cons_self, by omega⟩
/-- opened[-1].append(w) -/
theorem Stk.app {k' : Nat} (h : Stk B S o ((b, e) :: Z) k) (hk : tot Z + e.length + 2 ≤ k') : Stk B (S.set b (.lst (e ++ [w]))) o ((b, e ++ [w]) :: Z) k' := by
  have h1 := h.nd
  rw [List.map_cons, List.nodup_cons] at h1
  have hb := h.ne (b, e) List.mem_cons_self
  refine ⟨set_other h.top hb.symm, fun p hp => ?_, fun p hp => ?_, h.nd, ?_, h.bo, fun p hp => ?_⟩
  · rcases List.mem_cons.mp hp with rfl | hp
    · exact get_set (h.all (b, e) List.mem_cons_self)
    · exact set_other (h.all p (List.mem_cons_of_mem _ hp)) fun z => h1.1 (List.mem_map.mpr ⟨p, hp, z⟩)
  · rcases List.mem_cons.mp hp with rfl | hp
    · exact hb
    · exact h.ne p (List.mem_cons_of_mem _ hp)
  · show (e ++ [w]).length + 1 + tot Z ≤ k'
    rw [List.length_append, List.length_singleton]
    omega
  · rcases List.mem_cons.mp hp with rfl | hp
    · exact h.ba (b, e) List.mem_cons_self
    · exact h.ba p (List.mem_cons_of_mem _ hp)
theorem Stk.more {k' : Nat} (h : Stk B S o Z k) (hk : k ≤ k') : Stk B S o Z k' := ⟨h.top, h.all, h.ne, h.nd, Nat.le_trans h.sz hk, h.bo, h.ba⟩
/-- opened.append([]) -/
theorem Stk.new {k' : Nat} (h : Stk B S o Z k) (hB : B ≤ S.length) (hk : k + 1 ≤ k') : Stk B ((S ++ [O.lst []]).set o (.lst (refs Z ++ [.ref S.length]))) o ((S.length, []) :: Z) k' := by
  have l0 := lt_len h.top
  have hz := h.sz
  refine ⟨?_, fun p hp => ?_, fun p hp => ?_, ?_, ?_, h.bo, fun p hp => ?_⟩
  · rw [refs_cons]
    exact get_set (Ex.one.at h.top)
  · rcases List.mem_cons.mp hp with rfl | hp
    · exact set_other (new_at S _) (by show S.length ≠ o; omega)
    · exact set_other (Ex.one.at (h.all p hp)) (h.ne p hp)
  · rcases List.mem_cons.mp hp with rfl | hp
    · show S.length ≠ o
      omega
    · exact h.ne p hp
  · rw [List.map_cons, List.nodup_cons]
    refine ⟨fun z => ?_, h.nd⟩
    obtain ⟨p, hp, e⟩ := List.mem_map.mp z
    have := lt_len (h.all p hp)
    have e : p.1 = S.length := e
    omega
  · show 0 + 1 + tot Z ≤ k'
    omega
  · rcases List.mem_cons.mp hp with rfl | hp
    · exact hB
    · exact h.ba p hp
end
/-! ### _close -/
def clsW : Option W → W
  | some v => v
  | none => .non
abbrev CloseC : Con := ⟨Str × Nat × Nat × Zp × Nat, fun (T, k, o, Z, B) ws S => ws = [.str T, .int k, .ref o] ∧ T.length < sizeLine ∧ k ≤ T.length ∧ Stk B S o Z k ∧ Z ≠ [],
  fun (T, k, o, Z, B) S w S' => ∃ (v : Option W) (k' : Nat) (Z' : Zp), cls ((cl T).drop k) (snds Z) = (v, (cl T).drop k', snds Z') ∧ k ≤ k' ∧ k' ≤ T.length ∧ w = .tup [clsW v, .int k'] ∧ Stk B S' o Z' k' ∧ Kp B S S' ∧ (v = none → Z' ≠ []) ∧ (v = none ∨ ∃ l, v = some (.tup l))⟩
def closeT : MT := (mTest (mBin wEq (mCB (conR SignC) (mCons (mVar 0) (mCons (mVar 1) mNil))) (mC (.str ")"))))
def apdE : MS := (mDrop (mBM wAppend (mBin wIx (mVar 2) (mNeg (mC (.int 1)))) (mCons (mVar 3) mNil)))
def retE : MS := (mRet (mTup (mCons (mVar 3) (mCons (mVar 1) mNil))))
def closeB : MS := (mSeq (mAug 1 (wInt (fun i j => i + j) fun _ _ => True) (mC (.int 1)))
  (mSeq (mAsg (mCB wTuple (mCons (mBM0 wPop (mVar 2)) mNil)) (mgName 3))
  (mSeq (mIfS (mNot (mTru (mVar 2))) retE mNext) apdE)))
theorem close_eq : m_x_close SignC = (mSeq (mWh closeT closeB) (mRet (mTup (mCons (mC .non) (mCons (mVar 1) mNil))))) := rfl
theorem cls_ne {L : List Nat} (h : hd (fun x => decide (x = 41)) L = false) (Z : List (List W)) : cls L Z = (none, L, Z) := by
  cases L with
  | nil => rfl
  | cons c r =>
    have h : ¬ c = 41 := of_decide_eq_false h
    unfold cls
    split
    · rename_i e
      exact (h (List.cons.inj e).1).elim
    · rename_i e
      exact (h (List.cons.inj e).1).elim
    · rfl
theorem drop_cons {T : Str} {k c : Nat} {r : List Nat} (e : (cl T).drop k = c :: r) : (cl T).drop (k + 1) = r ∧ k + 1 ≤ T.length := by
  refine ⟨by rw [← List.drop_drop, e]; rfl, ?_⟩
  have h : k < (cl T).length := by
    rcases Nat.lt_or_ge k (cl T).length with h | h
    · exact h
    · rw [List.drop_eq_nil_of_le h] at e
      cases e
  rw [cl_len] at h
  omega
theorem close_loop {T : Str} {o B : Nat} {D : MD} {R : WK} (hT : T.length < sizeLine) (hD : D.rt = R)
    (kn : ∀ (k : Nat) (Z : Zp) (S : Store) e3, hd (fun x => decide (x = 41)) ((cl T).drop k) = false → D.nx [some (.str T), some (.int k), some (.ref o), e3] S = R (.tup [.non, .int k]) S) :
    ∀ (f k : Nat) (Z : Zp) (S : Store) (e3 : Option W), T.length - k < f → k ≤ T.length → Stk B S o Z k → Z ≠ [] →
      (∀ (v : Option W) (k' : Nat) (Z' : Zp) S', cls ((cl T).drop k) (snds Z) = (v, (cl T).drop k', snds Z') → k ≤ k' → k' ≤ T.length → Stk B S' o Z' k' → Kp B S S' → (v = none → Z' ≠ []) → (v = none ∨ ∃ l, v = some (.tup l)) → R (.tup [clsW v, .int k']) S') →
      whL closeT closeB D f [some (.str T), some (.int k), some (.ref o), e3] S
  | 0, k, Z, S, e3, hf, hk, st, hZ, q => by omega
  | f + 1, k, Z, S, e3, hf, hk, st, hZ, q => by
    have ih := close_loop (B := B) hT hD kn f
    unfold whL
    generalize hN : whL closeT closeB D f = NX at ih ⊢
    unfold closeT
    simp only [mTest, mBin, mCB, mCons, mNil, mVar, mC, lk]
    refine sign_call (Nat.le_of_lt hT) rfl ?_
    rw [wEq_str, sg_ne (c := 41) (by decide +kernel)]
    cases hh : hd (fun x => decide (x = 41)) ((cl T).drop k) with
    | false =>
      refine ifB (fun e => by cases e) fun _ => ?_
      rw [kn k Z S e3 hh]
      exact q none k Z S (cls_ne hh _) (Nat.le_refl _) hk st Kp.refl (fun _ => hZ) (.inl rfl)
    | true =>
      refine ifB (fun _ => ?_) fun e => by cases e
      obtain ⟨c, r, ec⟩ : ∃ c r, (cl T).drop k = c :: r := by
        cases e : (cl T).drop k with
        | nil => rw [e] at hh; cases hh
        | cons c r => exact ⟨c, r, rfl⟩
      rw [ec] at hh
      obtain rfl : c = 41 := of_decide_eq_true hh
      obtain ⟨er, hk1⟩ := drop_cons ec
      obtain ⟨⟨a, d⟩, Z1, rfl⟩ : ∃ p Z1, Z = p :: Z1 := by
        cases Z with
        | nil => exact (hZ rfl).elim
        | cons p Z1 => exact ⟨p, Z1, rfl⟩
      obtain ⟨st1, at1, ha, hn, hb, hs⟩ := st.pop
      have k1 : Kp B S (S.set o (.lst (refs Z1))) := Kp.set st.bo
      have top := st.top
      rw [refs_cons] at top
      unfold closeB
      refine seq_ok ⟨trivial, ?_⟩
      dsimp only
      refine sa (i := 3) ?_
      unfold mBM0
      simp only [mCB, mCons, mNil, mVar, lk, List.set]
      refine ⟨isl_at top, pop_at top (tup_at at1 ?_)⟩
      generalize S.set o (.lst (refs Z1)) = S1 at st1 at1 k1
      refine si0 ?_
      simp only [mNot, mTru, mVar, lk]
      refine tru_at st1.top ?_
      cases Z1 with
      | nil =>
        refine ifB (fun _ => ?_) fun e => by cases e
        unfold retE
        refine ret_ok ?_
        simp only [mTup, mCons, mNil, mVar, lk]
        refine ⟨by show 2 ≤ sizeLine; decide, ?_⟩
        rw [hD]
        refine q (some (.tup d)) (k + 1) [] S1 ?_ (by omega) hk1 (st1.more (by omega)) k1 (fun e => by cases e) (.inr ⟨d, rfl⟩)
        rw [ec, er]
        rfl
      | cons p Z2 =>
        obtain ⟨b, e⟩ := p
        rw [refs_emp]
        refine ifB (fun e => by cases e) fun _ => ?_
        unfold apdE mBM
        simp only [mDrop, mBin, mNeg, mC, mCons, mNil, mVar, lk]
        have top1 := st1.top
        rw [refs_cons] at top1
        have atb := st1.all (b, e) List.mem_cons_self
        have hs : e.length + 1 + tot Z2 + d.length + 1 ≤ k := hs
        refine ix_at top1 (wAt_last _ _) ⟨isl_at atb, apd_at atb (by show e.length < sizeLine; omega) ?_⟩
        have st2 : Stk B (S1.set b (.lst (e ++ [.tup d]))) o ((b, e ++ [.tup d]) :: Z2) (k + 1) := st1.app (by omega)
        have k2 : Kp B S1 (S1.set b (.lst (e ++ [.tup d]))) := Kp.set (st1.ba (b, e) List.mem_cons_self)
        refine ih (k + 1) ((b, e ++ [.tup d]) :: Z2) _ _ (by omega) hk1 st2 (by simp) fun v k' Z' S' h1 h2 h3 h4 h5 h6 h7 => ?_
        refine q v k' Z' S' ?_ (by omega) h3 h4 ((k1.trans k2).trans h5) h6 h7
        rw [ec]
        rw [er] at h1
        exact h1
theorem vd_close : Vc 4 (m_x_close SignC) CloseC := fun (T, k, o, Z, B) ws S ⟨e, hT, hk, st, hZ⟩ => by
  subst e
  show m_x_close _ _ [some (.str T), some (.int k), some (.ref o), none] S
  rw [close_eq]
  refine seq_ok ⟨T.length - k + 1, ?_⟩
  refine close_loop (R := _) hT rfl (fun k Z S e3 h => ?_) (T.length - k + 1) k Z S none (by omega) hk st hZ fun v k' Z' S' h1 h2 h3 h4 h5 h6 h7 => ?_
  rotate_left
  · exact ⟨v, k', Z', h1, h2, h3, rfl, h4, h5, h6, h7⟩
  · simp only [mRet, mTup, mCons, mNil, mC, mVar, lk]
    exact propext ⟨fun z => z.2, fun z => ⟨by show 2 ≤ sizeLine; decide, z⟩⟩
end Ev80

set_option Elab.async false
set_option linter.all false
set_option maxRecDepth 100000
set_option maxHeartbeats 1000000
/-! read -/
namespace Ev80
open PySem PySem.Spec PyProof.Rows L2 Ow Ev OwT EvT Ev05
open Ev82 (Vc len_at isN_ok nonB)
def opC : MT := (mAnd (mTest (mBin wEq (mCB (conR SignC) (mCons (mVar 0) (mCons (mVar 3) mNil))) (mC (.str "(")))) (mTest (mBin wLt (mCB wLen (mCons (mVar 1) mNil)) (mC (.int (200))))))
def opA : MS := (mSeq (mDrop (mBM wAppend (mVar 1) (mCons (mLst mNil) mNil)))
  (mSeq (mAug 3 (wInt (fun i j => i + j) fun _ _ => True) (mC (.int 1)))
  (mIfS (mTest (mBin wNe (mCB (conR SignC) (mCons (mVar 0) (mCons (mVar 3) mNil))) (mC (.str ")"))))
  mCont
  mNext)))
def opB : MS := (mIfS (mTru (mVar 1))
  (mSeq (mAsg (mCB (conR RdPartC) (mCons (mVar 0) (mCons (mVar 3) mNil))) (mgTup 2 (mgCons (mgName 4) (mgCons (mgName 3) mgNil))))
  (mDrop (mBM wAppend (mBin wIx (mVar 1) (mNeg (mC (.int 1)))) (mCons (mVar 4) mNil))))
  mNever)
def spE : MS := (mSeq (mIfS (mTest (mBin wNe (mCB (conR SignC) (mCons (mVar 0) (mCons (mVar 3) mNil))) (mC (.str " "))))
  mNever
  mNext)
  (mAug 3 (wInt (fun i j => i + j) fun _ _ => True) (mC (.int 1))))
def tailE : MS := (mSeq (mAsg (mCB (conR CloseC) (mCons (mVar 0) (mCons (mVar 3) (mCons (mVar 1) mNil)))) (mgTup 2 (mgCons (mgName 2) (mgCons (mgName 3) mgNil))))
  (mIfS (mTest (mBin (wIsN false) (mVar 2) (mC .non)))
  spE
  mNext))
def rdT : MT := (mTest (mBin (wIsN false) (mVar 2) (mC .non)))
def rdB : MS := (mSeq (mIfS opC opA opB) tailE)
def endE : MS := (mSeq (mIfS (mTest (mBin wLt (mVar 3) (mCB wLen (mCons (mVar 0) mNil))))
  mNever
  mNext)
  (mRet (mVar 2)))
theorem read_eq : m_read SignC RdPartC CloseC = (mSeq (mAsg (mLst mNil) (mgName 1))
  (mSeq (mAsg (mC .non) (mgName 2))
  (mSeq (mAsg (mC (.int 0)) (mgName 3))
  (mSeq (mWh rdT rdB) endE)))) := rfl
section
variable {T : Str} {o B : Nat} {D : MD} {l : List W}
/-- _close, and what comes then -/
theorem tail_ok (hT : T.length < sizeLine) {n k : Nat} {Z : Zp} {S : Store} {e2 e4 : Option W} (hk : k ≤ T.length) (st : Stk B S o Z k) (hZ : Z ≠ []) (ha : aft (Runs (.tup l) n) (.tup l) (cls ((cl T).drop k) (snds Z)))
    (q1 : ∀ S', Kp B S S' → D.nx [some (.str T), some (.ref o), some (.tup l), some (.int T.length), e4] S')
    (q2 : ∀ k' Z' S', Runs (.tup l) n ((cl T).drop k') (snds Z') → k' ≤ T.length → Stk B S' o Z' k' → Kp B S S' → D.nx [some (.str T), some (.ref o), some .non, some (.int k'), e4] S') :
    tailE D [some (.str T), some (.ref o), e2, some (.int k), e4] S := by
  unfold tailE
  refine seq_ok ?_
  simp only [mAsg, mCB, mCons, mNil, mVar, lk]
  refine ⟨(T, k, o, Z, B), ⟨rfl, hT, hk, st, hZ⟩, fun w S' ⟨v, k', Z', h1, h2, h3, h4, h5, h6, h7, h8⟩ => ?_⟩
  subst h4
  refine ⟨rfl, ?_⟩
  simp only [mgCons, mgNil, mgName, List.set]
  refine ⟨trivial, ?_⟩
  simp only [mIfS, mTest, mBin, mVar, mC, lk]
  refine isN_ok ?_
  rw [h1] at ha
  rcases h8 with rfl | ⟨y, rfl⟩
  · obtain ⟨r', er, hr⟩ := ha
    obtain ⟨e1, hk1⟩ := drop_cons er
    refine ifB (fun _ => ?_) fun e => by cases e
    unfold spE
    refine si0 ?_
    simp only [mTest, mBin, mCB, mCons, mNil, mVar, mC, lk]
    refine sign_call (Nat.le_of_lt hT) er ?_
    rw [wNe_str, sg_ne (c := 32) (by decide +kernel)]
    refine ifB (fun e => by cases e) fun _ => ?_
    refine ⟨trivial, ?_⟩
    refine q2 (k' + 1) Z' S' ?_ hk1 (h5.more (by omega)) h6
    rw [e1]
    exact hr
  · obtain ⟨ev, er⟩ := ha
    refine ifB (fun e => by cases e) fun _ => ?_
    have : k' = T.length := by
      have h9 := congrArg List.length er
      rw [List.length_drop, cl_len] at h9
      have h0 : ([] : List Nat).length = 0 := rfl
      omega
    subst this
    have q := q1 S' h6
    rw [← ev] at q
    exact q
theorem read_loop {S0 : Store} (hT : T.length < sizeLine) (q : ∀ S' e4, Kp B S0 S' → D.nx [some (.str T), some (.ref o), some (.tup l), some (.int T.length), e4] S') :
    ∀ (n k : Nat) (Z : Zp) (S : Store) (e4 : Option W), Runs (.tup l) n ((cl T).drop k) (snds Z) → k ≤ T.length → Stk B S o Z k → B ≤ S.length → Kp B S0 S → whL rdT rdB D (n + 1) [some (.str T), some (.ref o), some .non, some (.int k), e4] S
  | 0, k, Z, S, e4, h, _, _, _, _ => h.elim
  | n + 1, k, Z, S, e4, h, hk, st, hB, kp => by
    have ih := read_loop hT q n
    have fin : ∀ S' e4, Kp B S0 S' → whL rdT rdB D (n + 1) [some (.str T), some (.ref o), some (.tup l), some (.int T.length), e4] S' := fun S' e4 kf => by
      unfold whL rdT
      simp only [mTest, mBin, mVar, mC, lk]
      refine isN_ok ?_
      exact ifB (fun e => by cases e) fun _ => q S' e4 kf
    unfold whL
    generalize hN : whL rdT rdB D (n + 1) = NX at ih fin ⊢
    unfold rdT
    simp only [mTest, mBin, mVar, mC, lk]
    refine isN_ok ?_
    refine ifB (fun _ => ?_) fun e => by cases e
    unfold rdB
    refine seq_ok ?_
    unfold mIfS opC
    simp only [mAnd, mTest, mBin, mCB, mCons, mNil, mVar, mC, lk]
    rcases h with ⟨R1, eR, hl, h⟩ | ⟨L, r, p, d, Z', eR, eZ, hp, hr, ha⟩
    · obtain ⟨e1, hk1⟩ := drop_cons eR
      refine sign_call (Nat.le_of_lt hT) eR ?_
      rw [wEq_str, sg_ne (c := 40) (by decide +kernel)]
      refine ifB (fun _ => ?_) fun e => by cases e
      refine len_at st.top ?_
      have hl : Z.length < 200 := by
        unfold snds at hl
        rwa [List.length_map] at hl
      have hl2 : decide (((refs Z).length : Int) < 200) = true := by
        rw [refs_len]
        exact decide_eq_true (by omega)
      show if decide (((refs Z).length : Int) < 200) = true then _ else _
      rw [hl2]
      refine ifB (fun _ => ?_) fun e => by cases e
      unfold opA
      refine seq_ok ?_
      unfold mBM
      simp only [mDrop, mLst, mCons, mNil, mVar, lk]
      refine ⟨isl_at st.top, sz0, apd_at (Ex.one.at st.top) (by rw [refs_len]; exact Nat.lt_trans hl (by decide)) ?_⟩
      have st1 := st.new (k' := k + 1) hB (Nat.le_refl _)
      have k1 : Kp B S ((S ++ [O.lst []]).set o (.lst (refs Z ++ [.ref S.length]))) := (Kp.ex Ex.one).trans (Kp.set st.bo)
      refine seq_ok ⟨trivial, ?_⟩
      dsimp only
      generalize (S ++ [O.lst []]).set o (.lst (refs Z ++ [.ref S.length])) = S1 at st1 k1 ⊢
      show mIfS _ _ _ _ [some (.str T), some (.ref o), some .non, some (.int ((k + 1 : Nat) : Int)), e4] S1
      unfold mIfS
      simp only [mTest, mBin, mCB, mCons, mNil, mVar, mC, lk]
      refine sign_call (Nat.le_of_lt hT) e1 ?_
      rw [wNe_str, sg_ne (c := 41) (by decide +kernel)]
      have hB1 : B ≤ S1.length := Nat.le_trans hB k1.len
      rcases h with ⟨h1, h2⟩ | ⟨h1, h2⟩
      · have e2 : hd (fun x => decide (x = 41)) R1 = false := by
          cases R1 with
          | nil => rfl
          | cons c r => exact decide_eq_false fun z => h1 (by rw [z]; rfl)
        rw [e2]
        refine ifB (fun _ => ?_) fun e => by cases e
        exact ih (k + 1) ((S.length, []) :: Z) S1 e4 (by rw [e1]; exact h2) hk1 st1 hB1 (kp.trans k1)
      · have e2 : hd (fun x => decide (x = 41)) R1 = true := by
          cases R1 with
          | nil => cases h1
          | cons c r => exact decide_eq_true (Option.some.inj h1)
        rw [e2]
        refine ifB (fun e => by cases e) fun _ => ?_
        refine tail_ok (Z := (S.length, []) :: Z) hT hk1 st1 (by simp) (by rw [e1]; exact h2) (fun S' kf => fin S' _ ((kp.trans k1).trans kf)) fun k' Z' S' h1 h2 h3 h4 => ?_
        exact ih k' Z' S' _ h1 h2 h3 (Nat.le_trans hB1 h4.len) ((kp.trans k1).trans h4)
    · obtain ⟨c, L', eL, c1, c2⟩ := lf_hd hp
      refine sign_call (Nat.le_of_lt hT) eR ?_
      rw [wEq_str, sg_ne (c := 40) (by decide +kernel)]
      have e2 : hd (fun x => decide (x = 40)) (L ++ r) = false := by
        rw [eL]
        exact decide_eq_false c1
      rw [e2]
      refine ifB (fun e => by cases e) fun _ => ?_
      refine ifB (fun e => by cases e) fun _ => ?_
      obtain ⟨⟨a, d'⟩, Z1, rfl, ed, rfl⟩ : ∃ p Z1, Z = p :: Z1 ∧ p.2 = d ∧ snds Z1 = Z' := by
        cases Z with
        | nil => cases eZ
        | cons p Z1 =>
          have := List.cons.inj eZ
          exact ⟨p, Z1, rfl, this.1, this.2⟩
      have ed : d' = d := ed
      subst ed
      unfold opB mIfS
      simp only [mTru, mVar, lk]
      refine tru_at st.top ?_
      rw [refs_emp]
      refine ifB (fun _ => ?_) fun e => by cases e
      refine seq_ok ?_
      simp only [mAsg, mCB, mCons, mNil, mVar, lk]
      have hkL : k + L.length ≤ T.length := by
        have h9 := congrArg List.length eR
        rw [List.length_drop, cl_len, List.length_append] at h9
        omega
      have hL1 : 1 ≤ L.length := by
        rw [eL, List.length_cons]
        omega
      refine ⟨(T, k, p, L, r), ⟨rfl, Nat.le_of_lt hT, hp, eR, hr, hkL⟩, fun w S' ⟨z1, z2⟩ => ?_⟩
      have z1 : w = .tup [p, .int ((k + L.length : Nat) : Int)] := z1
      have z2 : S' = S := z2
      subst z1
      subst z2
      refine ⟨rfl, ?_⟩
      simp only [mgCons, mgNil, mgName, List.set]
      refine ⟨trivial, ?_⟩
      unfold mBM
      simp only [mDrop, mBin, mNeg, mC, mCons, mNil, mVar, lk]
      have top1 := st.top
      rw [refs_cons] at top1
      have atb := st.all (a, d') List.mem_cons_self
      have hs : d'.length + 1 + tot Z1 ≤ k := st.sz
      refine ix_at top1 (wAt_last _ _) ⟨isl_at atb, apd_at atb (by show d'.length < sizeLine; omega) ?_⟩
      have st2 : Stk B (S'.set a (.lst (d' ++ [p]))) o ((a, d' ++ [p]) :: Z1) (k + L.length) := st.app (by omega)
      have k2 : Kp B S' (S'.set a (.lst (d' ++ [p]))) := Kp.set (st.ba (a, d') List.mem_cons_self)
      have e3 : (cl T).drop (k + L.length) = r := by
        rw [← List.drop_drop, eR, List.drop_left]
      refine tail_ok (Z := (a, d' ++ [p]) :: Z1) hT hkL st2 (by simp) (by rw [e3]; exact ha) (fun S' kf => fin S' _ ((kp.trans k2).trans kf)) fun k' Z' S'' h1 h2 h3 h4 => ?_
      exact ih k' Z' S'' _ h1 h2 h3 (Nat.le_trans (Nat.le_trans hB k2.len) h4.len) ((kp.trans k2).trans h4)
theorem vc_read {S : Store} {n : Nat} (hT : T.length < sizeLine) (h : Runs (.tup l) n (cl T) []) (q : ∀ S', Kp S.length S S' → D.rt (.tup l) S') : m_read SignC RdPartC CloseC D [some (.str T), none, none, none, none] S := by
  rw [read_eq]
  refine sa (i := 1) ?_
  simp only [mLst, mNil]
  refine ⟨sz0, ?_⟩
  simp only [List.set]
  refine sac (i := 2) ?_
  refine sac (i := 3) ?_
  simp only [List.set]
  refine seq_ok ⟨n + 1, ?_⟩
  have st : Stk S.length (S ++ [O.lst []]) S.length [] 0 := ⟨new_at S _, fun p hp => (List.not_mem_nil hp).elim, fun p hp => (List.not_mem_nil hp).elim, List.nodup_nil, Nat.le_refl _, Nat.le_refl _, fun p hp => (List.not_mem_nil hp).elim⟩
  refine read_loop (T := T) (o := S.length) (B := S.length) (l := l) (S0 := S) hT (fun S' e4 kf => ?_) n 0 [] _ none ?_ (Nat.zero_le _) st (by rw [List.length_append]; omega) (Kp.ex Ex.one)
  · dsimp only
    unfold endE
    refine si0 ?_
    simp only [mTest, mBin, mCB, mCons, mNil, mVar, lk]
    refine ⟨Nat.le_of_lt hT, ?_⟩
    show if decide ((T.length : Int) < T.length) = true then _ else _
    rw [decide_eq_false (Int.lt_irrefl _)]
    refine ifB (fun e => by cases e) fun _ => ?_
    exact q S' kf
  · show Runs _ _ (cl T) []
    exact h
end
abbrev ReadC : Con := ⟨List W × Str × Nat, fun (l, T, n) ws S => ws = [.str T] ∧ T.length < sizeLine ∧ Runs (.tup l) n (cl T) [], fun (l, T, n) S w S' => w = .tup l ∧ Kp S.length S S'⟩
theorem vd_read : Vc 5 (m_read SignC RdPartC CloseC) ReadC := fun (l, T, n) ws S ⟨e, hT, h⟩ => by
  subst e
  exact vc_read hT h fun S' k => ⟨rfl, k⟩
end Ev80

set_option Elab.async false
set_option linter.all false
set_option maxRecDepth 100000
set_option maxHeartbeats 1000000
/-! What is drawn. -/
namespace Ev80
open PySem PySem.Spec PyProof.Rows L2 Ow Ev OwT EvT Ev05
open Ev82 (Vc len_at isN_ok nonB isFun okG okGs wr wrH wrT cn cns cn_pos dW dWs okG_dw okGs_dw)
/-- a drawn word -/
structure Wd (z : Str) : Prop where
  l1 : 1 ≤ z.length
  l8 : z.length ≤ 8
  le : ∀ c ∈ cl z, isL c = true
  nf : z ≠ "fun"
mutual
def gx : W → Prop
  | .int i => -(10 ^ 18) ≤ i ∧ i ≤ 10 ^ 18
  | .str z => Wd z
  | .tup l => l.length ≤ 5000 ∧ gxs l
  | _ => False
def gxs : List W → Prop
  | [] => True
  | w :: r => gx w ∧ gxs r
end
theorem int_lg {i : Int} (h1 : -(10 ^ 18) ≤ i) (h2 : i ≤ 10 ^ 18) : i.natAbs.log2 < 1920 := by
  have h2 : i.natAbs < 2 ^ 200 := Nat.lt_of_le_of_lt (show i.natAbs ≤ 10 ^ 18 by omega) (by decide)
  rcases Nat.eq_zero_or_pos i.natAbs with z | z
  · rw [z]
    decide
  · have := (Nat.log2_lt (by omega)).mpr h2
    omega
/-- texts of small signs -/
theorem lay_lo {z : Str} (h : ∀ c ∈ cl z, c < 128) : PyData.canLay0 (.str z) = true := by
  unfold PyData.canLay0 PyData.strOk
  rw [← Array.all_toList, List.all_eq_true]
  intro c hc
  have := h c hc
  exact decide_eq_true (by omega)
theorem wd_lo {z : Str} (h : Wd z) : ∀ c ∈ cl z, c < 128 := fun c hc => by
  have := of_decide_eq_true (h.le c hc)
  omega
theorem gxs_fun {l : List W} (h : gxs l) : isFun l = false := by
  match l, h with
  | [], _ => rfl
  | [.str z], h => exact decide_eq_false h.1.nf
  | [.int _], _ => rfl
  | [.tup _], _ => rfl
  | [.bl _], h => exact h.1.elim
  | [.non], h => exact h.1.elim
  | [.cl _], h => exact h.1.elim
  | [.ref _], h => exact h.1.elim
  | [.adr _], h => exact h.1.elim
  | [.ty _], h => exact h.1.elim
  | .str _ :: b :: r, h => rfl
  | .int _ :: b :: r, h => rfl
  | .tup _ :: b :: r, h => rfl
  | .bl _ :: b :: r, h => exact h.1.elim
  | .non :: b :: r, h => exact h.1.elim
  | .cl _ :: b :: r, h => exact h.1.elim
  | .ref _ :: b :: r, h => exact h.1.elim
  | .adr _ :: b :: r, h => exact h.1.elim
  | .ty _ :: b :: r, h => exact h.1.elim
theorem wd_okG {z : Str} (h : Wd z) : okG (.str z) := ⟨Nat.le_trans h.l8 (by decide), lay_lo (wd_lo h)⟩
mutual
theorem gx_okG : ∀ {w : W}, gx w → okG w
  | .int _, h => int_lg h.1 h.2
  | .str _, h => wd_okG h
  | .tup _, h => ⟨h.1, gxs_okG h.2⟩
  | .bl _, h => h.elim
  | .non, h => h.elim
  | .cl _, h => h.elim
  | .ref _, h => h.elim
  | .adr _, h => h.elim
  | .ty _, h => h.elim
theorem gxs_okG : ∀ {l : List W}, gxs l → okGs l
  | [], _ => trivial
  | _ :: _, h => ⟨gx_okG h.1, gxs_okG h.2⟩
end
mutual
theorem gx_ok8 : ∀ {w : W}, gx w → ok8 w
  | .int _, h => trivial
  | .str _, h => trivial
  | .tup _, h => ⟨gxs_fun h.2, gxs_ok8 h.2⟩
  | .bl _, h => h.elim
  | .non, h => h.elim
  | .cl _, h => h.elim
  | .ref _, h => h.elim
  | .adr _, h => h.elim
  | .ty _, h => h.elim
theorem gxs_ok8 : ∀ {l : List W}, gxs l → ok8s l
  | [], _ => trivial
  | _ :: _, h => ⟨gx_ok8 h.1, gxs_ok8 h.2⟩
end
theorem gx_ok {w : W} (h : gx w) : Ok w := ⟨gx_okG h, gx_ok8 h⟩
mutual
theorem gx_rd : ∀ {w : W}, gx w → rd w
  | .int _, h => lf_int h.1 h.2
  | .str z, h => .wd z h.l1 h.l8 h.le
  | .tup _, h => ⟨gxs_fun h.2, gxs_rd h.2⟩
  | .bl _, h => h.elim
  | .non, h => h.elim
  | .cl _, h => h.elim
  | .ref _, h => h.elim
  | .adr _, h => h.elim
  | .ty _, h => h.elim
theorem gxs_rd : ∀ {l : List W}, gxs l → rds l
  | [], _ => trivial
  | _ :: _, h => ⟨gx_rd h.1, gxs_rd h.2⟩
end
theorem lf_lo {p : W} {L : List Nat} (h : Lf p L) : ∀ c ∈ L, c < 128 := by
  cases h with
  | wd z h1 h2 h3 =>
    intro c hc
    have := of_decide_eq_true (h3 c hc)
    omega
  | pos ds h1 h2 h3 h4 =>
    intro c hc
    obtain ⟨d, hd, rfl⟩ := List.mem_map.mp hc
    have := h2 d hd
    show 48 + d < 128
    omega
  | neg ds h1 h2 h3 h4 =>
    intro c hc
    rcases List.mem_cons.mp hc with rfl | hc
    · decide
    · obtain ⟨d, hd, rfl⟩ := List.mem_map.mp hc
      have := h2 d hd
      show 48 + d < 128
      omega
mutual
theorem wr_lo : ∀ {w : W}, gx w → ∀ c ∈ cl (wr w), c < 128
  | .int _, h => lf_lo (lf_int h.1 h.2)
  | .str z, h => wd_lo h
  | .tup l, h => fun c hc => by
    rw [wr_tup (gxs_fun h.2)] at hc
    rcases List.mem_cons.mp hc with rfl | hc
    · decide
    · rcases List.mem_append.mp hc with hc | hc
      · exact wrH_lo h.2 c hc
      · rw [List.mem_singleton.mp hc]
        decide
  | .bl _, h => h.elim
  | .non, h => h.elim
  | .cl _, h => h.elim
  | .ref _, h => h.elim
  | .adr _, h => h.elim
  | .ty _, h => h.elim
theorem wrH_lo : ∀ {l : List W}, gxs l → ∀ c ∈ cl (wrH l), c < 128
  | [], _ => fun c hc => (List.not_mem_nil (show c ∈ [] from hc)).elim
  | w :: r, h => fun c hc => by
    rw [wr_hd] at hc
    rcases List.mem_append.mp hc with hc | hc
    · exact wr_lo h.1 c hc
    · by_cases hr : r = []
      · subst hr
        exact (List.not_mem_nil (show c ∈ [] from hc)).elim
      · rw [wrT_ne hr] at hc
        rcases List.mem_cons.mp hc with rfl | hc
        · decide
        · exact wrH_lo h.2 c hc
end
theorem int_len {i : Int} (h1 : -(10 ^ 18) ≤ i) (h2 : i ≤ 10 ^ 18) : ((toString i : String) : Str).length ≤ 20 := by
  have h3 := int_text_length_le10 (k := 19) (a := i) (by decide) (by have : (10 : Nat) ^ 19 = 10000000000000000000 := by decide
                                                                     omega)
  have h4 : (Str.ofString (toString i)).length ≤ 20 := by
    rw [PySem.ofString_length]
    exact h3
  exact h4
mutual
theorem wr_len : ∀ {w : W}, gx w → (cl (wr w)).length ≤ 20 * cn w
  | .int i, h => by
    rw [cl_len]
    exact int_len h.1 h.2
  | .str z, h => by
    rw [cl_len]
    have := h.l8
    show z.length ≤ 20 * 1
    omega
  | .tup l, h => by
    rw [wr_tup (gxs_fun h.2), List.length_cons, List.length_append, List.length_singleton]
    have := wrH_len h.2
    show _ ≤ 20 * (2 + cns l)
    omega
  | .bl _, h => h.elim
  | .non, h => h.elim
  | .cl _, h => h.elim
  | .ref _, h => h.elim
  | .adr _, h => h.elim
  | .ty _, h => h.elim
theorem wrH_len : ∀ {l : List W}, gxs l → (cl (wrH l)).length ≤ 20 * cns l
  | [], _ => Nat.zero_le _
  | w :: r, h => by
    rw [wr_hd, List.length_append]
    have h1 := wr_len h.1
    show _ ≤ 20 * (1 + cn w + cns r)
    by_cases hr : r = []
    · subst hr
      have : (cl (wrT [])).length = 0 := rfl
      omega
    · rw [wrT_ne hr, List.length_cons]
      have h2 := wrH_len h.2
      omega
end
mutual
theorem dep_dW : ∀ {w : W}, gx w → (dW w).depth ≤ dp w
  | .int i, h => by
    show (PyData.int i).depth ≤ _
    unfold PyData.depth
    exact Nat.zero_le _
  | .str z, h => by
    show (PyData.str z).depth ≤ _
    unfold PyData.depth
    exact Nat.zero_le _
  | .tup l, h => by
    show (PyData.tuple (dWs l)).depth ≤ 1 + dps l
    unfold PyData.depth
    have := deps_dW h.2
    omega
  | .bl _, h => h.elim
  | .non, h => h.elim
  | .cl _, h => h.elim
  | .ref _, h => h.elim
  | .adr _, h => h.elim
  | .ty _, h => h.elim
theorem deps_dW : ∀ {l : List W}, gxs l → PyData.depthAll (dWs l) ≤ dps l
  | [], _ => by
    show PyData.depthAll [] ≤ 0
    unfold PyData.depthAll
    exact Nat.le_refl _
  | w :: r, h => by
    show PyData.depthAll (dW w :: dWs r) ≤ max (dp w) (dps r)
    unfold PyData.depthAll
    have h1 := dep_dW h.1
    have h2 := deps_dW h.2
    omega
end
end Ev80

set_option Elab.async false
set_option linter.all false
set_option maxRecDepth 100000
set_option maxHeartbeats 1000000
/-! The law's words, leaves, things. -/
namespace Ev80
open PySem PySem.Spec PyProof.Rows L2 Ow Ev OwT EvT Ev05
open Ev82 (Vc len_at isN_ok nonB Dice RollC roll_call dW dWs wr cn cns wrH wrT)
theorem vd_roll : Vc 6 m_x_law_roll RollC := Ev82.vd_roll
theorem Dice.mono {S : Store} {p q m n : Nat} {cs : List Int} (h : Dice S p q cs m) (k : m ≤ n) : Dice S p q cs n := by
  obtain ⟨a, b, c, x, y, z, d, e, f⟩ := h
  exact ⟨a, b, c, x, y, z, d, e, by omega⟩
theorem Dice.ex {S S' : Store} {p q n : Nat} {cs : List Int} (h : Dice S p q cs n) (x : Ex S S') : Dice S' p q cs n := by
  obtain ⟨a, b, c, x1, y1, z1, d3, e4, f3⟩ := h
  exact ⟨a, b, x.at c, x1, y1, z1, x.at d3, e4, f3⟩
theorem Dice.pl {S : Store} {p q n : Nat} {cs : List Int} (h : Dice S p q cs n) : p < S.length ∧ q < S.length := by
  obtain ⟨a, b, c, x1, y1, z1, d3, e4, f3⟩ := h
  exact ⟨lt_len d3, lt_len c⟩
theorem fresh {p : Nat} {A S' : Store} {o : O} (h : Fx [p, A.length] (A ++ [o]) S') : Fx [p] A S' := ⟨by
  have := h.len
  rw [List.length_append] at this
  omega, fun n u hn e => h.keep n u (fun z => by
    rcases List.mem_cons.mp z with z | z
    · exact hn (List.mem_singleton.mpr z)
    · have := List.mem_singleton.mp z
      have := lt_len e
      omega) (Ex.one.at e)⟩
def azT : Str := "abcdefghijklmnopqrstuvwxyz"
def nlT : Str := "nowletup"
theorem az_cl : cl azT = List.range' 97 26 := by decide +kernel
def wordE : ME := (mBin wAdd (mBin wIx (mC (.str azT)) (mCB (conR RollC) (mCons (mVar 0) (mCons (mC (.int 26)) mNil)))) (mSl (mC (.str nlT)) mNoP (mP (mCB (conR RollC) (mCons (mVar 0) (mCons (mC (.int 8)) mNil))))))
theorem word_eq : m_x_law_word RollC = mRet wordE := rfl
theorem az_at {r : Int} (h0 : 0 ≤ r) (h1 : r < 26) : ∃ c, wAt (cl azT) r = some c ∧ isL c = true := by
  rw [wAt_nat h0, az_cl]
  refine ⟨97 + r.toNat, ?_, decide_eq_true (by omega)⟩
  rw [List.getElem?_range' (by omega)]
  congr 1
  omega
theorem nl_cut {r : Int} (h0 : 0 ≤ r) (h1 : r < 8) : (cutS nlT none (some r)).length ≤ 7 ∧ (∀ c ∈ cl (cutS nlT none (some r)), isL c = true) ∧ cl (cutS nlT none (some r)) ≠ [117, 110] := by
  have : r = 0 ∨ r = 1 ∨ r = 2 ∨ r = 3 ∨ r = 4 ∨ r = 5 ∨ r = 6 ∨ r = 7 := by omega
  rcases this with rfl | rfl | rfl | rfl | rfl | rfl | rfl | rfl <;> refine ⟨by decide +kernel, by decide +kernel, by decide +kernel⟩
theorem wd_of {c : Nat} {y : Str} (hc : isL c = true) (h1 : y.length ≤ 7) (h2 : ∀ c ∈ cl y, isL c = true) (h3 : cl y ≠ [117, 110]) : Wd ((⟨#[c]⟩ : Str) ++ y) := by
  have e : cl ((⟨#[c]⟩ : Str) ++ y) = c :: cl y := by
    rw [cl_app]
    rfl
  have el : ((⟨#[c]⟩ : Str) ++ y).length = 1 + y.length := by
    rw [← cl_len, e, List.length_cons, cl_len]
    omega
  refine ⟨by omega, by omega, fun x hx => ?_, fun z => h3 ?_⟩
  · rw [e] at hx
    rcases List.mem_cons.mp hx with rfl | hx
    · exact hc
    · exact h2 x hx
  · have e2 : cl (("fun" : String) : Str) = [102, 117, 110] := by decide +kernel
    rw [← z, e] at e2
    exact (List.cons.inj e2).2
section
variable {S : Store} {D : MD} {p q n : Nat} {cs : List Int}
theorem word_ok {env : EvS} {Q : WK} (he : lk env 0 = some (.ref p)) (h : Dice S p q cs n) (hn : n + 2 < 1000000) (k : ∀ z S', Wd z → Fx [p] S S' → Dice S' p q cs (n + 2) → Q (.str z) S') : wordE env S Q := by
  unfold wordE mSl mNoP mP
  simp only [mBin, mCons, mNil, mCB, mVar, mC]
  rw [he]
  refine roll_call h (by omega) (by decide) (by decide +kernel) fun r S1 a b f h1 => ?_
  obtain ⟨c, hc, hl⟩ := az_at a b
  refine ⟨by decide +kernel, ?_⟩
  show oW (wAt (cl azT) r) _
  rw [hc]
  refine roll_call h1 (by omega) (by decide) (by decide +kernel) fun r2 S2 a2 b2 f2 h2 => ?_
  refine ⟨by decide +kernel, ?_⟩
  obtain ⟨x1, x2, x3⟩ := nl_cut a2 b2
  refine ⟨?_, k _ S2 (wd_of hl x1 x2 x3) (f.trans f2) h2⟩
  show 1 + (cutS nlT none (some r2)).length ≤ sizeLine
  have : sizeLine = 16777216 := rfl
  omega
end
abbrev WordC' : Con := ⟨Nat × Nat × List Int × Nat, fun (p, q, cs, n) ws S => ws = [.ref p] ∧ Dice S p q cs n ∧ n + 2 < 1000000, fun (p, q, cs, n) S w S' => ∃ z, w = .str z ∧ Wd z ∧ Fx [p] S S' ∧ Dice S' p q cs (n + 2)⟩
theorem vd_law_word : Vc 1 (m_x_law_word RollC) WordC' := fun (p, q, cs, n) ws S ⟨e, h, hn⟩ => by
  subst e
  show m_x_law_word _ _ [some (.ref p)] S
  rw [word_eq]
  refine ret_ok (word_ok rfl h hn fun z S' a b c => ⟨z, rfl, a, b, c⟩)
/-! ### a leaf -/
def lf (x : W) : Prop := (∃ z, x = .str z ∧ Wd z) ∨ ∃ i, x = .int i ∧ -(10 ^ 18) ≤ i ∧ i ≤ 10 ^ 18
theorem lf_gx {x : W} (h : lf x) : gx x ∧ dp x = 0 ∧ cn x = 1 := by
  rcases h with ⟨z, rfl, h⟩ | ⟨i, rfl, h⟩
  · exact ⟨h, rfl, rfl⟩
  · exact ⟨h, rfl, rfl⟩
abbrev LeafC : Con := ⟨Nat × Nat × List Int × Nat, fun (p, q, cs, n) ws S => ws = [.ref p] ∧ Dice S p q cs n ∧ n + 4 < 1000000, fun (p, q, cs, n) S w S' => lf w ∧ Fx [p] S S' ∧ Dice S' p q cs (n + 4)⟩
def someE : ME := (mLst (mCons (mBin wSub (mCB (conR RollC) (mCons (mVar 0) (mCons (mC (.int 30)) mNil))) (mC (.int 15))) (mCons (mBin wSub (mCB (conR RollC) (mCons (mVar 0) (mCons (mBin wAdd (mBin wMul (mC (.int 2)) (mBin wPow (mC (.int 10)) (mC (.int 18)))) (mC (.int 1))) mNil))) (mBin wPow (mC (.int 10)) (mC (.int 18)))) mNil)))
def lastE : ME := (mBin wIx (mBin wAdd (mVar 2) (mLst (mCons (mBin wMul (mBin wPow (mC (.int 10)) (mC (.int 18))) (mBin wSub (mC (.int 1)) (mBin wMul (mC (.int 2)) (mCB (conR RollC) (mCons (mVar 0) (mCons (mC (.int 2)) mNil)))))) mNil))) (mBin wSub (mVar 1) (mC (.int 3))))
theorem leaf_eq : m_x_law_leaf RollC WordC' = (mSeq (mAsg (mCB (conR RollC) (mCons (mVar 0) (mCons (mC (.int 6)) mNil))) (mgName 1))
  (mSeq (mIfS (mTest (mBin wLt (mVar 1) (mC (.int 3))))
  (mRet (mCB (conR WordC') (mCons (mVar 0) mNil)))
  mNext)
  (mSeq (mAsg someE (mgName 2)) (mRet lastE)))) := rfl
section
variable {S : Store} {D : MD} {p q n : Nat} {cs : List Int}
theorem some_ok {w : Int} {e2 : Option W} {Q : WK} (h : Dice S p q cs n) (hn : n + 2 < 1000000) (k : ∀ (i j : Int) m S', -15 ≤ i → i < 15 → -(10 ^ 18) ≤ j → j ≤ 10 ^ 18 → S.length ≤ m → S'[m]? = some (.lst [.int i, .int j]) → Fx [p] S S' → Dice S' p q cs (n + 2) → Q (.ref m) S') : someE [some (.ref p), some (.int w), e2] S Q := by
  unfold someE
  simp only [mLst, mBin, mCons, mNil, mCB, mVar, mC, lk]
  refine roll_call h (by omega) (by decide) (by decide +kernel) fun r S1 a b f h1 => ⟨trivial, ?_⟩
  refine ⟨⟨by decide, by decide, by decide⟩, .inl ⟨by decide, by decide⟩, ?_⟩
  show conR RollC [.ref p, .int 2000000000000000001] S1 _
  refine roll_call h1 (by omega) (by decide) (by decide +kernel) fun r2 S2 a2 b2 f2 h2 => ?_
  refine ⟨⟨by decide, by decide, by decide⟩, trivial, sz2, ?_⟩
  have x : Ex S2 (S2 ++ [O.lst [.int (r - 15), .int (r2 - 10 ^ 18)]]) := Ex.one
  refine k (r - 15) (r2 - 10 ^ 18) S2.length _ (by omega) (by omega) (by omega) (by omega) ?_ (new_at S2 _) ((f.trans f2).trans (Fx.ex x)) (Dice.ex h2 x)
  exact (f.trans f2).len
theorem last_ok {w i j : Int} {m : Nat} {Q : WK} (h : Dice S p q cs n) (hn : n + 1 < 1000000) (w0 : 3 ≤ w) (w6 : w < 6) (i1 : -15 ≤ i) (i2 : i < 15) (j1 : -(10 ^ 18) ≤ j) (j2 : j ≤ 10 ^ 18) (pm : m ≠ p) (hm : S[m]? = some (.lst [.int i, .int j]))
    (k : ∀ x S', lf x → Fx [p] S S' → Dice S' p q cs (n + 1) → Q x S') : lastE [some (.ref p), some (.int w), some (.ref m)] S Q := by
  unfold lastE
  simp only [mLst, mBin, mCons, mNil, mCB, mVar, mC, lk]
  refine ⟨⟨by decide, by decide, by decide⟩, ?_⟩
  refine roll_call h (by omega) (by decide) (by decide +kernel) fun r S1 a b f h1 => ?_
  have hm1 := f.keep m _ (fun z => pm (List.mem_singleton.mp z)) hm
  refine ⟨.inl ⟨by decide, by decide⟩, trivial, ?_⟩
  refine ⟨.inl ⟨by decide, by decide⟩, sz1, ?_⟩
  have x : Ex S1 (S1 ++ [O.lst [.int (10 ^ 18 * (1 - 2 * r))]]) := Ex.one
  refine add_lst (x.at hm1) (new_at S1 _) (by show 2 + 1 ≤ sizeLine; decide) ⟨trivial, ?_⟩
  have x2 : Ex (S1 ++ [O.lst [.int (10 ^ 18 * (1 - 2 * r))]]) ((S1 ++ [O.lst [.int (10 ^ 18 * (1 - 2 * r))]]) ++ [O.lst ([.int i, .int j] ++ [.int (10 ^ 18 * (1 - 2 * r))])]) := Ex.one
  have hx : ∃ y, wAt ([W.int i, .int j] ++ [.int (10 ^ 18 * (1 - 2 * r))]) (w - 3) = some y ∧ lf y := by
    have hw : w = 3 ∨ w = 4 ∨ w = 5 := by omega
    rcases hw with rfl | rfl | rfl
    · exact ⟨_, rfl, .inr ⟨_, rfl, by omega, by omega⟩⟩
    · exact ⟨_, rfl, .inr ⟨_, rfl, by omega, by omega⟩⟩
    · exact ⟨_, rfl, .inr ⟨_, rfl, by omega, by omega⟩⟩
  obtain ⟨y, hy, hf⟩ := hx
  exact ix_at (new_at _ _) hy (k y _ hf ((f.trans (Fx.ex x)).trans (Fx.ex x2)) (Dice.ex (Dice.ex h1 x) x2))
end
theorem vd_law_leaf : Vc 3 (m_x_law_leaf RollC WordC') LeafC := fun (p, q, cs, n) ws S ⟨e, h, hn⟩ => by
  subst e
  show m_x_law_leaf _ _ _ [some (.ref p), none, none] S
  rw [leaf_eq]
  refine sa (i := 1) ?_
  simp only [mCB, mCons, mNil, mVar, mC, lk]
  refine roll_call h (by omega) (by decide) (by decide +kernel) fun r S1 a b f h1 => ?_
  simp only [List.set]
  refine si0 ?_
  simp only [mTest, mBin, mVar, mC, lk]
  show if decide (r < 3) = true then _ else _
  refine ifB (fun c => ?_) fun c => ?_
  · refine ret_ok ?_
    simp only [mCB, mCons, mNil, mVar, lk]
    refine ⟨(p, q, cs, n + 1), ⟨rfl, h1, by omega⟩, fun w S' ⟨z, e1, e2, f2, h2⟩ => ?_⟩
    exact ⟨.inl ⟨z, e1, e2⟩, f.trans f2, Dice.mono h2 (by omega)⟩
  · have c := of_decide_eq_false c
    refine sa (i := 2) ?_
    refine some_ok h1 (by omega) fun i j m S2 i1 i2 j1 j2 hm hm2 f2 h2 => ?_
    simp only [List.set]
    refine ret_ok ?_
    refine last_ok h2 (by omega) (by omega) b i1 i2 j1 j2 (by have := (Dice.pl h1).1; omega) hm2 fun x S3 hx f3 h3 => ?_
    exact ⟨hx, (f.trans f2).trans f3, Dice.mono h3 (by omega)⟩
end Ev80

set_option Elab.async false
set_option linter.all false
set_option maxRecDepth 100000
set_option maxHeartbeats 1000000
/-! A thing that is drawn. -/
namespace Ev80
open PySem PySem.Spec PyProof.Rows L2 Ow Ev OwT EvT Ev05
open Ev82 (Vc len_at isN_ok nonB Dice RollC roll_call dW dWs wr cn cns wrH wrT)
def cc : Nat → Nat
  | 0 => 1
  | d + 1 => 2 + 4 * (1 + cc d)
def td : Nat → Nat
  | 0 => 0
  | d + 1 => 1 + 4 * (5 + td d)
/-- a part d within -/
structure Pd (d : Nat) (x : W) : Prop where
  g : gx x
  dp : dp x ≤ d
  cn : cn x ≤ cc d
theorem cc_pos : ∀ d, 1 ≤ cc d
  | 0 => Nat.le_refl 1
  | d + 1 => by show 1 ≤ 2 + 4 * (1 + cc d); omega
theorem Pd.leaf {x : W} (d : Nat) (h : lf x) : Pd d x := by
  obtain ⟨a, b, c⟩ := lf_gx h
  have := cc_pos d
  exact ⟨a, by omega, by omega⟩
theorem pds {d : Nat} : ∀ (l : List W), (∀ x ∈ l, Pd d x) → gxs l ∧ dps l ≤ d ∧ cns l ≤ l.length * (1 + cc d)
  | [], _ => ⟨trivial, Nat.zero_le _, Nat.zero_le _⟩
  | w :: r, h => by
    have h1 := h w List.mem_cons_self
    obtain ⟨a, b, c⟩ := pds r fun x hx => h x (List.mem_cons_of_mem _ hx)
    refine ⟨⟨h1.g, a⟩, Nat.max_le.mpr ⟨h1.dp, b⟩, ?_⟩
    have := h1.cn
    show 1 + cn w + cns r ≤ (r.length + 1) * (1 + cc d)
    rw [Nat.succ_mul]
    omega
theorem Pd.tup {d : Nat} {l : List W} (hl : l.length ≤ 4) (h : ∀ x ∈ l, Pd d x) : Pd (d + 1) (.tup l) := by
  obtain ⟨a, b, c⟩ := pds l h
  refine ⟨⟨by omega, a⟩, by show 1 + dps l ≤ d + 1; omega, ?_⟩
  have := Nat.mul_le_mul_right (1 + cc d) hl
  show 2 + cns l ≤ 2 + 4 * (1 + cc d)
  omega
abbrev ThingC (d : Nat) : Con := ⟨Nat × Nat × List Int × Nat, fun (p, q, cs, n) ws S => ws = [.ref p, .int (d : Int)] ∧ Dice S p q cs n ∧ n + td (d + 1) < 1000000, fun (p, q, cs, n) S w S' => (∃ l, w = .tup l ∧ Pd (d + 1) (.tup l)) ∧ Fx [p] S S' ∧ Dice S' p q cs (n + td (d + 1))⟩
def putB (CT : Con) : MS := (mIfS (mOr (mTest (mBin wEq (mVar 1) (mC (.int 0)))) (mTest (mBin wGt (mCB (conR RollC) (mCons (mVar 0) (mCons (mC (.int 3)) mNil))) (mC (.int 0)))))
  (mDrop (mBM wAppend (mVar 2) (mCons (mCB (conR LeafC) (mCons (mVar 0) mNil)) mNil)))
  (mDrop (mBM wAppend (mVar 2) (mCons (mCB (conR CT) (mCons (mVar 0) (mCons (mBin wSub (mVar 1) (mC (.int 1))) mNil))) mNil))))
theorem thing_eq (CT : Con) : m_x_law_thing RollC LeafC CT = (mSeq (mAsg (mLst mNil) (mgName 2))
  (mSeq (mFor (mRg1 (mCons (mCB (conR RollC) (mCons (mVar 0) (mCons (mC (.int 5)) mNil))) mNil)) (mgName 3) (putB CT))
  (mRet (mCB wTuple (mCons (mVar 2) mNil))))) := rfl
section
variable {S : Store} {D : MD} {p q n d m : Nat} {cs : List Int} {CT : Con}
theorem put_ok {acc : List W} {e3 : Option W} (hT : ∀ e, d = e + 1 → CT = ThingC e) (h : Dice S p q cs n) (hn : n + 5 + td d < 1000000) (hm : S[m]? = some (.lst acc)) (hp : m ≠ p) (hq : m ≠ q) (hl : acc.length ≤ 4)
    (k : ∀ x S', Pd d x → Fx [p, m] S S' → S'[m]? = some (.lst (acc ++ [x])) → Dice S' p q cs (n + 5 + td d) → D.nx [some (.ref p), some (.int (d : Int)), some (.ref m), e3] S') :
    putB CT D [some (.ref p), some (.int (d : Int)), some (.ref m), e3] S := by
  have f0 : ∀ {A B : Store}, Fx [p] A B → Fx [p, m] A B := fun f => f.mono fun n hn => by
    rw [List.mem_singleton.mp hn]
    exact List.mem_cons_self
  have add : ∀ (x : W) (S1 : Store) (n1 : Nat), Pd d x → Fx [p] S S1 → Dice S1 p q cs n1 → n1 ≤ n + 5 + td d → wAppend (.ref m) [x] S1 fun _ S' => D.nx [some (.ref p), some (.int (d : Int)), some (.ref m), e3] S' := by
    intro x S1 n1 hx f h1 h2
    have hm1 := f.keep m _ (fun z => hp (List.mem_singleton.mp z)) hm
    refine apd_at hm1 (Nat.lt_of_le_of_lt hl (by decide)) ?_
    refine k x _ hx ((f0 f).trans (Fx.set (by simp))) (get_set hm1) (Dice.mono ?_ h2)
    obtain ⟨a, b, c, x1, y1, z1, d3, e4, f3⟩ := h1
    exact ⟨a, b, set_other c hq.symm, x1, y1, z1, set_other d3 hp.symm, e4, f3⟩
  have leaf : ∀ (S1 : Store) (n1 : Nat), Fx [p] S S1 → Dice S1 p q cs n1 → n1 ≤ n + 1 → (mDrop (mBM wAppend (mVar 2) (mCons (mCB (conR LeafC) (mCons (mVar 0) mNil)) mNil))) D [some (.ref p), some (.int (d : Int)), some (.ref m), e3] S1 := by
    intro S1 n1 f h1 h2
    unfold mBM
    simp only [mDrop, mCB, mCons, mNil, mVar, lk]
    refine ⟨isl_at (f.keep m _ (fun z => hp (List.mem_singleton.mp z)) hm), ?_⟩
    refine ⟨(p, q, cs, n1), ⟨rfl, h1, by omega⟩, fun w S2 ⟨hw, f2, h3⟩ => ?_⟩
    exact add w S2 (n1 + 4) (Pd.leaf d hw) (f.trans f2) h3 (by omega)
  unfold putB
  unfold mIfS
  simp only [mOr, mTest, mBin, mCB, mCons, mNil, mVar, mC, lk]
  rw [wEq_int]
  refine ifB (fun _ => ?_) fun c => ?_
  · exact ifT (leaf S n Fx.refl h (by omega))
  · have c := of_decide_eq_false c
    obtain ⟨e, rfl⟩ : ∃ e, d = e + 1 := ⟨d - 1, by omega⟩
    refine roll_call h (by omega) (by decide) (by decide +kernel) fun r S1 a b f h1 => ?_
    show if decide ((0 : Int) < r) = true then _ else _
    refine ifB (fun _ => leaf S1 (n + 1) f h1 (by omega)) fun _ => ?_
    unfold mBM
    simp only [mDrop, mBin, mCB, mCons, mNil, mVar, mC, lk]
    refine ⟨isl_at (f.keep m _ (fun z => hp (List.mem_singleton.mp z)) hm), trivial, ?_⟩
    rw [hT e rfl]
    refine ⟨(p, q, cs, n + 1), ⟨?_, h1, by omega⟩, fun w S2 ⟨⟨l, hw, hx⟩, f2, h3⟩ => ?_⟩
    · show [W.ref p, W.int (((e + 1 : Nat) : Int) - 1)] = [W.ref p, W.int (e : Int)]
      congr 3
      omega
    · subst hw
      exact add (.tup l) S2 _ hx (f.trans f2) h3 (by omega)
theorem puts_ok (chk : Store → Prop) (hc : ∀ S, chk S) (hT : ∀ e, d = e + 1 → CT = ThingC e) (hp : m ≠ p) (hq : m ≠ q) :
    ∀ (ws acc : List W) (S : Store) (n : Nat) (e3 : Option W), acc.length + ws.length ≤ 4 → Dice S p q cs n → n + ws.length * (5 + td d) < 1000000 → S[m]? = some (.lst acc) → (∀ x ∈ acc, Pd d x) →
      (∀ l e3 S', l.length ≤ 4 → (∀ x ∈ l, Pd d x) → Fx [p, m] S S' → S'[m]? = some (.lst l) → Dice S' p q cs (n + ws.length * (5 + td d)) → D.nx [some (.ref p), some (.int (d : Int)), some (.ref m), e3] S') →
      forL chk (mgName 3) (putB CT) D ws [some (.ref p), some (.int (d : Int)), some (.ref m), e3] S
  | [], acc, S, n, e3, hl, h, hn, hm, ha, k => by
    have hl : acc.length + 0 ≤ 4 := hl
    exact ⟨hc S, k acc e3 S (by omega) ha Fx.refl hm (Dice.mono h (by omega))⟩
  | w :: r, acc, S, n, e3, hl, h, hn, hm, ha, k => by
    rw [List.length_cons] at hl hn
    rw [Nat.succ_mul] at hn
    refine ⟨hc S, ?_⟩
    refine put_ok (D := { nx := forL chk (mgName 3) (putB CT) D r, rt := D.rt, bk := D.nx, ct := forL chk (mgName 3) (putB CT) D r }) hT h (by omega) hm hp hq (by omega) fun x S1 hx f1 at1 h1 => ?_
    refine puts_ok chk hc hT hp hq r (acc ++ [x]) S1 _ _ (by rw [List.length_append, List.length_singleton]; omega) h1 (by omega) at1 (fun y hy => ?_) fun l e3 S' l1 l2 f2 at2 h2 => ?_
    · rcases List.mem_append.mp hy with hy | hy
      · exact ha y hy
      · rw [List.mem_singleton.mp hy]
        exact hx
    · refine k l e3 S' l1 l2 (f1.trans f2) at2 (Dice.mono h2 ?_)
      rw [List.length_cons, Nat.succ_mul]
      omega
end
theorem vd_thing {d : Nat} {CT : Con} (hT : ∀ e, d = e + 1 → CT = ThingC e) : Vc 4 (m_x_law_thing RollC LeafC CT) (ThingC d) := fun (p, q, cs, n) ws S ⟨e, h, hn⟩ => by
  subst e
  have hn : n + (1 + 4 * (5 + td d)) < 1000000 := hn
  show m_x_law_thing _ _ _ _ [some (.ref p), some (.int (d : Int)), none, none] S
  rw [thing_eq]
  refine sa (i := 2) ?_
  simp only [mLst, mNil]
  refine ⟨sz0, ?_⟩
  simp only [List.set]
  refine seq_ok ?_
  unfold mFor mRg1
  simp only [mCB, mCons, mNil, mVar, mC, lk]
  have x : Ex S (S ++ [O.lst []]) := Ex.one
  refine roll_call (Dice.ex h x) (by omega) (by decide) (by decide +kernel) fun r S1 a b f h1 => ⟨⟨by omega, by omega⟩, ?_⟩
  have pl := Dice.pl h
  have hl : (rgW 0 r.toNat).length ≤ 4 := by
    unfold rgW
    rw [List.length_map, List.length_range]
    omega
  have h4 := Nat.mul_le_mul_right (5 + td d) hl
  refine puts_ok (m := S.length) (q := q) (cs := cs) (fun _ => True) (fun _ => trivial) hT (by omega) (by omega) (rgW 0 r.toNat) [] S1 (n + 1) none (by show 0 + _ ≤ 4; omega) h1 (by omega) (f.keep _ _ (fun z => by have := List.mem_singleton.mp z; omega) (new_at S _)) (fun x hx => (List.not_mem_nil hx).elim) fun l e3 S' l1 l2 f2 at2 h2 => ?_
  dsimp only
  refine ret_ok ?_
  simp only [mCB, mCons, mNil, mVar, lk]
  refine tup_at at2 ?_
  refine ⟨⟨l, rfl, Pd.tup l1 l2⟩, ?_, Dice.mono h2 ?_⟩
  · have f3 : Fx [p, S.length] (S ++ [O.lst []]) S' := (f.mono fun n hn => by rw [List.mem_singleton.mp hn]; exact List.mem_cons_self).trans f2
    exact fresh f3
  · show _ ≤ n + (1 + 4 * (5 + td d))
    omega
end Ev80

set_option Elab.async false
set_option linter.all false
set_option maxRecDepth 100000
set_option maxHeartbeats 1000000
/-! The law's own text, the kinds, what is right. -/
namespace Ev80
open PySem PySem.Spec PyProof.Rows L2 Ow Ev OwT EvT Ev05
open Ev82 (Vc len_at isN_ok nonB dW dWs wr cn cns cn_pos wrH wrT okG_dw okG_dat isFun emp catS)
theorem filter_true {α : Type} (l : List α) : l.filter (fun _ => true) = l := List.filter_eq_self.mpr fun _ _ => rfl
theorem emp_app (z : Str) : ("" : Str) ++ z = z := by
  rw [emp, Str.empty_append]
/-- the words of a tuple, joined -/
theorem join_wr : ∀ l : List W, Txt.join " " (l.map wr) = wrH l := fun l => by
  show Builtin.Str.glued " " (l.map wr) = _
  rw [StrLaws.glued_eq_join]
  induction l with
  | nil => rfl
  | cons x r ih =>
    cases r with
    | nil =>
      show wr x = wr x ++ Str.empty
      rw [Str.append_empty]
    | cons y r =>
      show wr x ++ " " ++ Str.join " " ((y :: r).map wr) = wr x ++ (" " ++ (wr y ++ wrT r))
      rw [ih, Str.append_assoc]
      rfl
theorem sum_wr : ∀ {l : List W}, gxs l → ((l.map wr).map (·.length)).sum + l.length ≤ 20 * cns l
  | [], _ => Nat.zero_le _
  | w :: r, h => by
    have h1 := wr_len h.1
    have h2 := sum_wr h.2
    rw [cl_len] at h1
    rw [List.map_cons, List.map_cons, List.sum_cons, List.length_cons]
    show (wr w).length + _ + (r.length + 1) ≤ 20 * (1 + cn w + cns r)
    omega
/-- a list comprehension over a tuple, with a call -/
theorem comp_ok {i v : Nat} {l : List W} {f : W → W} {te : ME} {env : EvS} {S : Store} {Q : WK} (hv : lk env i = some (.tup l)) (hl : l.length ≤ 5000)
    (he : ∀ w ∈ l, ∀ (S1 : Store) (k : WK), (∀ S', Ex S1 S' → k (f w) S') → te ((wpE env [v]).set v (some w)) S1 k)
    (k : ∀ m S', Ex S S' → S'[m]? = some (.lst (l.map f)) → Q (.ref m) S') : mLc (mIt (mVar i)) (mgName v) mYes te [v] env S Q := by
  unfold mLc mIt
  simp only [mVar]
  rw [hv]
  have key := lcL_ex (chk := fun _ => True) (mg := mgName v) (tt := mYes) (te := te) (env := wpE env [v]) (Q := Q) (S0 := S) (fun _ => true) f (fun w => (wpE env [v]).set v (some w)) (fun _ _ => trivial) l [] (by show 0 + l.length ≤ sizeLine; have : sizeLine = 16777216 := rfl; omega) (fun w _ S2 R r => r) (fun w _ S2 k _ z => z S2 Ex.refl) (fun w hw _ S2 k _ z => he w hw S2 k z) (fun S5 h5 => ?_) _ Ex.refl
  · exact key
  · rw [filter_true, List.nil_append] at h5
    obtain ⟨h6, at6⟩ := h5.new
    exact k _ _ h6 at6
theorem cn_mem : ∀ {l : List W} {w : W}, w ∈ l → cn w ≤ cns l ∧ dp w ≤ dps l
  | a :: r, w, h => by
    show _ ≤ 1 + cn a + cns r ∧ _ ≤ max (dp a) (dps r)
    rcases List.mem_cons.mp h with rfl | h
    · exact ⟨by omega, Nat.le_max_left _ _⟩
    · have := cn_mem h
      have := Nat.le_max_right (dp a) (dps r)
      exact ⟨by omega, by omega⟩
theorem gx_mem : ∀ {l : List W} {w : W}, w ∈ l → gxs l → gx w
  | a :: r, w, h, g => by
    rcases List.mem_cons.mp h with rfl | h
    · exact g.1
    · exact gx_mem h g.2
/-! ### _law_text -/
abbrev TxC (n : Nat) : Con := ⟨W, fun x ws S => ws = [x] ∧ gx x ∧ dp x ≤ n ∧ cn x ≤ 80000, fun x S w S' => w = .str (wr x) ∧ Ex S S'⟩
theorem gx_dat {x : W} {S : Store} (h : gx x) : dat S x := okG_dat (gx_okG h)
theorem vd_text {n : Nat} {CT : Con} (hT : ∀ e, n = e + 1 → CT = TxC e) : Vc 2 (m_x_law_text CT) (TxC n) := fun x ws S ⟨e, h, hd, hc⟩ => by
  subst e
  show m_x_law_text _ _ [some x, none] S
  unfold m_x_law_text
  refine si0 ?_
  simp only [mNot, mTru, mCB, mCons, mNil, mVar, mC, lk]
  refine isi_tup (gx_dat h) ?_
  simp only [tru_bl]
  cases x with
  | int i =>
    refine ifB (fun _ => ret_ok ?_) fun e => by cases e
    simp only [mIf, mTru, mCB, mCons, mNil, mVar, mC, lk]
    refine isi_str (S := S) (w := .int i) (gx_dat (x := .int i) h) ?_
    simp only [tru_bl]
    refine ifB (fun e => by cases e) fun _ => ?_
    exact ⟨int_lg h.1 h.2, rfl, Ex.refl⟩
  | str z =>
    refine ifB (fun _ => ret_ok ?_) fun e => by cases e
    simp only [mIf, mTru, mCB, mCons, mNil, mVar, mC, lk]
    refine isi_str (S := S) (w := .str z) (gx_dat (x := .str z) h) ?_
    simp only [tru_bl]
    exact ifB (fun _ => ⟨rfl, Ex.refl⟩) fun e => by cases e
  | tup l =>
    refine ifB (fun e => by cases e) fun _ => ret_ok ?_
    have hd : 1 + dps l ≤ n := hd
    have hc : 2 + cns l ≤ 80000 := hc
    obtain ⟨e, rfl⟩ : ∃ e, n = e + 1 := ⟨n - 1, by omega⟩
    rw [hT e rfl]
    have hs := sum_wr h.2
    have hl := wrH_len h.2
    rw [cl_len] at hl
    unfold mJoin
    simp only [mBin, mC]
    refine comp_ok (i := 0) (f := fun w => .str (wr w)) rfl h.1 (fun w hw S1 k q => ?_) fun m S1 x1 at1 => ?_
    · have := cn_mem hw
      show conR (TxC e) [w] S1 k
      exact ⟨w, ⟨rfl, gx_mem hw h.2, by omega, by omega⟩, fun w' S' ⟨a, b⟩ => by rw [a]; exact q S' b⟩
    · refine ⟨l.map wr, ?_, ?_, ?_⟩
      · show (match S1[m]? with | some (O.lst l) => some l | _ => none) = _
        rw [at1, List.map_map]
        rfl
      · rw [List.length_map]
        have : ((" " : String) : Str).length = 1 := by decide
        rw [this]
        omega
      · rw [join_wr]
        have e1 : (("(" : String) : Str).length = 1 := by decide
        have e2 : ((")" : String) : Str).length = 1 := by decide
        have hz : sizeLine = 16777216 := rfl
        refine ⟨by omega, ⟨by rw [Str.length_append]; omega, ?_⟩⟩
        have ew : wr (.tup l) = "(" ++ (wrH l ++ ")") := by
          show (if isFun l = true then ("fun" : Str) else "(" ++ (wrH l ++ ")")) = _
          rw [if_neg (by rw [gxs_fun h.2]; decide)]
        rw [ew, ← Str.append_assoc]
        exact ⟨rfl, x1⟩
  | _ => exact h.elim
/-! ### _law_kinds -/
abbrev KdC (n : Nat) : Con := ⟨W, fun x ws S => ws = [x] ∧ gx x ∧ dp x ≤ n, fun x S w S' => w = .bl true ∧ Ex S S'⟩
theorem vd_kinds {n : Nat} {CT : Con} (hT : ∀ e, n = e + 1 → CT = KdC e) : Vc 2 (m_x_law_kinds CT) (KdC n) := fun x ws S ⟨e, h, hd⟩ => by
  subst e
  show m_x_law_kinds _ _ [some x, none] S
  unfold m_x_law_kinds
  refine si0 ?_
  simp only [mTru, mCB, mCons, mNil, mVar, mC, lk]
  refine isi_tup (gx_dat h) ?_
  simp only [tru_bl]
  cases x with
  | int i =>
    refine ifB (fun e => by cases e) fun _ => ret_ok ?_
    simp only [mOrV, mAndV, mNotV, mCB, mCons, mNil, mVar, mC, lk]
    refine isi_str (S := S) (w := .int i) (gx_dat (x := .int i) h) ?_
    refine ifB (fun e => by cases e) fun _ => ?_
    refine isi_int (S := S) (w := .int i) (gx_dat (x := .int i) h) ?_
    refine ifB (fun _ => ?_) fun e => by cases e
    refine isi_bl (S := S) (w := .int i) (gx_dat (x := .int i) h) ?_
    exact ⟨rfl, Ex.refl⟩
  | str z =>
    refine ifB (fun e => by cases e) fun _ => ret_ok ?_
    simp only [mOrV, mAndV, mNotV, mCB, mCons, mNil, mVar, mC, lk]
    refine isi_str (S := S) (w := .str z) (gx_dat (x := .str z) h) ?_
    exact ifB (fun _ => ⟨trivial, Ex.refl⟩) fun e => by cases e
  | tup l =>
    refine ifB (fun _ => ret_ok ?_) fun e => by cases e
    have hd : 1 + dps l ≤ n := hd
    obtain ⟨e, rfl⟩ : ∃ e, n = e + 1 := ⟨n - 1, by omega⟩
    rw [hT e rfl]
    unfold mCB mCons mNil
    refine comp_ok (i := 0) (f := fun w => .bl true) rfl h.1 (fun w hw S1 k q => ?_) fun m S1 x1 at1 => ?_
    · have := cn_mem hw
      show conR (KdC e) [w] S1 k
      exact ⟨w, ⟨rfl, gx_mem hw h.2, by omega⟩, fun w' S' ⟨a, b⟩ => by rw [a]; exact q S' b⟩
    · show oL S1[m]? _
      rw [at1]
      refine ⟨l.map fun _ => true, by rw [List.map_map]; rfl, ?_⟩
      have : (l.map fun _ => true).all id = true := List.all_eq_true.mpr fun b hb => by
        obtain ⟨w, _, rfl⟩ := List.mem_map.mp hb
        rfl
      rw [this]
      exact ⟨rfl, x1⟩
  | _ => exact h.elim
/-! ### _law_right -/
theorem eqX_same {neg : Bool} {B : Nat} {x : W} {S : Store} {Q : WK} (h : Ev82.okG x) (hd : (dW x).depth ≤ B) (q : Q (.bl (!neg)) S) : wEqX B neg x x S Q := by
  have h1 := okG_dw (S := S) h
  refine ⟨_, _, h1.1, h1.1, h1.2, h1.2, by omega, ?_⟩
  show Q (.bl (neg ^^ PyData.eqv (dW x) (dW x))) S
  rw [PySem.SeqAt.eqv_refl _ h1.2, Bool.xor_true]
  exact q
abbrev RightC : Con := ⟨List W, fun l ws S => ws = [.tup l, .str (wr (.tup l))] ∧ gx (.tup l) ∧ dp (.tup l) ≤ 200 ∧ cn (.tup l) ≤ 80000, fun l S w S' => w = .bl true ∧ Kp S.length S S'⟩
theorem vd_right : Vc 3 (m_x_law_right TextC ReadC (KdC 200)) RightC := fun l ws S ⟨e, h, hd, hc⟩ => by
  subst e
  show m_x_law_right _ _ _ _ [some (.tup l), some (.str (wr (.tup l))), none] S
  have hl := wr_len h
  rw [cl_len] at hl
  have hz : sizeLine = 16777216 := rfl
  have ho := gx_okG h
  have hw : Ev82.okG (.str (wr (.tup l))) := ⟨by omega, lay_lo (wr_lo h)⟩
  unfold m_x_law_right
  refine si0 ?_
  simp only [mTest, mBin, mCB, mCons, mNil, mVar, lk]
  refine ⟨.tup l, ⟨rfl, gx_ok h, hc, by omega⟩, fun w S1 ⟨a, x1⟩ => ?_⟩
  subst a
  refine eqX_same hw ?_ ?_
  · show (PyData.str (wr (.tup l))).depth ≤ 3000
    unfold PyData.depth
    exact Nat.zero_le _
  refine ifB (fun e => by cases e) fun _ => ?_
  refine sa (i := 2) ?_
  simp only [mCB, mCons, mNil, mVar, lk]
  refine ⟨(l, wr (.tup l), cn (.tup l)), ⟨rfl, by omega, runs_whole l (gx_rd h) hd⟩, fun w S2 ⟨a, k2⟩ => ?_⟩
  have a : w = .tup l := a
  subst a
  simp only [List.set]
  refine ret_ok ?_
  simp only [mAndV, mBin, mCB, mCons, mNil, mVar, lk]
  refine eqX_same ho ?_ ?_
  · have := dep_dW h
    omega
  refine ifB (fun _ => ?_) fun e => by cases e
  refine ⟨.tup l, ⟨rfl, h, hd⟩, fun w S3 ⟨a, x3⟩ => ⟨a, ?_⟩⟩
  have k2 : Kp S1.length S1 S2 := k2
  exact ((Kp.ex x1).trans ⟨k2.len, fun n u hn e => k2.keep n u (Nat.lt_of_lt_of_le hn x1.len) e⟩).trans (Kp.ex x3)
end Ev80

set_option Elab.async false
set_option linter.all false
set_option maxRecDepth 100000
set_option maxHeartbeats 1000000
/-! The law: the turns and the chain. -/
namespace Ev80
open PySem PySem.Spec PyProof.Rows L2 Ow Ev OwT EvT Ev05
open Ev82 (Vc len_at isN_ok nonB dW dWs wr cn cns cn_pos wrH wrT okG_dw okG_dat isFun emp catS Dice RollC roll_call join_cat catS_len)
theorem Dice.kp {S S' : Store} {p q n : Nat} {cs : List Int} (h : Dice S p q cs n) (k : Kp S.length S S') : Dice S' p q cs n := by
  obtain ⟨a, b, c, x1, y1, z1, d3, e4, f3⟩ := h
  exact ⟨a, b, k.keep _ _ (lt_len c) c, x1, y1, z1, k.keep _ _ (lt_len d3) d3, e4, f3⟩
/-! ### _law_pick -/
abbrev PickC : Con := ⟨Nat × Nat × List Int × Nat × Nat × List W, fun (p, q, cs, n, m, l) ws S => ws = [.ref p, .ref m] ∧ S[m]? = some (.lst l) ∧ m ≠ p ∧ 0 < l.length ∧ l.length < 100 ∧ Dice S p q cs n ∧ n + 1 < 1000000, fun (p, q, cs, n, m, l) S w S' => w ∈ l ∧ Fx [p] S S' ∧ Dice S' p q cs (n + 1)⟩
theorem log_small {m : Nat} (h : m < 100) : (m : Int).natAbs.log2 < 9000 := by
  rcases Nat.eq_zero_or_pos m with z | z
  · rw [z]
    decide
  · have : m.log2 < 8 := (Nat.log2_lt (by omega)).mpr (by omega)
    show m.log2 < 9000
    omega
theorem vd_pick : Vc 2 (m_x_law_pick RollC) PickC := fun (p, q, cs, n, m, l) ws S ⟨e, hm, mp, l0, l1, h, hn⟩ => by
  subst e
  show m_x_law_pick _ _ [some (.ref p), some (.ref m)] S
  unfold m_x_law_pick
  refine ret_ok ?_
  simp only [mBin, mCB, mCons, mNil, mVar, lk]
  refine len_at hm ?_
  refine roll_call h (by omega) (by omega) (log_small l1) fun r S1 a b f h1 => ?_
  have hm1 := f.keep m _ (fun z => mp (List.mem_singleton.mp z)) hm
  have hr : r.toNat < l.length := by omega
  refine ix_at hm1 (w := l[r.toNat]) (by rw [wAt_nat a, List.getElem?_eq_getElem hr]) ?_
  exact ⟨List.getElem_mem hr, f, h1⟩
/-! ### a turn -/
section
variable {S : Store} {D : MD} {p q n : Nat} {cs : List Int} {Q : WK}
theorem tx_call {x : W} (h : gx x) (hd : dp x ≤ 200) (hc : cn x ≤ 80000) (k : ∀ S', Ex S S' → Q (.str (wr x)) S') : conR (TxC 200) [x] S Q := ⟨x, ⟨rfl, h, hd, hc⟩, fun w S' ⟨a, b⟩ => by rw [a]; exact k S' b⟩
theorem text_call {x : W} (h : gx x) (hc : cn x ≤ 80000) (k : ∀ S', Ex S S' → Q (.str (wr x)) S') : conR TextC [x] S Q := ⟨x, ⟨rfl, gx_ok h, hc, by
  have := wr_len h
  rw [cl_len] at this
  omega⟩, fun w S' ⟨a, b⟩ => by rw [a]; exact k S' b⟩
theorem right_call {l : List W} {z : Str} (hz : z = wr (.tup l)) (h : gx (.tup l)) (hd : dp (.tup l) ≤ 200) (hc : cn (.tup l) ≤ 80000) (k : ∀ S', Kp S.length S S' → Q (.bl true) S') : conR RightC [.tup l, .str z] S Q := by
  subst hz
  exact ⟨l, ⟨rfl, h, hd, hc⟩, fun w S' ⟨a, b⟩ => by rw [a]; exact k S' b⟩
def leafT : MS := (mSeq (mAsg (mCB (conR LeafC) (mCons (mVar 1) mNil)) (mgName 4))
  (mIfS (mTest (mBin wNe (mCB (conR TextC) (mCons (mVar 4) mNil)) (mCB (conR (TxC 200)) (mCons (mVar 4) mNil))))
  (mRet (mC (.bl false)))
  mNext))
def turnB : MS := (mSeq (mAsg (mCB (conR (ThingC 3)) (mCons (mVar 1) (mCons (mC (.int 3)) mNil))) (mgName 3))
  (mSeq (mIfS (mOr (mNot (mTru (mCB (conR RightC) (mCons (mVar 3) (mCons (mCB (conR (TxC 200)) (mCons (mVar 3) mNil)) mNil))))) (mTest (mBin wNe (mCB (conR TextC) (mCons (mVar 3) mNil)) (mCB (conR (TxC 200)) (mCons (mVar 3) mNil)))))
  (mRet (mC (.bl false)))
  mNext) leafT))
theorem leaf_turn {e0 e2 e3 e4 e5 e6 e7 e8 e9 ea eb : Option W} (h : Dice S p q cs n) (hn : n + 4 < 1000000) (k : ∀ e4 S', Dice S' p q cs (n + 4) → D.nx [e0, some (.ref p), e2, e3, e4, e5, e6, e7, e8, e9, ea, eb] S') :
    leafT D [e0, some (.ref p), e2, e3, e4, e5, e6, e7, e8, e9, ea, eb] S := by
  unfold leafT
  refine sa (i := 4) ?_
  simp only [mCB, mCons, mNil, mVar, lk]
  refine ⟨(p, q, cs, n), ⟨rfl, h, hn⟩, fun w S1 ⟨hw, f1, h1⟩ => ?_⟩
  obtain ⟨g, gd, gc⟩ := lf_gx hw
  simp only [List.set]
  unfold mIfS
  simp only [mTest, mBin, mCB, mCons, mNil, mVar, lk]
  refine text_call g (by omega) fun S2 x2 => ?_
  refine tx_call g (by omega) (by omega) fun S3 x3 => ?_
  rw [wNe_str, decide_eq_true rfl]
  refine ifB (fun e => by cases e) fun _ => ?_
  exact k _ S3 (Dice.ex (Dice.ex h1 x2) x3)
theorem turn_ok {e0 e2 e3 e4 e5 e6 e7 e8 e9 ea eb : Option W} (h : Dice S p q cs n) (hn : n + 1789 < 1000000) (k : ∀ e3 e4 S', Dice S' p q cs (n + 1789) → D.nx [e0, some (.ref p), e2, e3, e4, e5, e6, e7, e8, e9, ea, eb] S') :
    turnB D [e0, some (.ref p), e2, e3, e4, e5, e6, e7, e8, e9, ea, eb] S := by
  have h4 : td 4 = 1785 := by decide
  unfold turnB
  refine sa (i := 3) ?_
  simp only [mCB, mCons, mNil, mVar, mC, lk]
  refine ⟨(p, q, cs, n), ⟨rfl, h, by show n + td 4 < 1000000; omega⟩, fun w S1 ⟨⟨l, hw, hg⟩, f1, h1⟩ => ?_⟩
  have h1 : Dice S1 p q cs (n + td 4) := h1
  subst hw
  have c4 : cc 4 ≤ 80000 := by decide
  have gd : dp (.tup l) ≤ 200 := Nat.le_trans hg.dp (by decide)
  have gc : cn (.tup l) ≤ 80000 := Nat.le_trans hg.cn c4
  simp only [List.set]
  refine si0 ?_
  simp only [mOr, mNot, mTru, mTest, mBin, mCB, mCons, mNil, mVar, lk]
  refine tx_call hg.g gd gc fun S2 x2 => ?_
  refine right_call rfl hg.g gd gc fun S3 k3 => ?_
  simp only [tru_bl]
  refine ifB (fun e => by cases e) fun _ => ?_
  refine text_call hg.g gc fun S4 x4 => ?_
  refine tx_call hg.g gd gc fun S5 x5 => ?_
  rw [wNe_str, decide_eq_true rfl]
  refine ifB (fun e => by cases e) fun _ => ?_
  have h5 := Dice.ex (Dice.ex (Dice.kp (Dice.ex h1 x2) k3) x4) x5
  refine leaf_turn h5 (by omega) fun e4 S6 h6 => ?_
  exact k _ _ S6 (Dice.mono h6 (by omega))
theorem turns_ok {e0 e5 e6 e7 e8 e9 ea eb : Option W} (chk : Store → Prop) (hc : ∀ S, chk S) (k : ∀ e2 e3 e4 S' n', n' ≤ 100000 → Dice S' p q cs n' → D.nx [e0, some (.ref p), e2, e3, e4, e5, e6, e7, e8, e9, ea, eb] S') :
    ∀ (ws : List W) (S : Store) (n : Nat) (e2 e3 e4 : Option W), Dice S p q cs n → n + ws.length * 1789 ≤ 100000 → forL chk (mgName 2) turnB D ws [e0, some (.ref p), e2, e3, e4, e5, e6, e7, e8, e9, ea, eb] S
  | [], S, n, e2, e3, e4, h, hn => ⟨hc S, k _ _ _ S n (by omega) h⟩
  | w :: r, S, n, e2, e3, e4, h, hn => by
    rw [List.length_cons, Nat.succ_mul] at hn
    refine ⟨hc S, ?_⟩
    refine turn_ok (D := { nx := forL chk (mgName 2) turnB D r, rt := D.rt, bk := D.nx, ct := forL chk (mgName 2) turnB D r }) h (by omega) fun e3 e4 S' h' => ?_
    exact turns_ok chk hc k r S' (n + 1789) _ _ _ h' (by omega)
end
/-! ### the chain -/
structure Ch (j : Nat) (l : List W) : Prop where
  g : gx (.tup l)
  dp : dp (.tup l) ≤ j + 1
  cn : cn (.tup l) ≤ 2 + 5 * j
theorem Ch.nil : Ch 0 [] := ⟨⟨by decide, trivial⟩, by decide, by decide⟩
def moreL (j : Int) : List W := [.tup [], .tup [.str "a"], .tup [.int (0 - j)]]
theorem wd_a : Wd "a" := ⟨by decide +kernel, by decide +kernel, by decide +kernel, by decide +kernel⟩
theorem more_in {j r : Int} (h0 : 0 ≤ r) (h1 : r < 3) (j0 : 0 ≤ j) (j1 : j ≤ 1000) : ∃ mo, wAt (moreL j) r = some (.tup mo) ∧ mo.length ≤ 1 ∧ ∀ x ∈ mo, lf x := by
  have : r = 0 ∨ r = 1 ∨ r = 2 := by omega
  rcases this with rfl | rfl | rfl
  · exact ⟨[], rfl, by decide, fun x hx => (List.not_mem_nil hx).elim⟩
  · exact ⟨[.str "a"], rfl, by decide, fun x hx => by rw [List.mem_singleton.mp hx]; exact .inl ⟨_, rfl, wd_a⟩⟩
  · exact ⟨[.int (0 - j)], rfl, by show 1 ≤ 1; decide, fun x hx => by rw [List.mem_singleton.mp hx]; exact .inr ⟨_, rfl, by omega, by omega⟩⟩
theorem Ch.next {j : Nat} {l mo : List W} (h : Ch j l) (hm : mo.length ≤ 1) (hl : ∀ x ∈ mo, lf x) : Ch (j + 1) (mo ++ [.tup l]) := by
  have h1 := h.dp
  have h2 := h.cn
  match mo, hm, hl with
  | [], _, _ =>
    refine ⟨⟨by show 1 ≤ 5000; decide, h.g, trivial⟩, ?_, ?_⟩
    · show 1 + max (Ev80.dp (.tup l)) 0 ≤ j + 1 + 1
      omega
    · show 2 + (1 + Ev82.cn (.tup l) + 0) ≤ 2 + 5 * (j + 1)
      omega
  | [x], _, hl =>
    obtain ⟨a, b, c⟩ := lf_gx (hl x List.mem_cons_self)
    refine ⟨⟨by show 2 ≤ 5000; decide, a, h.g, trivial⟩, ?_, ?_⟩
    · show 1 + max (Ev80.dp x) (max (Ev80.dp (.tup l)) 0) ≤ j + 1 + 1
      omega
    · show 2 + (1 + Ev82.cn x + (1 + Ev82.cn (.tup l) + 0)) ≤ 2 + 5 * (j + 1)
      omega
theorem wr_str {l : List W} (h : gx (.tup l)) : wr (.tup l) = "(" ++ (wrH l ++ ")") := by
  show (if isFun l = true then ("fun" : Str) else "(" ++ (wrH l ++ ")")) = _
  rw [if_neg (by rw [gxs_fun h.2]; decide)]
theorem wr_next {l mo : List W} (h : gx (.tup (mo ++ [.tup l]))) (hm : mo.length ≤ 1) : wr (.tup (mo ++ [.tup l])) = "(" ++ catS (mo.map fun w => wr w ++ " ") ++ wr (.tup l) ++ ")" := by
  rw [wr_str h]
  match mo, hm with
  | [], _ =>
    show "(" ++ ((wr (.tup l) ++ Str.empty) ++ ")") = "(" ++ Str.empty ++ wr (.tup l) ++ ")"
    simp only [Str.append_empty, Str.append_assoc]
  | [x], _ =>
    show "(" ++ ((wr x ++ (" " ++ (wr (.tup l) ++ Str.empty))) ++ ")") = "(" ++ (wr x ++ " " ++ Str.empty) ++ wr (.tup l) ++ ")"
    simp only [Str.append_empty, Str.append_assoc]
def moreE : ME := (mBin wIx (mLst (mCons (mTup mNil) (mCons (mTup (mCons (mC (.str "a")) mNil)) (mCons (mTup (mCons (mBin wSub (mC (.int 0)) (mVar 8)) mNil)) mNil)))) (mCB (conR RollC) (mCons (mVar 1) (mCons (mC (.int 3)) mNil))))
def textE : ME := (mBin wAdd (mBin wAdd (mBin wAdd (mC (.str "(")) (mJoin (mC (.str "")) (mLc (mIt (mVar 9)) (mgName 11) mYes (mBin wAdd (mCB (conR (TxC 200)) (mCons (mVar 11) mNil)) (mC (.str " "))) [11]))) (mVar 7)) (mC (.str ")")))
def chainB : MS := (mSeq (mAsg moreE (mgName 9))
  (mSeq (mAsg (mBin wAdd (mVar 9) (mTup (mCons (mVar 6) mNil))) (mgName 6))
  (mAsg textE (mgName 7))))
section
variable {S : Store} {D : MD} {p q n : Nat} {cs : List Int} {Q : WK}
theorem more_ok {e0 e2 e3 e4 e5 e6 e7 e9 ea eb : Option W} {j : Nat} (h : Dice S p q cs n) (hn : n + 1 < 1000000) (hj : j ≤ 1000) (k : ∀ mo S', mo.length ≤ 1 → (∀ x ∈ mo, lf x) → Dice S' p q cs (n + 1) → Q (.tup mo) S') :
    moreE [e0, some (.ref p), e2, e3, e4, e5, e6, e7, some (.int (j : Int)), e9, ea, eb] S Q := by
  unfold moreE
  simp only [mBin, mLst, mTup, mCB, mCons, mNil, mVar, mC, lk]
  refine ⟨sz0, sz1, trivial, sz1, sz3, ?_⟩
  have x : Ex S (S ++ [O.lst (moreL j)]) := Ex.one
  have at0 : (S ++ [O.lst (moreL j)])[S.length]? = some (.lst (moreL j)) := new_at S _
  have pl := Dice.pl h
  show conR RollC [.ref p, .int 3] (S ++ [O.lst (moreL j)]) _
  refine roll_call (Dice.ex h x) (by omega) (by decide) (by decide +kernel) fun r S1 a b f h1 => ?_
  obtain ⟨mo, e1, m1, m2⟩ := more_in (j := (j : Int)) a b (by omega) (by omega)
  exact ix_at (f.keep _ _ (fun z => by have := List.mem_singleton.mp z; omega) at0) e1 (k mo S1 m1 m2 h1)
theorem cat_len (mo : List W) (hm : mo.length ≤ 1) (hl : ∀ x ∈ mo, lf x) : (catS (mo.map fun w => wr w ++ " ")).length ≤ 21 ∧ ((mo.map fun w => wr w ++ " ").map (·.length)).sum ≤ 21 := by
  have e1 : ((" " : String) : Str).length = 1 := by decide
  rw [← catS_len]
  match mo, hm, hl with
  | [], _, _ => exact ⟨by decide, by decide⟩
  | [x], _, hl =>
    obtain ⟨a, b, c⟩ := lf_gx (hl x List.mem_cons_self)
    have := wr_len a
    rw [cl_len] at this
    have e2 : (catS ([x].map fun w => wr w ++ " ")).length = (wr x).length + 1 := by
      show ((wr x ++ " ") ++ Str.empty).length = _
      rw [Str.append_empty, Str.length_append, e1]
    rw [e2]
    omega
theorem text_ok {e0 e1 e2 e3 e4 e5 e6 e8 ea eb : Option W} {l mo : List W} (hm : mo.length ≤ 1) (hl : ∀ x ∈ mo, lf x) (hg : gx (.tup (mo ++ [.tup l]))) (hw : (wr (.tup l)).length ≤ 100000) (k : ∀ S', Ex S S' → Q (.str (wr (.tup (mo ++ [.tup l])))) S') :
    textE [e0, e1, e2, e3, e4, e5, e6, some (.str (wr (.tup l))), e8, some (.tup mo), ea, eb] S Q := by
  obtain ⟨c1, c2⟩ := cat_len mo hm hl
  have hz : sizeLine = 16777216 := rfl
  have e1 : (("(" : String) : Str).length = 1 := by decide
  have e2 : ((")" : String) : Str).length = 1 := by decide
  unfold textE mJoin
  simp only [mBin, mC, mVar, lk]
  refine comp_ok (i := 9) (f := fun w => .str (wr w ++ " ")) rfl (by omega) (fun w hw S1 k q => ?_) fun m S1 x1 at1 => ?_
  · obtain ⟨a, b, c⟩ := lf_gx (hl w hw)
    have := wr_len a
    rw [cl_len] at this
    show mBin wAdd (mCB (conR (TxC 200)) (mCons (mVar 11) mNil)) (mC (.str " ")) [e0, _, _, _, _, _, _, _, _, _, _, some w] S1 k
    simp only [mBin, mCB, mCons, mNil, mVar, mC, lk]
    refine tx_call a (by omega) (by omega) fun S2 x2 => ⟨?_, q S2 x2⟩
    have : ((" " : String) : Str).length = 1 := by decide
    omega
  · refine ⟨mo.map fun w => wr w ++ " ", ?_, ?_, ?_⟩
    · show (match S1[m]? with | some (O.lst l) => some l | _ => none) = _
      rw [at1, List.map_map]
      rfl
    · show _ + _ * 0 ≤ _
      omega
    · rw [join_cat]
      refine ⟨by omega, ⟨by rw [Str.length_append]; omega, ⟨by rw [Str.length_append, Str.length_append]; omega, ?_⟩⟩⟩
      rw [← wr_next hg hm]
      exact k S1 x1
theorem chains_ok {e0 e2 e3 e4 e5 ea eb : Option W} {J : Nat} (chk : Store → Prop) (hc : ∀ S, chk S) (hJ : J ≤ 199) (k : ∀ l e8 e9 S' n', Ch J l → Dice S' p q cs n' → D.nx [e0, some (.ref p), e2, e3, e4, e5, some (.tup l), some (.str (wr (.tup l))), e8, e9, ea, eb] S') :
    ∀ (m j : Nat) (l : List W) (S : Store) (n : Nat) (e8 e9 : Option W), j + m = J → Ch j l → Dice S p q cs n → n + m ≤ 100300 → forL chk (mgName 8) chainB D ((List.range' j m).map fun (i : Nat) => W.int i) [e0, some (.ref p), e2, e3, e4, e5, some (.tup l), some (.str (wr (.tup l))), e8, e9, ea, eb] S
  | 0, j, l, S, n, e8, e9, hj, h, hd, hn => by
    obtain rfl : j = J := by omega
    exact ⟨hc S, k l _ _ S n h hd⟩
  | m + 1, j, l, S, n, e8, e9, hj, h, hd, hn => by
    rw [List.range'_succ, List.map_cons]
    refine ⟨hc S, ?_⟩
    simp only [mgName, List.set]
    unfold chainB
    refine sa (i := 9) ?_
    refine more_ok hd (by omega) (by omega) fun mo S1 m1 m2 h1 => ?_
    have h2 := h.next m1 m2
    have hw := wr_len h.g
    rw [cl_len] at hw
    have hcn := h.cn
    simp only [List.set]
    refine sa (i := 6) ?_
    simp only [mBin, mTup, mCons, mNil, mVar, lk]
    refine ⟨sz1, ⟨Nat.le_trans (show mo.length + 1 ≤ 2 by omega) (by decide), ?_⟩⟩
    simp only [List.set]
    refine asg_ok (i := 7) ?_
    refine text_ok m1 m2 h2.g (by omega) fun S2 x2 => ?_
    simp only [List.set]
    exact chains_ok chk hc hJ k m (j + 1) (mo ++ [.tup l]) S2 (n + 1) _ _ (by omega) h2 (Dice.ex h1 x2) (by omega)
end
end Ev80

set_option Elab.async false
set_option linter.all false
set_option maxRecDepth 100000
set_option maxHeartbeats 1000000
/-! The law: the wide tuple, the whole. -/
namespace Ev80
open PySem PySem.Spec PyProof.Rows L2 Ow Ev OwT EvT Ev05
open Ev82 (Vc len_at isN_ok nonB dW dWs wr cn cns cn_pos wrH wrT okG_dw okG_dat isFun emp catS Dice RollC roll_call)
def sevens (n : Nat) : List W := (List.replicate n [W.int 7]).flatten
theorem sevens_succ (n : Nat) : sevens (n + 1) = .int 7 :: sevens n := by
  unfold sevens
  rw [List.replicate_succ, List.flatten_cons]
  rfl
theorem sevens_ok : ∀ n, gxs (sevens n) ∧ dps (sevens n) = 0 ∧ cns (sevens n) = 2 * n ∧ (sevens n).length = n
  | 0 => ⟨trivial, rfl, rfl, rfl⟩
  | n + 1 => by
    obtain ⟨a, b, c, d⟩ := sevens_ok n
    rw [sevens_succ]
    refine ⟨⟨⟨by decide, by decide⟩, a⟩, ?_, ?_, ?_⟩
    · show max 0 (dps (sevens n)) = 0
      rw [b]
      rfl
    · show 1 + 1 + cns (sevens n) = 2 * (n + 1)
      omega
    · rw [List.length_cons, d]
theorem sevens_wr : ∀ n, cl (wrT (sevens n)) = (List.replicate n [32, 55]).flatten
  | 0 => rfl
  | n + 1 => by
    rw [sevens_succ, wr_cons, sevens_wr n, List.replicate_succ, List.flatten_cons]
    have : cl (wr (.int 7)) = [55] := by decide +kernel
    rw [this]
    rfl
theorem fold_app (a : Array Nat) : ∀ (n : Nat) (acc : Array Nat), ((List.replicate n a).foldl (· ++ ·) acc).toList = acc.toList ++ (List.replicate n a.toList).flatten
  | 0, acc => by simp
  | n + 1, acc => by
    rw [List.replicate_succ, List.foldl_cons, fold_app a n, List.replicate_succ, List.flatten_cons, Array.toList_append, List.append_assoc]
theorem str_eq {a b : Str} (h : cl a = cl b) : a = b := by
  rw [← str_cl a, ← str_cl b, h]
def wideL (n : Nat) : List W := .str "a" :: sevens n
theorem rep_cl (z : Str) (n : Nat) (hn : 1 ≤ n) : cl (strRep z (n : Int)) = (List.replicate n (cl z)).flatten := by
  unfold strRep
  rw [if_neg (by omega), Int.toNat_natCast]
  show ((List.replicate n z.cps).foldl (· ++ ·) #[]).toList = _
  rw [fold_app]
  rfl
theorem shape (X : List Nat) : 40 :: (([97] ++ X) ++ [41]) = ([40, 97] ++ X) ++ [41] := rfl
theorem wide_wr {n : Nat} (hn : 1 ≤ n) : wr (.tup (wideL n)) = "(a" ++ strRep " 7" (n : Int) ++ ")" := by
  have hg : gxs (wideL n) := ⟨wd_a, (sevens_ok n).1⟩
  apply str_eq
  rw [wr_tup (gxs_fun hg)]
  unfold wideL
  rw [wr_hd, sevens_wr, cl_app, cl_app, rep_cl _ _ hn]
  have e1 : cl (("(a" : String) : Str) = [40, 97] := by decide +kernel
  have e2 : cl ((")" : String) : Str) = [41] := by decide +kernel
  have e3 : cl (((" 7" : String) : Str)) = [32, 55] := by decide +kernel
  have e4 : cl (wr (.str "a")) = [97] := by decide +kernel
  rw [e1, e2, e3, e4]
  exact shape _
theorem wide_ok {n : Nat} (hn : n ≤ 4000) : gx (.tup (wideL n)) ∧ dp (.tup (wideL n)) ≤ 200 ∧ cn (.tup (wideL n)) ≤ 80000 := by
  obtain ⟨a, b, c, d⟩ := sevens_ok n
  refine ⟨⟨?_, wd_a, a⟩, ?_, ?_⟩
  · unfold wideL
    rw [List.length_cons, d]
    omega
  · show 1 + max 0 (dps (sevens n)) ≤ 200
    rw [b]
    decide
  · show 2 + (1 + 1 + cns (sevens n)) ≤ 80000
    rw [c]
    omega
def diceE : ME := (mLst (mCons (mCB wList (mCons (mSl (mVar 0) mNoP (mP (mC (.int 63)))) mNil)) (mCons (mC (.int 0)) (mCons (mC (.int 0)) (mCons (mC (.int 0)) mNil)))))
def pickE : ME := (mBin wSub (mCB (conR PickC) (mCons (mVar 1) (mCons (mLst (mCons (mVar 5) (mCons (mC (.int 200)) mNil))) mNil))) (mC (.int 1)))
def wideE (n : Int) : ME := (mBin wAdd (mTup (mCons (mC (.str "a")) mNil)) (mBin wRepB (mTup (mCons (mC (.int 7)) mNil)) (mC (.int n))))
def endE' (n : Int) : ME := (mAndV (mCB (conR RightC) (mCons (mVar 6) (mCons (mVar 7) mNil))) (mCB (conR RightC) (mCons (mVar 10) (mCons (mBin wAdd (mBin wAdd (mC (.str "(a")) (mBin wMul (mC (.str " 7")) (mC (.int n)))) (mC (.str ")"))) mNil))))
theorem law_eq : m_law (ThingC 3) RightC (TxC 200) TextC LeafC RollC PickC = (mSeq (mAsg diceE (mgName 1))
  (mSeq (mFor (mRg1 (mCons (mC (.int 4)) mNil)) (mgName 2) turnB)
  (mSeq (mAsg (mBin wAdd (mC (.int 1)) (mCB (conR RollC) (mCons (mVar 1) (mCons (mC (.int 200)) mNil)))) (mgName 5))
  (mSeq (mAsg (mTup (mCons (mTup mNil) (mCons (mC (.str "()")) mNil))) (mgTup 2 (mgCons (mgName 6) (mgCons (mgName 7) mgNil))))
  (mSeq (mFor (mRg1 (mCons pickE mNil)) (mgName 8) chainB)
  (mSeq (mAsg (wideE 2000) (mgName 10)) (mRet (endE' 2000)))))))) := rfl
section
variable {S : Store} {D : MD} {p q n : Nat} {cs : List Int}
theorem cut_ints (l : List Int) (h : l.length ≤ 63) : ∃ cs : List Int, cs.length ≤ 63 ∧ cutG (l.map W.int) none (some 63) = cs.map W.int := by
  unfold cutG
  refine ⟨(l.drop _).take _, ?_, by rw [List.map_take, List.map_drop]⟩
  rw [List.length_take, List.length_drop]
  omega
theorem lst_of {n : Nat} {l : List W} {S : Store} (h : seqW (.ref n) S = some l) : S[n]? = some (.lst l) := by
  unfold seqW at h
  dsimp only at h
  cases e : S[n]? with
  | none => rw [e] at h; cases h
  | some o =>
    rw [e] at h
    cases o with
    | lst m => cases h; rfl
    | _ => cases h
theorem of_lst {n : Nat} {l : List W} {S : Store} (h : S[n]? = some (.lst l)) : seqW (.ref n) S = some l := by
  unfold seqW
  dsimp only
  rw [h]
theorem sl_any {x : W} {l : List W} {S : Store} {R : WK} (h : seqW x S = some l) (q : ∀ y S', seqW y S' = some (cutG l none (some 63)) → R y S') : wSl x none (some 63) S R := by
  cases x with
  | tup m => cases h; exact q (.tup _) S rfl
  | cl m => cases h; exact q (.ref _) _ (of_lst (new_at S _))
  | ref m =>
    have h := lst_of h
    show oL S[m]? _
    rw [h]
    exact q (.ref _) _ (of_lst (new_at S _))
  | _ => cases h
theorem list_any {x : W} {l : List W} {S : Store} {R : WK} (h : seqW x S = some l) (q : R (.ref S.length) (S ++ [.lst l])) : wList [x] S R := by
  cases x with
  | tup m => cases h; exact q
  | cl m => cases h; exact q
  | ref m =>
    have h := lst_of h
    unfold wList
    dsimp only
    rw [h]
    exact q
  | _ => cases h
theorem dice_ok {x : W} {l : List Int} {e : EvS} {Q : WK} (he : lk e 0 = some x) (h : seqW x S = some (l.map W.int)) (hl : l.length ≤ 63) (k : ∀ p q cs S', Dice S' p q cs 0 → Q (.ref p) S') : diceE e S Q := by
  obtain ⟨cs, hc, ec⟩ := cut_ints l hl
  unfold diceE
  simp only [mLst, mCons, mNil, mCB, mSl, mVar, mNoP, mP, mC]
  rw [he]
  dsimp only
  refine sl_any h fun y S1 h1 => ?_
  rw [ec] at h1
  refine list_any h1 ⟨by show 4 ≤ sizeLine; decide, ?_⟩
  exact k _ S1.length cs _ ⟨by rw [List.length_append, List.length_singleton]; omega, hc, Ex.one.at (new_at S1 _), 0, 0, 0, new_at _ _, by omega, by omega⟩
theorem pick_ok {e0 e2 e3 e4 e6 e7 e8 e9 ea eb : Option W} {i : Int} {Q : WK} (h : Dice S p q cs n) (hn : n + 1 < 1000000) (h0 : 1 ≤ i) (h1 : i ≤ 200) (k : ∀ (j : Nat) S', j ≤ 199 → Dice S' p q cs (n + 1) → Q (.int (j : Int)) S') :
    pickE [e0, some (.ref p), e2, e3, e4, some (.int i), e6, e7, e8, e9, ea, eb] S Q := by
  unfold pickE
  simp only [mBin, mLst, mCB, mCons, mNil, mVar, mC, lk]
  refine ⟨sz2, ?_⟩
  have x : Ex S (S ++ [O.lst [W.int i, .int 200]]) := Ex.one
  have pl := Dice.pl h
  refine ⟨(p, q, cs, n, S.length, [.int i, .int 200]), ⟨rfl, new_at S _, by omega, by show 0 < 2; decide, by show 2 < 100; decide, Dice.ex h x, hn⟩, fun w S1 ⟨hw, f, h2⟩ => ?_⟩
  have : ∃ j : Nat, w = .int ((j : Int) + 1) ∧ j ≤ 199 := by
    rcases List.mem_cons.mp hw with rfl | hw
    · exact ⟨(i - 1).toNat, by congr 1; omega, by omega⟩
    · rw [List.mem_singleton.mp hw]
      exact ⟨199, rfl, by omega⟩
  obtain ⟨j, rfl, hj⟩ := this
  refine ⟨trivial, ?_⟩
  have e : (fun i j : Int => i - j) ((j : Int) + 1) 1 = j := by
    show (j : Int) + 1 - 1 = j
    omega
  rw [e]
  exact k j S1 hj h2
theorem addI {i j : Int} {Q : WK} (q : Q (.int (i + j)) S) : wAdd (.int i) (.int j) S Q := q
theorem wide_end {e0 e2 e3 e4 e5 e8 e9 ea eb : Option W} {j m : Nat} {l : List W} (hm : 2 ≤ m) (hm2 : m ≤ 4000) (hj : j ≤ 199) (h5 : Ch j l) (k : ∀ S', D.rt (.bl true) S') :
    mSeq (mAsg (wideE (m : Int)) (mgName 10)) (mRet (endE' (m : Int))) D [e0, some (.ref p), e2, e3, e4, e5, some (.tup l), some (.str (wr (.tup l))), e8, e9, ea, eb] S := by
  refine sa (i := 10) ?_
  unfold wideE
  simp only [mBin, mTup, mCons, mNil, mC]
  refine ⟨sz1, sz1, ⟨⟨by simp, by show 1 ≤ 1000; decide, by omega, by omega⟩, ?_⟩⟩
  obtain ⟨w1, w2, w3⟩ := wide_ok hm2
  have hsv := (sevens_ok m).2.2.2
  have el : [W.str "a"] ++ (List.replicate (m : Int).toNat [W.int 7]).flatten = wideL m := by
    rw [Int.toNat_natCast]
    rfl
  have hz : sizeLine = 16777216 := rfl
  refine ⟨?_, ?_⟩
  · rw [Int.toNat_natCast]
    show 1 + (sevens m).length ≤ sizeLine
    omega
  rw [el]
  simp only [List.set]
  refine ret_ok ?_
  unfold endE'
  simp only [mAndV, mBin, mCB, mCons, mNil, mVar, mC, lk]
  have hd := h5.dp
  have hc := h5.cn
  refine right_call rfl h5.g (by omega) (by omega) fun S6 k6 => ?_
  refine ifB (fun _ => ?_) fun e => by cases e
  have hsl : (strRep " 7" (m : Int)).length = m * 2 := by
    rw [strRep_len, Int.toNat_natCast]
    have : ((" 7" : String) : Str).length = 2 := by decide
    rw [this]
  have e1 : (("(a" : String) : Str).length = 2 := by decide
  have e2 : ((")" : String) : Str).length = 1 := by decide
  refine ⟨⟨by omega, by omega, by decide⟩, ⟨by omega, ⟨by rw [Str.length_append]; omega, ?_⟩⟩⟩
  exact right_call (wide_wr (by omega)).symm w1 w2 w3 fun S7 k7 => k S7
theorem vc_law {x : W} {l : List Int} (h : seqW x S = some (l.map W.int)) (hl : l.length ≤ 63) (k : ∀ S', D.rt (.bl true) S') : m_law (ThingC 3) RightC (TxC 200) TextC LeafC RollC PickC D [some x, none, none, none, none, none, none, none, none, none, none, none] S := by
  rw [law_eq]
  refine sa (dice_ok rfl h hl fun p q cs S1 h1 => ?_)
  refine seq_ok ⟨⟨by decide, by decide⟩, ?_⟩
  refine turns_ok (fun _ => True) (fun _ => trivial) (fun e2 e3 e4 S2 n2 hn h2 => ?_) _ S1 0 _ _ _ h1 (by decide +kernel)
  dsimp only
  refine sa (i := 5) ?_
  simp only [mBin, mCB, mCons, mNil, mVar, mC, lk]
  refine roll_call h2 (by omega) (by decide) (by decide +kernel) fun r S3 r0 r1 f3 h3 => ?_
  refine addI ?_
  simp only [List.set]
  refine seq_ok ?_
  simp only [mAsg, mTup, mCons, mNil, mC]
  refine ⟨sz0, sz2, rfl, ?_⟩
  simp only [mgCons, mgNil, mgName, List.set]
  refine ⟨trivial, ?_⟩
  refine seq_ok ?_
  unfold mFor mRg1
  simp only [mCons, mNil]
  refine pick_ok h3 (by omega) (by omega) (by omega) fun j S4 hj h4 => ?_
  refine ⟨⟨by omega, by omega⟩, ?_⟩
  have e9 : rgW 0 (j : Int).toNat = (List.range' 0 j).map fun (i : Nat) => W.int i := by
    unfold rgW
    rw [List.range_eq_range']
    refine List.map_congr_left fun j _ => ?_
    show W.int _ = W.int _
    congr 1
    omega
  rw [e9]
  have ew : wr (.tup []) = "()" := by decide +kernel
  rw [← ew]
  refine chains_ok (e0 := some x) (J := j) (fun _ => True) (fun _ => trivial) hj (fun l e8 e9 S5 n5 h5 d5 => ?_) j 0 [] S4 (n2 + 1 + 1) none none (by omega) Ch.nil h4 (by omega)
  dsimp only
  exact wide_end (m := 2000) (j := j) (by decide) (by decide) hj h5 k
theorem vd_law : Vc 12 (m_law (ThingC 3) RightC (TxC 200) TextC LeafC RollC PickC) LawC := fun (x, l) ws S ⟨e, h, hl, _⟩ => by
  subst e
  exact vc_law h hl fun S' => rfl
end
end Ev80

set_option Elab.async false
set_option linter.all false
set_option maxRecDepth 100000
set_option maxHeartbeats 1000000
namespace D80
open PySem PySem.Spec PyProof.Rows L2 Ow Ev Ev80
def topS (i : Nat) : Stmt := PySem.Challenge.pw_owedonce_k80_tuples_written_and_read.main.body.getD i (.Pass ⟨0, 0, 0, 0⟩)
abbrev s_x_word_of_thing : Stmt := topS 8
abbrev N_x_word_of_thing : List Str := ["thing"]
theorem sc_x_word_of_thing : FnScope N_x_word_of_thing ["thing"] (defScope s_x_word_of_thing) := ⟨rfl, rfl, rfl, by decide +kernel, rfl, by decide +kernel, by decide +kernel⟩
abbrev s_x_written_by : Stmt := topS 9
abbrev N_x_written_by : List Str := ["word_of", "thing", "signs", "todo", "is_sign", "part", "word", "at"]
theorem sc_x_written_by : FnScope N_x_written_by ["word_of", "thing"] (defScope s_x_written_by) := ⟨rfl, rfl, rfl, by decide +kernel, rfl, by decide +kernel, by decide +kernel⟩
abbrev s_written : Stmt := topS 10
abbrev N_written : List Str := ["thing"]
theorem sc_written : FnScope N_written ["thing"] (defScope s_written) := ⟨rfl, rfl, rfl, by decide +kernel, rfl, by decide +kernel, by decide +kernel⟩
abbrev s_x_sign_at : Stmt := topS 11
abbrev N_x_sign_at : List Str := ["text", "at"]
theorem sc_x_sign_at : FnScope N_x_sign_at ["text", "at"] (defScope s_x_sign_at) := ⟨rfl, rfl, rfl, by decide +kernel, rfl, by decide +kernel, by decide +kernel⟩
abbrev s_x_is_letter : Stmt := topS 12
abbrev N_x_is_letter : List Str := ["sign"]
theorem sc_x_is_letter : FnScope N_x_is_letter ["sign"] (defScope s_x_is_letter) := ⟨rfl, rfl, rfl, by decide +kernel, rfl, by decide +kernel, by decide +kernel⟩
abbrev s_x_is_figure : Stmt := topS 13
abbrev N_x_is_figure : List Str := ["sign"]
theorem sc_x_is_figure : FnScope N_x_is_figure ["sign"] (defScope s_x_is_figure) := ⟨rfl, rfl, rfl, by decide +kernel, rfl, by decide +kernel, by decide +kernel⟩
abbrev s_x_read_word : Stmt := topS 14
abbrev N_x_read_word : List Str := ["text", "at", "end"]
theorem sc_x_read_word : FnScope N_x_read_word ["text", "at"] (defScope s_x_read_word) := ⟨rfl, rfl, rfl, by decide +kernel, rfl, by decide +kernel, by decide +kernel⟩
abbrev s_x_read_number : Stmt := topS 15
abbrev N_x_read_number : List Str := ["text", "at", "end", "times", "number", "begins", "more"]
theorem sc_x_read_number : FnScope N_x_read_number ["text", "at"] (defScope s_x_read_number) := ⟨rfl, rfl, rfl, by decide +kernel, rfl, by decide +kernel, by decide +kernel⟩
abbrev s_x_read_part : Stmt := topS 16
abbrev N_x_read_part : List Str := ["text", "at"]
theorem sc_x_read_part : FnScope N_x_read_part ["text", "at"] (defScope s_x_read_part) := ⟨rfl, rfl, rfl, by decide +kernel, rfl, by decide +kernel, by decide +kernel⟩
abbrev s_x_close : Stmt := topS 17
abbrev N_x_close : List Str := ["text", "at", "opened", "part"]
theorem sc_x_close : FnScope N_x_close ["text", "at", "opened"] (defScope s_x_close) := ⟨rfl, rfl, rfl, by decide +kernel, rfl, by decide +kernel, by decide +kernel⟩
abbrev s_read : Stmt := topS 18
abbrev N_read : List Str := ["text", "opened", "whole", "at", "part"]
theorem sc_read : FnScope N_read ["text"] (defScope s_read) := ⟨rfl, rfl, rfl, by decide +kernel, rfl, by decide +kernel, by decide +kernel⟩
abbrev s_x_law_roll : Stmt := topS 20
abbrev N_x_law_roll : List Str := ["dice", "size", "spot", "cell", "seed", "rest"]
theorem sc_x_law_roll : FnScope N_x_law_roll ["dice", "size"] (defScope s_x_law_roll) := ⟨rfl, rfl, rfl, by decide +kernel, rfl, by decide +kernel, by decide +kernel⟩
abbrev s_x_law_pick : Stmt := topS 21
abbrev N_x_law_pick : List Str := ["dice", "some"]
theorem sc_x_law_pick : FnScope N_x_law_pick ["dice", "some"] (defScope s_x_law_pick) := ⟨rfl, rfl, rfl, by decide +kernel, rfl, by decide +kernel, by decide +kernel⟩
abbrev s_x_law_word : Stmt := topS 22
abbrev N_x_law_word : List Str := ["dice"]
theorem sc_x_law_word : FnScope N_x_law_word ["dice"] (defScope s_x_law_word) := ⟨rfl, rfl, rfl, by decide +kernel, rfl, by decide +kernel, by decide +kernel⟩
abbrev s_x_law_leaf : Stmt := topS 23
abbrev N_x_law_leaf : List Str := ["dice", "way", "some"]
theorem sc_x_law_leaf : FnScope N_x_law_leaf ["dice"] (defScope s_x_law_leaf) := ⟨rfl, rfl, rfl, by decide +kernel, rfl, by decide +kernel, by decide +kernel⟩
abbrev s_x_law_thing : Stmt := topS 24
abbrev N_x_law_thing : List Str := ["dice", "deep", "found", "k"]
theorem sc_x_law_thing : FnScope N_x_law_thing ["dice", "deep"] (defScope s_x_law_thing) := ⟨rfl, rfl, rfl, by decide +kernel, rfl, by decide +kernel, by decide +kernel⟩
abbrev s_x_law_text : Stmt := topS 25
abbrev N_x_law_text : List Str := ["thing", "part"]
theorem sc_x_law_text : FnScope N_x_law_text ["thing"] (defScope s_x_law_text) := ⟨rfl, rfl, rfl, by decide +kernel, rfl, by decide +kernel, by decide +kernel⟩
abbrev s_x_law_kinds : Stmt := topS 26
abbrev N_x_law_kinds : List Str := ["thing", "part"]
theorem sc_x_law_kinds : FnScope N_x_law_kinds ["thing"] (defScope s_x_law_kinds) := ⟨rfl, rfl, rfl, by decide +kernel, rfl, by decide +kernel, by decide +kernel⟩
abbrev s_x_law_right : Stmt := topS 27
abbrev N_x_law_right : List Str := ["thing", "text", "found"]
theorem sc_x_law_right : FnScope N_x_law_right ["thing", "text"] (defScope s_x_law_right) := ⟨rfl, rfl, rfl, by decide +kernel, rfl, by decide +kernel, by decide +kernel⟩
abbrev s_law : Stmt := topS 28
abbrev N_law : List Str := ["script", "dice", "turn", "thing", "leaf", "deep", "chain", "text", "k", "more", "wide", "one"]
theorem sc_law : FnScope N_law ["script"] (defScope s_law) := ⟨rfl, rfl, rfl, by decide +kernel, rfl, by decide +kernel, by decide +kernel⟩
section
variable {P : Program} {w : World} {K : PySem.W.Frag} {mg : Str → Option Value} {base : Heap} {Tb : List Addr}
theorem es_x_word_of_thing {k : Nat} {f : Addr}  (Z : NoG mg) (cdv : Value) (A : Around) (outer : List Env) (s : Shared) (H : Hp) (E : XK) (hr : Room k (A.deeper (envOfC "_word_of_thing" (defScope s_x_word_of_thing) s.heap.objs.size f cdv))) :
    ESs (cxOf CX0 P w K mg base N_x_word_of_thing "_word_of_thing" (defScope s_x_word_of_thing) f cdv A outer s H E).nox Tb (defBody s_x_word_of_thing) (m_x_word_of_thing ) := by
  have hN := sc_x_word_of_thing.nd
  exact (ss_cons (s_if (t_truth (e_isi (by rfl) (Z _ (by decide)) (a_cons (e_var (i := 0)) (a_cons (e_ty (by rfl) (Z _ (by decide))) a_nil)))) (ss_one (s_ret e_non)) ss_nil)
      (ss_one (s_ret (e_if (t_truth (e_isi (by rfl) (Z _ (by decide)) (a_cons (e_var (i := 0)) (a_cons (e_ty (by rfl) (Z _ (by decide))) a_nil)))) (e_var (i := 0)) (e_strC (by rfl) (Z _ (by decide)) (a_cons (e_var (i := 0)) a_nil))))))
theorem es_x_written_by {k : Nat} {f : Addr}  {CA : Addr → Option Con} (Z : NoG mg) (HC : ∀ f C, CA f = some C → Held P w K mg base k f (spOf K Tb C)) (cdv : Value) (A : Around) (outer : List Env) (s : Shared) (H : Hp) (E : XK) (hr : Room k (A.deeper (envOfC "_written_by" (defScope s_x_written_by) s.heap.objs.size f cdv))) :
    ESs (cxOf CX0 P w K mg base N_x_written_by "_written_by" (defScope s_x_written_by) f cdv A outer s H E).nox Tb (defBody s_x_written_by) (m_x_written_by CA) := by
  have hN := sc_x_written_by.nd
  exact (ss_cons (s_set (i := 2) hN (e_lst a_nil))
      (ss_cons (s_set (i := 3) hN (e_lst (a_cons (e_tup (a_cons e_bl (a_cons (e_var (i := 1)) a_nil))) a_nil)))
      (ss_cons (s_while (t_truth (e_var (i := 3))) (ss_cons (s_asg (e_pop (e_var (i := 3))) (g_tup rfl (gs_cons (g_name (i := 4) hN) (gs_cons (g_name (i := 5) hN) gs_nil))))
      (ss_cons (s_set (i := 6) hN (e_if (t_truth (e_var (i := 4))) (e_var (i := 5)) (e_callL (i := 0) HC hr (a_cons (e_var (i := 5)) a_nil))))
      (ss_cons (s_if (t_isnot (e_var (i := 6)) e_non) (ss_cons (s_expr (e_append (e_var (i := 2)) (a_cons (e_var (i := 6)) a_nil)))
      (ss_one s_cont)) ss_nil)
      (ss_cons (s_expr (e_append (e_var (i := 2)) (a_cons e_str a_nil)))
      (ss_cons (s_expr (e_append (e_var (i := 3)) (a_cons (e_tup (a_cons e_bl (a_cons e_str a_nil))) a_nil)))
      (ss_one (s_for (i_revR (by rfl) (Z _ (by decide)) (by rfl) (Z _ (by decide)) (e_len (by rfl) (Z _ (by decide)) (a_cons (e_var (i := 5)) a_nil))) (g_name (i := 7) hN) (ss_cons (s_expr (e_append (e_var (i := 3)) (a_cons (e_tup (a_cons e_bl (a_cons (e_ix (hu_of hr) (e_var (i := 5)) (e_var (i := 7))) a_nil))) a_nil)))
      (ss_one (s_if (t_gt (e_var (i := 7)) e_int) (ss_one (s_expr (e_append (e_var (i := 3)) (a_cons (e_tup (a_cons e_bl (a_cons e_str a_nil))) a_nil)))) ss_nil)))))))))))
      (ss_one (s_ret (e_join e_str (e_var (i := 2))))))))
theorem es_written {k : Nat} {f : Addr} {C_x_written_by : Con} {a_x_word_of_thing : Addr} (Z : NoG mg) (D_x_written_by : Dn P w K mg base Tb "_written_by" ["word_of", "thing"] k C_x_written_by) (V_x_word_of_thing : mg "_word_of_thing" = some (.ref a_x_word_of_thing)) (cdv : Value) (A : Around) (outer : List Env) (s : Shared) (H : Hp) (E : XK) (hr : Room k (A.deeper (envOfC "written" (defScope s_written) s.heap.objs.size f cdv))) :
    ESs (cxOf CX0 P w K mg base N_written "written" (defScope s_written) f cdv A outer s H E).nox Tb (defBody s_written) (m_written C_x_written_by a_x_word_of_thing) := by
  have hN := sc_written.nd
  exact (ss_one (s_ret (e_call D_x_written_by hr (by rfl) (a_cons (e_gdef (by rfl) V_x_word_of_thing) (a_cons (e_var (i := 0)) a_nil)))))
theorem es_x_sign_at {k : Nat} {f : Addr}  (Z : NoG mg) (cdv : Value) (A : Around) (outer : List Env) (s : Shared) (H : Hp) (E : XK) (hr : Room k (A.deeper (envOfC "_sign_at" (defScope s_x_sign_at) s.heap.objs.size f cdv))) :
    ESs (cxOf CX0 P w K mg base N_x_sign_at "_sign_at" (defScope s_x_sign_at) f cdv A outer s H E).nox Tb (defBody s_x_sign_at) (m_x_sign_at ) := by
  have hN := sc_x_sign_at.nd
  exact (ss_one (s_ret (e_slice (e_var (i := 0)) (o_some (e_var (i := 1))) (o_some (e_add (e_var (i := 1)) e_int)))))
theorem es_x_is_letter {k : Nat} {f : Addr}  (Z : NoG mg) (cdv : Value) (A : Around) (outer : List Env) (s : Shared) (H : Hp) (E : XK) (hr : Room k (A.deeper (envOfC "_is_letter" (defScope s_x_is_letter) s.heap.objs.size f cdv))) :
    ESs (cxOf CX0 P w K mg base N_x_is_letter "_is_letter" (defScope s_x_is_letter) f cdv A outer s H E).nox Tb (defBody s_x_is_letter) (m_x_is_letter ) := by
  have hN := sc_x_is_letter.nd
  exact (ss_one (s_ret (e_chain op_leW op_leW rl_cmpI rl_cmpI mo_cmpI mo_cmpI e_str (e_var (i := 0)) e_str)))
theorem es_x_is_figure {k : Nat} {f : Addr}  (Z : NoG mg) (cdv : Value) (A : Around) (outer : List Env) (s : Shared) (H : Hp) (E : XK) (hr : Room k (A.deeper (envOfC "_is_figure" (defScope s_x_is_figure) s.heap.objs.size f cdv))) :
    ESs (cxOf CX0 P w K mg base N_x_is_figure "_is_figure" (defScope s_x_is_figure) f cdv A outer s H E).nox Tb (defBody s_x_is_figure) (m_x_is_figure ) := by
  have hN := sc_x_is_figure.nd
  exact (ss_one (s_ret (e_chain op_leW op_leW rl_cmpI rl_cmpI mo_cmpI mo_cmpI e_str (e_var (i := 0)) e_str)))
theorem es_x_read_word {k : Nat} {f : Addr} {C_x_is_letter : Con} {C_x_sign_at : Con} (Z : NoG mg) (D_x_is_letter : Dn P w K mg base Tb "_is_letter" ["sign"] k C_x_is_letter) (D_x_sign_at : Dn P w K mg base Tb "_sign_at" ["text", "at"] k C_x_sign_at) (G_MOST_LETTERS : ∃ t, mg "MOST_LETTERS" = some (.int (8) t)) (cdv : Value) (A : Around) (outer : List Env) (s : Shared) (H : Hp) (E : XK) (hr : Room k (A.deeper (envOfC "_read_word" (defScope s_x_read_word) s.heap.objs.size f cdv))) :
    ESs (cxOf CX0 P w K mg base N_x_read_word "_read_word" (defScope s_x_read_word) f cdv A outer s H E).nox Tb (defBody s_x_read_word) (m_x_read_word C_x_is_letter C_x_sign_at) := by
  have hN := sc_x_read_word.nd
  exact (ss_cons (s_set (i := 2) hN (e_var (i := 1)))
      (ss_cons (s_while (w_t (w_and (t_truth (e_call D_x_is_letter hr (by rfl) (a_cons (e_call D_x_sign_at hr (by rfl) (a_cons (e_var (i := 0)) (a_cons (e_var (i := 2)) a_nil))) a_nil))) (w_and1 (t_lt (e_sub (e_var (i := 2)) (e_var (i := 1))) (e_gint (by rfl) G_MOST_LETTERS))))) (ss_one (s_addI (i := 2) hN e_int)))
      (ss_one (s_ret (e_tup (a_cons (e_slice (e_var (i := 0)) (o_some (e_var (i := 1))) (o_some (e_var (i := 2)))) (a_cons (e_var (i := 2)) a_nil)))))))
theorem es_x_read_number {k : Nat} {f : Addr} {C_x_sign_at : Con} {C_x_is_figure : Con} (Z : NoG mg) (D_x_sign_at : Dn P w K mg base Tb "_sign_at" ["text", "at"] k C_x_sign_at) (D_x_is_figure : Dn P w K mg base Tb "_is_figure" ["sign"] k C_x_is_figure) (G_LEAST_NUMBER : ∃ t, mg "LEAST_NUMBER" = some (.int (-1000000000000000000) t)) (G_MOST_NUMBER : ∃ t, mg "MOST_NUMBER" = some (.int (1000000000000000000) t)) (cdv : Value) (A : Around) (outer : List Env) (s : Shared) (H : Hp) (E : XK) (hr : Room k (A.deeper (envOfC "_read_number" (defScope s_x_read_number) s.heap.objs.size f cdv))) :
    ESs (cxOf CX0 P w K mg base N_x_read_number "_read_number" (defScope s_x_read_number) f cdv A outer s H E).nox Tb (defBody s_x_read_number) (m_x_read_number C_x_sign_at C_x_is_figure) := by
  have hN := sc_x_read_number.nd
  exact (ss_cons (s_set (i := 2) hN (e_var (i := 1)))
      (ss_cons (s_set (i := 3) hN e_int)
      (ss_cons (s_if (t_eq hr.units (e_call D_x_sign_at hr (by rfl) (a_cons (e_var (i := 0)) (a_cons (e_var (i := 1)) a_nil))) e_str) (ss_cons (s_addI (i := 2) hN e_int)
      (ss_cons (s_set (i := 3) hN (e_neg e_int))
      (ss_one (s_if (t_eq hr.units (e_call D_x_sign_at hr (by rfl) (a_cons (e_var (i := 0)) (a_cons (e_var (i := 2)) a_nil))) e_str) (ss_one s_never) ss_nil)))) ss_nil)
      (ss_cons (s_if (t_not (t_truth (e_call D_x_is_figure hr (by rfl) (a_cons (e_call D_x_sign_at hr (by rfl) (a_cons (e_var (i := 0)) (a_cons (e_var (i := 2)) a_nil))) a_nil)))) (ss_one s_never) ss_nil)
      (ss_cons (s_set (i := 4) hN e_int)
      (ss_cons (s_set (i := 5) hN (e_var (i := 2)))
      (ss_cons (s_while (w_t (w_and (t_truth (e_call D_x_is_figure hr (by rfl) (a_cons (e_call D_x_sign_at hr (by rfl) (a_cons (e_var (i := 0)) (a_cons (e_var (i := 2)) a_nil))) a_nil))) (w_and1 (w_t (w_or (t_ne hr.units (e_var (i := 4)) e_int) (w_or1 (t_eq hr.units (e_var (i := 2)) (e_var (i := 5))))))))) (ss_cons (s_set (i := 6) hN (e_add (e_mul (e_var (i := 4)) e_int) (e_mul (e_var (i := 3)) (e_intS (by rfl) (Z _ (by decide)) (a_cons (e_call D_x_sign_at hr (by rfl) (a_cons (e_var (i := 0)) (a_cons (e_var (i := 2)) a_nil))) a_nil)))))
      (ss_cons (s_if (t_not (t_chain op_leW op_leW rl_cmpI rl_cmpI mo_cmpI mo_cmpI (e_gint (by rfl) G_LEAST_NUMBER) (e_var (i := 6)) (e_gint (by rfl) G_MOST_NUMBER))) (ss_one s_break) ss_nil)
      (ss_cons (s_set (i := 4) hN (e_var (i := 6)))
      (ss_one (s_addI (i := 2) hN e_int))))))
      (ss_one (s_ret (e_tup (a_cons (e_var (i := 4)) (a_cons (e_var (i := 2)) a_nil))))))))))))
theorem es_x_read_part {k : Nat} {f : Addr} {C_x_is_letter : Con} {C_x_sign_at : Con} {C_x_read_word : Con} {C_x_read_number : Con} (Z : NoG mg) (D_x_is_letter : Dn P w K mg base Tb "_is_letter" ["sign"] k C_x_is_letter) (D_x_sign_at : Dn P w K mg base Tb "_sign_at" ["text", "at"] k C_x_sign_at) (D_x_read_word : Dn P w K mg base Tb "_read_word" ["text", "at"] k C_x_read_word) (D_x_read_number : Dn P w K mg base Tb "_read_number" ["text", "at"] k C_x_read_number) (cdv : Value) (A : Around) (outer : List Env) (s : Shared) (H : Hp) (E : XK) (hr : Room k (A.deeper (envOfC "_read_part" (defScope s_x_read_part) s.heap.objs.size f cdv))) :
    ESs (cxOf CX0 P w K mg base N_x_read_part "_read_part" (defScope s_x_read_part) f cdv A outer s H E).nox Tb (defBody s_x_read_part) (m_x_read_part C_x_is_letter C_x_sign_at C_x_read_word C_x_read_number) := by
  have hN := sc_x_read_part.nd
  exact (ss_cons (s_if (t_truth (e_call D_x_is_letter hr (by rfl) (a_cons (e_call D_x_sign_at hr (by rfl) (a_cons (e_var (i := 0)) (a_cons (e_var (i := 1)) a_nil))) a_nil))) (ss_one (s_ret (e_call D_x_read_word hr (by rfl) (a_cons (e_var (i := 0)) (a_cons (e_var (i := 1)) a_nil))))) ss_nil)
      (ss_one (s_ret (e_call D_x_read_number hr (by rfl) (a_cons (e_var (i := 0)) (a_cons (e_var (i := 1)) a_nil))))))
theorem es_x_close {k : Nat} {f : Addr} {C_x_sign_at : Con} (Z : NoG mg) (D_x_sign_at : Dn P w K mg base Tb "_sign_at" ["text", "at"] k C_x_sign_at) (cdv : Value) (A : Around) (outer : List Env) (s : Shared) (H : Hp) (E : XK) (hr : Room k (A.deeper (envOfC "_close" (defScope s_x_close) s.heap.objs.size f cdv))) :
    ESs (cxOf CX0 P w K mg base N_x_close "_close" (defScope s_x_close) f cdv A outer s H E).nox Tb (defBody s_x_close) (m_x_close C_x_sign_at) := by
  have hN := sc_x_close.nd
  exact (ss_cons (s_while (t_eq hr.units (e_call D_x_sign_at hr (by rfl) (a_cons (e_var (i := 0)) (a_cons (e_var (i := 1)) a_nil))) e_str) (ss_cons (s_addI (i := 1) hN e_int)
      (ss_cons (s_set (i := 3) hN (e_tuple (by rfl) (Z _ (by decide)) (a_cons (e_pop (e_var (i := 2))) a_nil)))
      (ss_cons (s_if (t_not (t_truth (e_var (i := 2)))) (ss_one (s_ret (e_tup (a_cons (e_var (i := 3)) (a_cons (e_var (i := 1)) a_nil))))) ss_nil)
      (ss_one (s_expr (e_append (e_ix (hu_of hr) (e_var (i := 2)) (e_neg e_int)) (a_cons (e_var (i := 3)) a_nil))))))))
      (ss_one (s_ret (e_tup (a_cons e_non (a_cons (e_var (i := 1)) a_nil))))))
theorem es_read {k : Nat} {f : Addr} {C_x_sign_at : Con} {C_x_read_part : Con} {C_x_close : Con} (Z : NoG mg) (D_x_sign_at : Dn P w K mg base Tb "_sign_at" ["text", "at"] k C_x_sign_at) (D_x_read_part : Dn P w K mg base Tb "_read_part" ["text", "at"] k C_x_read_part) (D_x_close : Dn P w K mg base Tb "_close" ["text", "at", "opened"] k C_x_close) (G_MOST_OPEN : ∃ t, mg "MOST_OPEN" = some (.int (200) t)) (cdv : Value) (A : Around) (outer : List Env) (s : Shared) (H : Hp) (E : XK) (hr : Room k (A.deeper (envOfC "read" (defScope s_read) s.heap.objs.size f cdv))) :
    ESs (cxOf CX0 P w K mg base N_read "read" (defScope s_read) f cdv A outer s H E).nox Tb (defBody s_read) (m_read C_x_sign_at C_x_read_part C_x_close) := by
  have hN := sc_read.nd
  exact (ss_cons (s_set (i := 1) hN (e_lst a_nil))
      (ss_cons (s_set (i := 2) hN e_non)
      (ss_cons (s_set (i := 3) hN e_int)
      (ss_cons (s_while (t_is (e_var (i := 2)) e_non) (ss_cons (s_if (w_t (w_and (t_eq hr.units (e_call D_x_sign_at hr (by rfl) (a_cons (e_var (i := 0)) (a_cons (e_var (i := 3)) a_nil))) e_str) (w_and1 (t_lt (e_len (by rfl) (Z _ (by decide)) (a_cons (e_var (i := 1)) a_nil)) (e_gint (by rfl) G_MOST_OPEN))))) (ss_cons (s_expr (e_append (e_var (i := 1)) (a_cons (e_lst a_nil) a_nil)))
      (ss_cons (s_addI (i := 3) hN e_int)
      (ss_one (s_if (t_ne hr.units (e_call D_x_sign_at hr (by rfl) (a_cons (e_var (i := 0)) (a_cons (e_var (i := 3)) a_nil))) e_str) (ss_one s_cont) ss_nil)))) (ss_one (s_if (t_truth (e_var (i := 1))) (ss_cons (s_asg (e_call D_x_read_part hr (by rfl) (a_cons (e_var (i := 0)) (a_cons (e_var (i := 3)) a_nil))) (g_tup rfl (gs_cons (g_name (i := 4) hN) (gs_cons (g_name (i := 3) hN) gs_nil))))
      (ss_one (s_expr (e_append (e_ix (hu_of hr) (e_var (i := 1)) (e_neg e_int)) (a_cons (e_var (i := 4)) a_nil))))) (ss_one s_never))))
      (ss_cons (s_asg (e_call D_x_close hr (by rfl) (a_cons (e_var (i := 0)) (a_cons (e_var (i := 3)) (a_cons (e_var (i := 1)) a_nil)))) (g_tup rfl (gs_cons (g_name (i := 2) hN) (gs_cons (g_name (i := 3) hN) gs_nil))))
      (ss_one (s_if (t_is (e_var (i := 2)) e_non) (ss_cons (s_if (t_ne hr.units (e_call D_x_sign_at hr (by rfl) (a_cons (e_var (i := 0)) (a_cons (e_var (i := 3)) a_nil))) e_str) (ss_one s_never) ss_nil)
      (ss_one (s_addI (i := 3) hN e_int))) ss_nil)))))
      (ss_cons (s_if (t_lt (e_var (i := 3)) (e_len (by rfl) (Z _ (by decide)) (a_cons (e_var (i := 0)) a_nil))) (ss_one s_never) ss_nil)
      (ss_one (s_ret (e_var (i := 2)))))))))
theorem es_x_law_roll {k : Nat} {f : Addr}  (Z : NoG mg) (cdv : Value) (A : Around) (outer : List Env) (s : Shared) (H : Hp) (E : XK) (hr : Room k (A.deeper (envOfC "_law_roll" (defScope s_x_law_roll) s.heap.objs.size f cdv))) :
    ESs (cxOf CX0 P w K mg base N_x_law_roll "_law_roll" (defScope s_x_law_roll) f cdv A outer s H E).nox Tb (defBody s_x_law_roll) (m_x_law_roll ) := by
  have hN := sc_x_law_roll.nd
  exact (ss_cons (s_if (t_eq hr.units (e_ix (hu_of hr) (e_var (i := 0)) e_int) e_int) (ss_cons (s_set (i := 2) hN (e_ix (hu_of hr) (e_var (i := 0)) e_int))
      (ss_cons (s_asg (e_add (e_var (i := 2)) e_int) (g_sub (hu_of hr) (e_var (i := 0)) e_int))
      (ss_cons (s_set (i := 3) hN e_int)
      (ss_cons (s_if (t_ne hr.units (e_ix (hu_of hr) (e_var (i := 0)) e_int) (e_lst a_nil)) (ss_one (s_set (i := 3) hN (e_ix (hu_of hr) (e_ix (hu_of hr) (e_var (i := 0)) e_int) (e_mod (e_var (i := 2)) (e_len (by rfl) (Z _ (by decide)) (a_cons (e_ix (hu_of hr) (e_var (i := 0)) e_int) a_nil)))))) ss_nil)
      (ss_cons (s_if (w_t (w_or (t_ge (e_var (i := 2)) (e_len (by rfl) (Z _ (by decide)) (a_cons (e_ix (hu_of hr) (e_var (i := 0)) e_int) a_nil))) (w_or1 (t_lt (e_var (i := 3)) (e_pow e_int e_int))))) (ss_cons (s_set (i := 4) hN (e_mod (e_mul (e_add (e_mod (e_var (i := 3)) e_int) e_int) (e_add (e_add (e_mul (e_var (i := 2)) (e_var (i := 2))) (e_mul e_int (e_var (i := 2)))) e_int)) e_int))
      (ss_cons (s_set (i := 4) hN (e_mod (e_pow (e_var (i := 4)) e_int) e_int))
      (ss_one (s_ret (e_mod (e_fdivX (e_mod (e_add (e_var (i := 4)) (e_mul e_int (e_var (i := 2)))) e_int) e_int) (e_var (i := 1))))))) ss_nil)
      (ss_cons (s_asg e_int (g_sub (hu_of hr) (e_var (i := 0)) e_int))
      (ss_one (s_asg (e_sub (e_var (i := 3)) (e_pow e_int e_int)) (g_sub (hu_of hr) (e_var (i := 0)) e_int))))))))) ss_nil)
      (ss_cons (s_asg (e_sub (e_ix (hu_of hr) (e_var (i := 0)) e_int) e_int) (g_sub (hu_of hr) (e_var (i := 0)) e_int))
      (ss_cons (s_set (i := 5) hN (e_ix (hu_of hr) (e_var (i := 0)) e_int))
      (ss_cons (s_asg (e_fdivX (e_var (i := 5)) (e_var (i := 1))) (g_sub (hu_of hr) (e_var (i := 0)) e_int))
      (ss_one (s_ret (e_mod (e_var (i := 5)) (e_var (i := 1)))))))))
theorem es_x_law_pick {k : Nat} {f : Addr} {C_x_law_roll : Con} (Z : NoG mg) (D_x_law_roll : Dn P w K mg base Tb "_law_roll" ["dice", "size"] k C_x_law_roll) (cdv : Value) (A : Around) (outer : List Env) (s : Shared) (H : Hp) (E : XK) (hr : Room k (A.deeper (envOfC "_law_pick" (defScope s_x_law_pick) s.heap.objs.size f cdv))) :
    ESs (cxOf CX0 P w K mg base N_x_law_pick "_law_pick" (defScope s_x_law_pick) f cdv A outer s H E).nox Tb (defBody s_x_law_pick) (m_x_law_pick C_x_law_roll) := by
  have hN := sc_x_law_pick.nd
  exact (ss_one (s_ret (e_ix (hu_of hr) (e_var (i := 1)) (e_call D_x_law_roll hr (by rfl) (a_cons (e_var (i := 0)) (a_cons (e_len (by rfl) (Z _ (by decide)) (a_cons (e_var (i := 1)) a_nil)) a_nil))))))
theorem es_x_law_word {k : Nat} {f : Addr} {C_x_law_roll : Con} (Z : NoG mg) (D_x_law_roll : Dn P w K mg base Tb "_law_roll" ["dice", "size"] k C_x_law_roll) (cdv : Value) (A : Around) (outer : List Env) (s : Shared) (H : Hp) (E : XK) (hr : Room k (A.deeper (envOfC "_law_word" (defScope s_x_law_word) s.heap.objs.size f cdv))) :
    ESs (cxOf CX0 P w K mg base N_x_law_word "_law_word" (defScope s_x_law_word) f cdv A outer s H E).nox Tb (defBody s_x_law_word) (m_x_law_word C_x_law_roll) := by
  have hN := sc_x_law_word.nd
  exact (ss_one (s_ret (e_add (e_ix (hu_of hr) e_str (e_call D_x_law_roll hr (by rfl) (a_cons (e_var (i := 0)) (a_cons e_int a_nil)))) (e_slice e_str o_none (o_some (e_call D_x_law_roll hr (by rfl) (a_cons (e_var (i := 0)) (a_cons e_int a_nil))))))))
theorem es_x_law_leaf {k : Nat} {f : Addr} {C_x_law_roll : Con} {C_x_law_word : Con} (Z : NoG mg) (D_x_law_roll : Dn P w K mg base Tb "_law_roll" ["dice", "size"] k C_x_law_roll) (D_x_law_word : Dn P w K mg base Tb "_law_word" ["dice"] k C_x_law_word) (cdv : Value) (A : Around) (outer : List Env) (s : Shared) (H : Hp) (E : XK) (hr : Room k (A.deeper (envOfC "_law_leaf" (defScope s_x_law_leaf) s.heap.objs.size f cdv))) :
    ESs (cxOf CX0 P w K mg base N_x_law_leaf "_law_leaf" (defScope s_x_law_leaf) f cdv A outer s H E).nox Tb (defBody s_x_law_leaf) (m_x_law_leaf C_x_law_roll C_x_law_word) := by
  have hN := sc_x_law_leaf.nd
  exact (ss_cons (s_set (i := 1) hN (e_call D_x_law_roll hr (by rfl) (a_cons (e_var (i := 0)) (a_cons e_int a_nil))))
      (ss_cons (s_if (t_lt (e_var (i := 1)) e_int) (ss_one (s_ret (e_call D_x_law_word hr (by rfl) (a_cons (e_var (i := 0)) a_nil)))) ss_nil)
      (ss_cons (s_set (i := 2) hN (e_lst (a_cons (e_sub (e_call D_x_law_roll hr (by rfl) (a_cons (e_var (i := 0)) (a_cons e_int a_nil))) e_int) (a_cons (e_sub (e_call D_x_law_roll hr (by rfl) (a_cons (e_var (i := 0)) (a_cons (e_add (e_mul e_int (e_pow e_int e_int)) e_int) a_nil))) (e_pow e_int e_int)) a_nil))))
      (ss_one (s_ret (e_ix (hu_of hr) (e_add (e_var (i := 2)) (e_lst (a_cons (e_mul (e_pow e_int e_int) (e_sub e_int (e_mul e_int (e_call D_x_law_roll hr (by rfl) (a_cons (e_var (i := 0)) (a_cons e_int a_nil)))))) a_nil))) (e_sub (e_var (i := 1)) e_int)))))))
theorem es_x_law_thing {k : Nat} {f : Addr} {C_x_law_roll : Con} {C_x_law_leaf : Con} {C_x_law_thing : Con} (Z : NoG mg) (D_x_law_roll : Dn P w K mg base Tb "_law_roll" ["dice", "size"] k C_x_law_roll) (D_x_law_leaf : Dn P w K mg base Tb "_law_leaf" ["dice"] k C_x_law_leaf) (D_x_law_thing : Dn P w K mg base Tb "_law_thing" ["dice", "deep"] k C_x_law_thing) (cdv : Value) (A : Around) (outer : List Env) (s : Shared) (H : Hp) (E : XK) (hr : Room k (A.deeper (envOfC "_law_thing" (defScope s_x_law_thing) s.heap.objs.size f cdv))) :
    ESs (cxOf CX0 P w K mg base N_x_law_thing "_law_thing" (defScope s_x_law_thing) f cdv A outer s H E).nox Tb (defBody s_x_law_thing) (m_x_law_thing C_x_law_roll C_x_law_leaf C_x_law_thing) := by
  have hN := sc_x_law_thing.nd
  exact (ss_cons (s_set (i := 2) hN (e_lst a_nil))
      (ss_cons (s_for (i_range1 (by rfl) (Z _ (by decide)) (a_cons (e_call D_x_law_roll hr (by rfl) (a_cons (e_var (i := 0)) (a_cons e_int a_nil))) a_nil)) (g_name (i := 3) hN) (ss_one (s_if (w_t (w_or (t_eq hr.units (e_var (i := 1)) e_int) (w_or1 (t_gt (e_call D_x_law_roll hr (by rfl) (a_cons (e_var (i := 0)) (a_cons e_int a_nil))) e_int)))) (ss_one (s_expr (e_append (e_var (i := 2)) (a_cons (e_call D_x_law_leaf hr (by rfl) (a_cons (e_var (i := 0)) a_nil)) a_nil)))) (ss_one (s_expr (e_append (e_var (i := 2)) (a_cons (e_call D_x_law_thing hr (by rfl) (a_cons (e_var (i := 0)) (a_cons (e_sub (e_var (i := 1)) e_int) a_nil))) a_nil)))))))
      (ss_one (s_ret (e_tuple (by rfl) (Z _ (by decide)) (a_cons (e_var (i := 2)) a_nil))))))
theorem es_x_law_text {k : Nat} {f : Addr} {C_x_law_text : Con} (Z : NoG mg) (D_x_law_text : Dn P w K mg base Tb "_law_text" ["thing"] k C_x_law_text) (cdv : Value) (A : Around) (outer : List Env) (s : Shared) (H : Hp) (E : XK) (hr : Room k (A.deeper (envOfC "_law_text" (defScope s_x_law_text) s.heap.objs.size f cdv))) :
    ESs (cxOf CX0 P w K mg base N_x_law_text "_law_text" (defScope s_x_law_text) f cdv A outer s H E).nox Tb (defBody s_x_law_text) (m_x_law_text C_x_law_text) := by
  have hN := sc_x_law_text.nd
  exact (ss_cons (s_if (t_not (t_truth (e_isi (by rfl) (Z _ (by decide)) (a_cons (e_var (i := 0)) (a_cons (e_ty (by rfl) (Z _ (by decide))) a_nil))))) (ss_one (s_ret (e_if (t_truth (e_isi (by rfl) (Z _ (by decide)) (a_cons (e_var (i := 0)) (a_cons (e_ty (by rfl) (Z _ (by decide))) a_nil)))) (e_var (i := 0)) (e_strC (by rfl) (Z _ (by decide)) (a_cons (e_var (i := 0)) a_nil))))) ss_nil)
      (ss_one (s_ret (e_add (e_add e_str (e_join e_str (e_lc (own := [("part", 1)]) hN (i_seq (e_var (i := 0))) (blkOk_by (N := N_x_law_text) (sc := defScope s_x_law_text) (by decide +kernel)) (gw_name (i := 1) hN) f_nil (fun _ _ _ _ _ => (e_call D_x_law_text hr (by rfl) (a_cons (e_var (i := 1)) a_nil)))))) e_str))))
theorem es_x_law_kinds {k : Nat} {f : Addr} {C_x_law_kinds : Con} (Z : NoG mg) (D_x_law_kinds : Dn P w K mg base Tb "_law_kinds" ["thing"] k C_x_law_kinds) (cdv : Value) (A : Around) (outer : List Env) (s : Shared) (H : Hp) (E : XK) (hr : Room k (A.deeper (envOfC "_law_kinds" (defScope s_x_law_kinds) s.heap.objs.size f cdv))) :
    ESs (cxOf CX0 P w K mg base N_x_law_kinds "_law_kinds" (defScope s_x_law_kinds) f cdv A outer s H E).nox Tb (defBody s_x_law_kinds) (m_x_law_kinds C_x_law_kinds) := by
  have hN := sc_x_law_kinds.nd
  exact (ss_cons (s_if (t_truth (e_isi (by rfl) (Z _ (by decide)) (a_cons (e_var (i := 0)) (a_cons (e_ty (by rfl) (Z _ (by decide))) a_nil)))) (ss_one (s_ret (e_allL (by rfl) (Z _ (by decide)) (a_cons (e_lc (own := [("part", 1)]) hN (i_seq (e_var (i := 0))) (blkOk_by (N := N_x_law_kinds) (sc := defScope s_x_law_kinds) (by decide +kernel)) (gw_name (i := 1) hN) f_nil (fun _ _ _ _ _ => (e_call D_x_law_kinds hr (by rfl) (a_cons (e_var (i := 1)) a_nil)))) a_nil)))) ss_nil)
      (ss_one (s_ret (e_or (e_isi (by rfl) (Z _ (by decide)) (a_cons (e_var (i := 0)) (a_cons (e_ty (by rfl) (Z _ (by decide))) a_nil))) (e_one (e_and (e_isi (by rfl) (Z _ (by decide)) (a_cons (e_var (i := 0)) (a_cons (e_ty (by rfl) (Z _ (by decide))) a_nil))) (e_one (e_not (e_isi (by rfl) (Z _ (by decide)) (a_cons (e_var (i := 0)) (a_cons (e_ty (by rfl) (Z _ (by decide))) a_nil)))))))))))
theorem es_x_law_right {k : Nat} {f : Addr} {C_written : Con} {C_read : Con} {C_x_law_kinds : Con} (Z : NoG mg) (D_written : Dn P w K mg base Tb "written" ["thing"] k C_written) (D_read : Dn P w K mg base Tb "read" ["text"] k C_read) (D_x_law_kinds : Dn P w K mg base Tb "_law_kinds" ["thing"] k C_x_law_kinds) (hk : 190 ≤ k) (cdv : Value) (A : Around) (outer : List Env) (s : Shared) (H : Hp) (E : XK) (hr : Room k (A.deeper (envOfC "_law_right" (defScope s_x_law_right) s.heap.objs.size f cdv))) :
    ESs (cxOf CX0 P w K mg base N_x_law_right "_law_right" (defScope s_x_law_right) f cdv A outer s H E).nox Tb (defBody s_x_law_right) (m_x_law_right C_written C_read C_x_law_kinds) := by
  have hN := sc_x_law_right.nd
  exact (ss_cons (s_if (t_neX (ux hr hk) (e_call D_written hr (by rfl) (a_cons (e_var (i := 0)) a_nil)) (e_var (i := 1))) (ss_one (s_ret e_bl)) ss_nil)
      (ss_cons (s_set (i := 2) hN (e_call D_read hr (by rfl) (a_cons (e_var (i := 1)) a_nil)))
      (ss_one (s_ret (e_and (e_eqX (ux hr hk) (e_var (i := 2)) (e_var (i := 0))) (e_one (e_call D_x_law_kinds hr (by rfl) (a_cons (e_var (i := 2)) a_nil))))))))
theorem es_law {k : Nat} {f : Addr} {C_x_law_thing : Con} {C_x_law_right : Con} {C_x_law_text : Con} {C_written : Con} {C_x_law_leaf : Con} {C_x_law_roll : Con} {C_x_law_pick : Con} (Z : NoG mg) (D_x_law_thing : Dn P w K mg base Tb "_law_thing" ["dice", "deep"] k C_x_law_thing) (D_x_law_right : Dn P w K mg base Tb "_law_right" ["thing", "text"] k C_x_law_right) (D_x_law_text : Dn P w K mg base Tb "_law_text" ["thing"] k C_x_law_text) (D_written : Dn P w K mg base Tb "written" ["thing"] k C_written) (D_x_law_leaf : Dn P w K mg base Tb "_law_leaf" ["dice"] k C_x_law_leaf) (D_x_law_roll : Dn P w K mg base Tb "_law_roll" ["dice", "size"] k C_x_law_roll) (D_x_law_pick : Dn P w K mg base Tb "_law_pick" ["dice", "some"] k C_x_law_pick) (cdv : Value) (A : Around) (outer : List Env) (s : Shared) (H : Hp) (E : XK) (hr : Room k (A.deeper (envOfC "law" (defScope s_law) s.heap.objs.size f cdv))) :
    ESs (cxOf CX0 P w K mg base N_law "law" (defScope s_law) f cdv A outer s H E).nox Tb (defBody s_law) (m_law C_x_law_thing C_x_law_right C_x_law_text C_written C_x_law_leaf C_x_law_roll C_x_law_pick) := by
  have hN := sc_law.nd
  exact (ss_cons (s_set (i := 1) hN (e_lst (a_cons (e_list (by rfl) (Z _ (by decide)) (a_cons (e_slice (e_var (i := 0)) o_none (o_some e_int)) a_nil)) (a_cons e_int (a_cons e_int (a_cons e_int a_nil))))))
      (ss_cons (s_for (i_range1 (by rfl) (Z _ (by decide)) (a_cons e_int a_nil)) (g_name (i := 2) hN) (ss_cons (s_set (i := 3) hN (e_call D_x_law_thing hr (by rfl) (a_cons (e_var (i := 1)) (a_cons e_int a_nil))))
      (ss_cons (s_if (w_t (w_or (t_not (t_truth (e_call D_x_law_right hr (by rfl) (a_cons (e_var (i := 3)) (a_cons (e_call D_x_law_text hr (by rfl) (a_cons (e_var (i := 3)) a_nil)) a_nil))))) (w_or1 (t_ne hr.units (e_call D_written hr (by rfl) (a_cons (e_var (i := 3)) a_nil)) (e_call D_x_law_text hr (by rfl) (a_cons (e_var (i := 3)) a_nil)))))) (ss_one (s_ret e_bl)) ss_nil)
      (ss_cons (s_set (i := 4) hN (e_call D_x_law_leaf hr (by rfl) (a_cons (e_var (i := 1)) a_nil)))
      (ss_one (s_if (t_ne hr.units (e_call D_written hr (by rfl) (a_cons (e_var (i := 4)) a_nil)) (e_call D_x_law_text hr (by rfl) (a_cons (e_var (i := 4)) a_nil))) (ss_one (s_ret e_bl)) ss_nil))))))
      (ss_cons (s_set (i := 5) hN (e_add e_int (e_call D_x_law_roll hr (by rfl) (a_cons (e_var (i := 1)) (a_cons e_int a_nil)))))
      (ss_cons (s_asg (e_tup (a_cons (e_tup a_nil) (a_cons e_str a_nil))) (g_tup rfl (gs_cons (g_name (i := 6) hN) (gs_cons (g_name (i := 7) hN) gs_nil))))
      (ss_cons (s_for (i_range1 (by rfl) (Z _ (by decide)) (a_cons (e_sub (e_call D_x_law_pick hr (by rfl) (a_cons (e_var (i := 1)) (a_cons (e_lst (a_cons (e_var (i := 5)) (a_cons e_int a_nil))) a_nil))) e_int) a_nil)) (g_name (i := 8) hN) (ss_cons (s_set (i := 9) hN (e_ix (hu_of hr) (e_lst (a_cons (e_tup a_nil) (a_cons (e_tup (a_cons e_str a_nil)) (a_cons (e_tup (a_cons (e_sub e_int (e_var (i := 8))) a_nil)) a_nil)))) (e_call D_x_law_roll hr (by rfl) (a_cons (e_var (i := 1)) (a_cons e_int a_nil)))))
      (ss_cons (s_set (i := 6) hN (e_add (e_var (i := 9)) (e_tup (a_cons (e_var (i := 6)) a_nil))))
      (ss_one (s_set (i := 7) hN (e_add (e_add (e_add e_str (e_join e_str (e_lc (own := [("one", 11)]) hN (i_seq (e_var (i := 9))) (blkOk_by (N := N_law) (sc := defScope s_law) (by decide +kernel)) (gw_name (i := 11) hN) f_nil (fun _ _ _ _ _ => (e_add (e_call D_x_law_text hr (by rfl) (a_cons (e_var (i := 11)) a_nil)) e_str))))) (e_var (i := 7))) e_str))))))
      (ss_cons (s_set (i := 10) hN (e_add (e_tup (a_cons e_str a_nil)) (e_repB (e_tup (a_cons e_int a_nil)) e_int)))
      (ss_one (s_ret (e_and (e_call D_x_law_right hr (by rfl) (a_cons (e_var (i := 6)) (a_cons (e_var (i := 7)) a_nil))) (e_one (e_call D_x_law_right hr (by rfl) (a_cons (e_var (i := 10)) (a_cons (e_add (e_add e_str (e_mul e_str e_int)) e_str) a_nil)))))))))))))
end
end D80

set_option Elab.async false
set_option linter.all false
set_option maxRecDepth 100000
set_option maxHeartbeats 0
namespace E80
open PySem PySem.Spec PyProof.Rows L2 Ow Ev D80 EvT Ev80 OwT
abbrev dd (i : Nat) (x : Str) : He.DefD := ⟨(x, none), x, x, defArgs (topS i), defBody (topS i), defScope (topS i), [], []⟩
def fn : List He.DefD := [dd 8 "_word_of_thing", dd 9 "_written_by", dd 10 "written", dd 11 "_sign_at", dd 12 "_is_letter", dd 13 "_is_figure", dd 14 "_read_word", dd 15 "_read_number", dd 16 "_read_part", dd 17 "_close", dd 18 "read", dd 20 "_law_roll", dd 21 "_law_pick", dd 22 "_law_word", dd 23 "_law_leaf", dd 24 "_law_thing", dd 25 "_law_text", dd 26 "_law_kinds", dd 27 "_law_right", dd 28 "law"]
def fa : List He.Fa := [.glo "_word_of_thing", .glo "_written_by", .glo "written", .glo "_sign_at", .glo "_is_letter", .glo "_is_figure", .glo "_read_word", .glo "_read_number", .glo "_read_part", .glo "_close", .glo "read", .glo "_law_roll", .glo "_law_pick", .glo "_law_word", .glo "_law_leaf", .glo "_law_thing", .glo "_law_text", .glo "_law_kinds", .glo "_law_right", .glo "law", .free "len", .free "range", .free "max", .free "min", .free "abs", .free "isinstance", .free "int", .free "str", .free "bool", .free "tuple", .free "list", .free "dict", .free "all", .free "any", .free "sorted", .free "set", .free "reversed", .free "enumerate", .free "zip", .free "repr", .free "sum", .int "MOST_LETTERS" (8), .int "LEAST_NUMBER" (-1000000000000000000), .int "MOST_NUMBER" (1000000000000000000), .int "MOST_OPEN" (200)]
def tabs : List Str := []
def ts : List He.Tab := []
def hd : Hd := ⟨2, fa, fn, ts, fun K => tabs.all (tabOk K)⟩
abbrev R : PySem.W.OpenRow := PySem.W.OpenLaw.row PySem.Challenge.rw_owedonce_k80_tuples_written_and_read
def qv : Program := PySem.W.view R.prog [28]
def loose0 : List Str := ["MOST_LETTERS", "LEAST_NUMBER", "MOST_NUMBER", "MOST_OPEN", "_word_of_thing", "_written_by", "written", "_sign_at", "_is_letter", "_is_figure", "_read_word", "_read_number", "_read_part", "_close", "read", "_law_roll", "_law_pick", "_law_word", "_law_leaf", "_law_thing", "_law_text", "_law_kinds", "_law_right"]
def loose : List Str := loose0
def CA80 (a : Addr) : Addr → Option Con := fun f => if f = a then some WordC else none
theorem facts {P : Program} {w : World} {K : PySem.W.Frag} {h : Heap} {mg : Str → Option Value} {fL : Addr} (X : K.In h) (c : hd.says w K) (G : h.Ns mainGlobals mg) (hfa : mg ("law" : Str) = some (.ref fL)) :
    ∃ fd : FuncData, (∀ (s : Shared) (u : Value), BindsTo s fd ⟨[u], []⟩ [("script", u)]) ∧ ∀ base : Heap, K.In base → base.Ns mainGlobals mg → (∀ x ∈ tabs, GxR.TabB base mg (tabAt K x).1 (tabAt K x).2) → FnOk P w K mg base CX0 (210 + 1) fL fd ["script"] (spOf K (tabs.map fun x => (tabAt K x).2) LawC) := by
  obtain ⟨fd_x_word_of_thing, F_x_word_of_thing⟩ := c.def_ 0 (e := dd 8 "_word_of_thing") rfl
  have F_x_word_of_thing : FnP K "_word_of_thing" s_x_word_of_thing (He.ga K "_word_of_thing") fd_x_word_of_thing := F_x_word_of_thing
  have g_x_word_of_thing : mg "_word_of_thing" = some (.ref (He.ga K "_word_of_thing")) := He.glo_ok X G (c.fact 0 (f := .glo "_word_of_thing") rfl)
  have b_x_word_of_thing := FunD.bindsN (ps := ["thing"]) F_x_word_of_thing fun _ _ _ _ _ _ us hl => match us, hl with | [_], _ => rfl
  obtain ⟨fd_x_written_by, F_x_written_by⟩ := c.def_ 1 (e := dd 9 "_written_by") rfl
  have F_x_written_by : FnP K "_written_by" s_x_written_by (He.ga K "_written_by") fd_x_written_by := F_x_written_by
  have g_x_written_by : mg "_written_by" = some (.ref (He.ga K "_written_by")) := He.glo_ok X G (c.fact 1 (f := .glo "_written_by") rfl)
  have b_x_written_by := FunD.bindsN (ps := ["word_of", "thing"]) F_x_written_by fun _ _ _ _ _ _ us hl => match us, hl with | [_, _], _ => rfl
  obtain ⟨fd_written, F_written⟩ := c.def_ 2 (e := dd 10 "written") rfl
  have F_written : FnP K "written" s_written (He.ga K "written") fd_written := F_written
  have g_written : mg "written" = some (.ref (He.ga K "written")) := He.glo_ok X G (c.fact 2 (f := .glo "written") rfl)
  have b_written := FunD.bindsN (ps := ["thing"]) F_written fun _ _ _ _ _ _ us hl => match us, hl with | [_], _ => rfl
  obtain ⟨fd_x_sign_at, F_x_sign_at⟩ := c.def_ 3 (e := dd 11 "_sign_at") rfl
  have F_x_sign_at : FnP K "_sign_at" s_x_sign_at (He.ga K "_sign_at") fd_x_sign_at := F_x_sign_at
  have g_x_sign_at : mg "_sign_at" = some (.ref (He.ga K "_sign_at")) := He.glo_ok X G (c.fact 3 (f := .glo "_sign_at") rfl)
  have b_x_sign_at := FunD.bindsN (ps := ["text", "at"]) F_x_sign_at fun _ _ _ _ _ _ us hl => match us, hl with | [_, _], _ => rfl
  obtain ⟨fd_x_is_letter, F_x_is_letter⟩ := c.def_ 4 (e := dd 12 "_is_letter") rfl
  have F_x_is_letter : FnP K "_is_letter" s_x_is_letter (He.ga K "_is_letter") fd_x_is_letter := F_x_is_letter
  have g_x_is_letter : mg "_is_letter" = some (.ref (He.ga K "_is_letter")) := He.glo_ok X G (c.fact 4 (f := .glo "_is_letter") rfl)
  have b_x_is_letter := FunD.bindsN (ps := ["sign"]) F_x_is_letter fun _ _ _ _ _ _ us hl => match us, hl with | [_], _ => rfl
  obtain ⟨fd_x_is_figure, F_x_is_figure⟩ := c.def_ 5 (e := dd 13 "_is_figure") rfl
  have F_x_is_figure : FnP K "_is_figure" s_x_is_figure (He.ga K "_is_figure") fd_x_is_figure := F_x_is_figure
  have g_x_is_figure : mg "_is_figure" = some (.ref (He.ga K "_is_figure")) := He.glo_ok X G (c.fact 5 (f := .glo "_is_figure") rfl)
  have b_x_is_figure := FunD.bindsN (ps := ["sign"]) F_x_is_figure fun _ _ _ _ _ _ us hl => match us, hl with | [_], _ => rfl
  obtain ⟨fd_x_read_word, F_x_read_word⟩ := c.def_ 6 (e := dd 14 "_read_word") rfl
  have F_x_read_word : FnP K "_read_word" s_x_read_word (He.ga K "_read_word") fd_x_read_word := F_x_read_word
  have g_x_read_word : mg "_read_word" = some (.ref (He.ga K "_read_word")) := He.glo_ok X G (c.fact 6 (f := .glo "_read_word") rfl)
  have b_x_read_word := FunD.bindsN (ps := ["text", "at"]) F_x_read_word fun _ _ _ _ _ _ us hl => match us, hl with | [_, _], _ => rfl
  obtain ⟨fd_x_read_number, F_x_read_number⟩ := c.def_ 7 (e := dd 15 "_read_number") rfl
  have F_x_read_number : FnP K "_read_number" s_x_read_number (He.ga K "_read_number") fd_x_read_number := F_x_read_number
  have g_x_read_number : mg "_read_number" = some (.ref (He.ga K "_read_number")) := He.glo_ok X G (c.fact 7 (f := .glo "_read_number") rfl)
  have b_x_read_number := FunD.bindsN (ps := ["text", "at"]) F_x_read_number fun _ _ _ _ _ _ us hl => match us, hl with | [_, _], _ => rfl
  obtain ⟨fd_x_read_part, F_x_read_part⟩ := c.def_ 8 (e := dd 16 "_read_part") rfl
  have F_x_read_part : FnP K "_read_part" s_x_read_part (He.ga K "_read_part") fd_x_read_part := F_x_read_part
  have g_x_read_part : mg "_read_part" = some (.ref (He.ga K "_read_part")) := He.glo_ok X G (c.fact 8 (f := .glo "_read_part") rfl)
  have b_x_read_part := FunD.bindsN (ps := ["text", "at"]) F_x_read_part fun _ _ _ _ _ _ us hl => match us, hl with | [_, _], _ => rfl
  obtain ⟨fd_x_close, F_x_close⟩ := c.def_ 9 (e := dd 17 "_close") rfl
  have F_x_close : FnP K "_close" s_x_close (He.ga K "_close") fd_x_close := F_x_close
  have g_x_close : mg "_close" = some (.ref (He.ga K "_close")) := He.glo_ok X G (c.fact 9 (f := .glo "_close") rfl)
  have b_x_close := FunD.bindsN (ps := ["text", "at", "opened"]) F_x_close fun _ _ _ _ _ _ us hl => match us, hl with | [_, _, _], _ => rfl
  obtain ⟨fd_read, F_read⟩ := c.def_ 10 (e := dd 18 "read") rfl
  have F_read : FnP K "read" s_read (He.ga K "read") fd_read := F_read
  have g_read : mg "read" = some (.ref (He.ga K "read")) := He.glo_ok X G (c.fact 10 (f := .glo "read") rfl)
  have b_read := FunD.bindsN (ps := ["text"]) F_read fun _ _ _ _ _ _ us hl => match us, hl with | [_], _ => rfl
  obtain ⟨fd_x_law_roll, F_x_law_roll⟩ := c.def_ 11 (e := dd 20 "_law_roll") rfl
  have F_x_law_roll : FnP K "_law_roll" s_x_law_roll (He.ga K "_law_roll") fd_x_law_roll := F_x_law_roll
  have g_x_law_roll : mg "_law_roll" = some (.ref (He.ga K "_law_roll")) := He.glo_ok X G (c.fact 11 (f := .glo "_law_roll") rfl)
  have b_x_law_roll := FunD.bindsN (ps := ["dice", "size"]) F_x_law_roll fun _ _ _ _ _ _ us hl => match us, hl with | [_, _], _ => rfl
  obtain ⟨fd_x_law_pick, F_x_law_pick⟩ := c.def_ 12 (e := dd 21 "_law_pick") rfl
  have F_x_law_pick : FnP K "_law_pick" s_x_law_pick (He.ga K "_law_pick") fd_x_law_pick := F_x_law_pick
  have g_x_law_pick : mg "_law_pick" = some (.ref (He.ga K "_law_pick")) := He.glo_ok X G (c.fact 12 (f := .glo "_law_pick") rfl)
  have b_x_law_pick := FunD.bindsN (ps := ["dice", "some"]) F_x_law_pick fun _ _ _ _ _ _ us hl => match us, hl with | [_, _], _ => rfl
  obtain ⟨fd_x_law_word, F_x_law_word⟩ := c.def_ 13 (e := dd 22 "_law_word") rfl
  have F_x_law_word : FnP K "_law_word" s_x_law_word (He.ga K "_law_word") fd_x_law_word := F_x_law_word
  have g_x_law_word : mg "_law_word" = some (.ref (He.ga K "_law_word")) := He.glo_ok X G (c.fact 13 (f := .glo "_law_word") rfl)
  have b_x_law_word := FunD.bindsN (ps := ["dice"]) F_x_law_word fun _ _ _ _ _ _ us hl => match us, hl with | [_], _ => rfl
  obtain ⟨fd_x_law_leaf, F_x_law_leaf⟩ := c.def_ 14 (e := dd 23 "_law_leaf") rfl
  have F_x_law_leaf : FnP K "_law_leaf" s_x_law_leaf (He.ga K "_law_leaf") fd_x_law_leaf := F_x_law_leaf
  have g_x_law_leaf : mg "_law_leaf" = some (.ref (He.ga K "_law_leaf")) := He.glo_ok X G (c.fact 14 (f := .glo "_law_leaf") rfl)
  have b_x_law_leaf := FunD.bindsN (ps := ["dice"]) F_x_law_leaf fun _ _ _ _ _ _ us hl => match us, hl with | [_], _ => rfl
  obtain ⟨fd_x_law_thing, F_x_law_thing⟩ := c.def_ 15 (e := dd 24 "_law_thing") rfl
  have F_x_law_thing : FnP K "_law_thing" s_x_law_thing (He.ga K "_law_thing") fd_x_law_thing := F_x_law_thing
  have g_x_law_thing : mg "_law_thing" = some (.ref (He.ga K "_law_thing")) := He.glo_ok X G (c.fact 15 (f := .glo "_law_thing") rfl)
  have b_x_law_thing := FunD.bindsN (ps := ["dice", "deep"]) F_x_law_thing fun _ _ _ _ _ _ us hl => match us, hl with | [_, _], _ => rfl
  obtain ⟨fd_x_law_text, F_x_law_text⟩ := c.def_ 16 (e := dd 25 "_law_text") rfl
  have F_x_law_text : FnP K "_law_text" s_x_law_text (He.ga K "_law_text") fd_x_law_text := F_x_law_text
  have g_x_law_text : mg "_law_text" = some (.ref (He.ga K "_law_text")) := He.glo_ok X G (c.fact 16 (f := .glo "_law_text") rfl)
  have b_x_law_text := FunD.bindsN (ps := ["thing"]) F_x_law_text fun _ _ _ _ _ _ us hl => match us, hl with | [_], _ => rfl
  obtain ⟨fd_x_law_kinds, F_x_law_kinds⟩ := c.def_ 17 (e := dd 26 "_law_kinds") rfl
  have F_x_law_kinds : FnP K "_law_kinds" s_x_law_kinds (He.ga K "_law_kinds") fd_x_law_kinds := F_x_law_kinds
  have g_x_law_kinds : mg "_law_kinds" = some (.ref (He.ga K "_law_kinds")) := He.glo_ok X G (c.fact 17 (f := .glo "_law_kinds") rfl)
  have b_x_law_kinds := FunD.bindsN (ps := ["thing"]) F_x_law_kinds fun _ _ _ _ _ _ us hl => match us, hl with | [_], _ => rfl
  obtain ⟨fd_x_law_right, F_x_law_right⟩ := c.def_ 18 (e := dd 27 "_law_right") rfl
  have F_x_law_right : FnP K "_law_right" s_x_law_right (He.ga K "_law_right") fd_x_law_right := F_x_law_right
  have g_x_law_right : mg "_law_right" = some (.ref (He.ga K "_law_right")) := He.glo_ok X G (c.fact 18 (f := .glo "_law_right") rfl)
  have b_x_law_right := FunD.bindsN (ps := ["thing", "text"]) F_x_law_right fun _ _ _ _ _ _ us hl => match us, hl with | [_, _], _ => rfl
  obtain ⟨fd_law, F_law⟩ := c.def_ 19 (e := dd 28 "law") rfl
  have eL := hfa.symm.trans (He.glo_ok X G (c.fact 19 (f := .glo "law") rfl))
  cases eL
  have F_law : FnP K "law" s_law (He.ga K "law") fd_law := F_law
  have bL := FunD.bindsA (ps := ["script"]) F_law fun _ _ _ _ _ _ us hl => match us, hl with | [_], _ => rfl
  refine ⟨fd_law, fun s v => bL s [v] rfl, fun base _ _ TBs => ?_⟩
  have Z : NoG mg := by
    intro x hx
    simp only [blts, List.mem_cons, List.not_mem_nil, or_false] at hx
    rcases hx with rfl | rfl | rfl | rfl | rfl | rfl | rfl | rfl | rfl | rfl | rfl | rfl | rfl | rfl | rfl | rfl | rfl | rfl | rfl | rfl | rfl
    · exact He.free_ok X G (c.fact 20 (f := .free "len") rfl)
    · exact He.free_ok X G (c.fact 21 (f := .free "range") rfl)
    · exact He.free_ok X G (c.fact 22 (f := .free "max") rfl)
    · exact He.free_ok X G (c.fact 23 (f := .free "min") rfl)
    · exact He.free_ok X G (c.fact 24 (f := .free "abs") rfl)
    · exact He.free_ok X G (c.fact 25 (f := .free "isinstance") rfl)
    · exact He.free_ok X G (c.fact 26 (f := .free "int") rfl)
    · exact He.free_ok X G (c.fact 27 (f := .free "str") rfl)
    · exact He.free_ok X G (c.fact 28 (f := .free "bool") rfl)
    · exact He.free_ok X G (c.fact 29 (f := .free "tuple") rfl)
    · exact He.free_ok X G (c.fact 30 (f := .free "list") rfl)
    · exact He.free_ok X G (c.fact 31 (f := .free "dict") rfl)
    · exact He.free_ok X G (c.fact 32 (f := .free "all") rfl)
    · exact He.free_ok X G (c.fact 33 (f := .free "any") rfl)
    · exact He.free_ok X G (c.fact 34 (f := .free "sorted") rfl)
    · exact He.free_ok X G (c.fact 35 (f := .free "set") rfl)
    · exact He.free_ok X G (c.fact 36 (f := .free "reversed") rfl)
    · exact He.free_ok X G (c.fact 37 (f := .free "enumerate") rfl)
    · exact He.free_ok X G (c.fact 38 (f := .free "zip") rfl)
    · exact He.free_ok X G (c.fact 39 (f := .free "repr") rfl)
    · exact He.free_ok X G (c.fact 40 (f := .free "sum") rfl)
  have G_MOST_LETTERS : ∃ t, mg "MOST_LETTERS" = some (.int (8) t) := He.int_ok X G (c.fact 41 (f := .int "MOST_LETTERS" (8)) rfl)
  have G_LEAST_NUMBER : ∃ t, mg "LEAST_NUMBER" = some (.int (-1000000000000000000) t) := He.int_ok X G (c.fact 42 (f := .int "LEAST_NUMBER" (-1000000000000000000)) rfl)
  have G_MOST_NUMBER : ∃ t, mg "MOST_NUMBER" = some (.int (1000000000000000000) t) := He.int_ok X G (c.fact 43 (f := .int "MOST_NUMBER" (1000000000000000000)) rfl)
  have G_MOST_OPEN : ∃ t, mg "MOST_OPEN" = some (.int (200) t) := He.int_ok X G (c.fact 44 (f := .int "MOST_OPEN" (200)) rfl)
  have ex := c.x
  have ex : (tabs.all (tabOk K)) = true := ex
  have ex1 := ex
  rw [List.all_eq_true] at ex1
  generalize hTb : (tabs.map fun x => (tabAt K x).2) = Tb at *
  have D_x_word_of_thing : Dn P w K mg base Tb "_word_of_thing" ["thing"] (0 + 1) (WordC) := dz_of F_x_word_of_thing g_x_word_of_thing b_x_word_of_thing sc_x_word_of_thing (fun a ws S h => by first | (obtain ⟨e, _⟩ := h; rw [e]; rfl) | (obtain ⟨e, hl, _⟩ := h; rw [e]; exact hl) | (obtain ⟨_, e, _⟩ := h; rw [e]; rfl) | (have h : ws = _ := h; rw [h]; rfl)) (fun cdv A outer s H E hr => es_x_word_of_thing Z cdv A outer s H E hr) (vd_word)
  have HC : ∀ f C, CA80 (He.ga K "_word_of_thing") f = some C → Held P w K mg base 1 f (spOf K Tb C) := by
    intro f C h
    unfold CA80 at h
    by_cases e : f = (He.ga K "_word_of_thing")
    · rw [if_pos e] at h; cases h; rw [e]; exact held_of (D_x_word_of_thing.mono (by omega)) g_x_word_of_thing
    · rw [if_neg e] at h; cases h
  have D_x_written_by : Dn P w K mg base Tb "_written_by" ["word_of", "thing"] (1 + 1) (WrittenC (He.ga K "_word_of_thing")) := dz_of F_x_written_by g_x_written_by b_x_written_by sc_x_written_by (fun a ws S h => by first | (obtain ⟨e, _⟩ := h; rw [e]; rfl) | (obtain ⟨e, hl, _⟩ := h; rw [e]; exact hl) | (obtain ⟨_, e, _⟩ := h; rw [e]; rfl) | (have h : ws = _ := h; rw [h]; rfl)) (fun cdv A outer s H E hr => es_x_written_by Z HC cdv A outer s H E hr) (vd_written_by (CA := CA80 (He.ga K "_word_of_thing")) (if_pos rfl))
  have D_written : Dn P w K mg base Tb "written" ["thing"] (2 + 1) (TextC) := dz_of F_written g_written b_written sc_written (fun a ws S h => by first | (obtain ⟨e, _⟩ := h; rw [e]; rfl) | (obtain ⟨e, hl, _⟩ := h; rw [e]; exact hl) | (obtain ⟨_, e, _⟩ := h; rw [e]; rfl) | (have h : ws = _ := h; rw [h]; rfl)) (fun cdv A outer s H E hr => es_written Z (D_x_written_by.mono (by omega)) g_x_word_of_thing cdv A outer s H E hr) (vd_written)
  have D_x_sign_at : Dn P w K mg base Tb "_sign_at" ["text", "at"] (0 + 1) (SignC) := dz_of F_x_sign_at g_x_sign_at b_x_sign_at sc_x_sign_at (fun a ws S h => by first | (obtain ⟨e, _⟩ := h; rw [e]; rfl) | (obtain ⟨e, hl, _⟩ := h; rw [e]; exact hl) | (obtain ⟨_, e, _⟩ := h; rw [e]; rfl) | (have h : ws = _ := h; rw [h]; rfl)) (fun cdv A outer s H E hr => es_x_sign_at Z cdv A outer s H E hr) (vd_sign)
  have D_x_is_letter : Dn P w K mg base Tb "_is_letter" ["sign"] (0 + 1) (LetC) := dz_of F_x_is_letter g_x_is_letter b_x_is_letter sc_x_is_letter (fun a ws S h => by first | (obtain ⟨e, _⟩ := h; rw [e]; rfl) | (obtain ⟨e, hl, _⟩ := h; rw [e]; exact hl) | (obtain ⟨_, e, _⟩ := h; rw [e]; rfl) | (have h : ws = _ := h; rw [h]; rfl)) (fun cdv A outer s H E hr => es_x_is_letter Z cdv A outer s H E hr) (vd_let)
  have D_x_is_figure : Dn P w K mg base Tb "_is_figure" ["sign"] (0 + 1) (FigC) := dz_of F_x_is_figure g_x_is_figure b_x_is_figure sc_x_is_figure (fun a ws S h => by first | (obtain ⟨e, _⟩ := h; rw [e]; rfl) | (obtain ⟨e, hl, _⟩ := h; rw [e]; exact hl) | (obtain ⟨_, e, _⟩ := h; rw [e]; rfl) | (have h : ws = _ := h; rw [h]; rfl)) (fun cdv A outer s H E hr => es_x_is_figure Z cdv A outer s H E hr) (vd_fig)
  have D_x_read_word : Dn P w K mg base Tb "_read_word" ["text", "at"] (1 + 1) (RdWordC) := dz_of F_x_read_word g_x_read_word b_x_read_word sc_x_read_word (fun a ws S h => by first | (obtain ⟨e, _⟩ := h; rw [e]; rfl) | (obtain ⟨e, hl, _⟩ := h; rw [e]; exact hl) | (obtain ⟨_, e, _⟩ := h; rw [e]; rfl) | (have h : ws = _ := h; rw [h]; rfl)) (fun cdv A outer s H E hr => es_x_read_word Z (D_x_is_letter.mono (by omega)) (D_x_sign_at.mono (by omega)) G_MOST_LETTERS cdv A outer s H E hr) (vd_read_word)
  have D_x_read_number : Dn P w K mg base Tb "_read_number" ["text", "at"] (1 + 1) (RdNumC) := dz_of F_x_read_number g_x_read_number b_x_read_number sc_x_read_number (fun a ws S h => by first | (obtain ⟨e, _⟩ := h; rw [e]; rfl) | (obtain ⟨e, hl, _⟩ := h; rw [e]; exact hl) | (obtain ⟨_, e, _⟩ := h; rw [e]; rfl) | (have h : ws = _ := h; rw [h]; rfl)) (fun cdv A outer s H E hr => es_x_read_number Z (D_x_sign_at.mono (by omega)) (D_x_is_figure.mono (by omega)) G_LEAST_NUMBER G_MOST_NUMBER cdv A outer s H E hr) (vd_read_number)
  have D_x_read_part : Dn P w K mg base Tb "_read_part" ["text", "at"] (2 + 1) (RdPartC) := dz_of F_x_read_part g_x_read_part b_x_read_part sc_x_read_part (fun a ws S h => by first | (obtain ⟨e, _⟩ := h; rw [e]; rfl) | (obtain ⟨e, hl, _⟩ := h; rw [e]; exact hl) | (obtain ⟨_, e, _⟩ := h; rw [e]; rfl) | (have h : ws = _ := h; rw [h]; rfl)) (fun cdv A outer s H E hr => es_x_read_part Z (D_x_is_letter.mono (by omega)) (D_x_sign_at.mono (by omega)) (D_x_read_word.mono (by omega)) (D_x_read_number.mono (by omega)) cdv A outer s H E hr) (vd_read_part)
  have D_x_close : Dn P w K mg base Tb "_close" ["text", "at", "opened"] (1 + 1) (CloseC) := dz_of F_x_close g_x_close b_x_close sc_x_close (fun a ws S h => by first | (obtain ⟨e, _⟩ := h; rw [e]; rfl) | (obtain ⟨e, hl, _⟩ := h; rw [e]; exact hl) | (obtain ⟨_, e, _⟩ := h; rw [e]; rfl) | (have h : ws = _ := h; rw [h]; rfl)) (fun cdv A outer s H E hr => es_x_close Z (D_x_sign_at.mono (by omega)) cdv A outer s H E hr) (vd_close)
  have D_read : Dn P w K mg base Tb "read" ["text"] (3 + 1) (ReadC) := dz_of F_read g_read b_read sc_read (fun a ws S h => by first | (obtain ⟨e, _⟩ := h; rw [e]; rfl) | (obtain ⟨e, hl, _⟩ := h; rw [e]; exact hl) | (obtain ⟨_, e, _⟩ := h; rw [e]; rfl) | (have h : ws = _ := h; rw [h]; rfl)) (fun cdv A outer s H E hr => es_read Z (D_x_sign_at.mono (by omega)) (D_x_read_part.mono (by omega)) (D_x_close.mono (by omega)) G_MOST_OPEN cdv A outer s H E hr) (vd_read)
  have D_x_law_roll : Dn P w K mg base Tb "_law_roll" ["dice", "size"] (0 + 1) (Ev82.RollC) := dz_of F_x_law_roll g_x_law_roll b_x_law_roll sc_x_law_roll (fun a ws S h => by first | (obtain ⟨e, _⟩ := h; rw [e]; rfl) | (obtain ⟨e, hl, _⟩ := h; rw [e]; exact hl) | (obtain ⟨_, e, _⟩ := h; rw [e]; rfl) | (have h : ws = _ := h; rw [h]; rfl)) (fun cdv A outer s H E hr => es_x_law_roll Z cdv A outer s H E hr) (vd_roll)
  have D_x_law_pick : Dn P w K mg base Tb "_law_pick" ["dice", "some"] (1 + 1) (PickC) := dz_of F_x_law_pick g_x_law_pick b_x_law_pick sc_x_law_pick (fun a ws S h => by first | (obtain ⟨e, _⟩ := h; rw [e]; rfl) | (obtain ⟨e, hl, _⟩ := h; rw [e]; exact hl) | (obtain ⟨_, e, _⟩ := h; rw [e]; rfl) | (have h : ws = _ := h; rw [h]; rfl)) (fun cdv A outer s H E hr => es_x_law_pick Z (D_x_law_roll.mono (by omega)) cdv A outer s H E hr) (vd_pick)
  have D_x_law_word : Dn P w K mg base Tb "_law_word" ["dice"] (1 + 1) (WordC') := dz_of F_x_law_word g_x_law_word b_x_law_word sc_x_law_word (fun a ws S h => by first | (obtain ⟨e, _⟩ := h; rw [e]; rfl) | (obtain ⟨e, hl, _⟩ := h; rw [e]; exact hl) | (obtain ⟨_, e, _⟩ := h; rw [e]; rfl) | (have h : ws = _ := h; rw [h]; rfl)) (fun cdv A outer s H E hr => es_x_law_word Z (D_x_law_roll.mono (by omega)) cdv A outer s H E hr) (vd_law_word)
  have D_x_law_leaf : Dn P w K mg base Tb "_law_leaf" ["dice"] (2 + 1) (LeafC) := dz_of F_x_law_leaf g_x_law_leaf b_x_law_leaf sc_x_law_leaf (fun a ws S h => by first | (obtain ⟨e, _⟩ := h; rw [e]; rfl) | (obtain ⟨e, hl, _⟩ := h; rw [e]; exact hl) | (obtain ⟨_, e, _⟩ := h; rw [e]; rfl) | (have h : ws = _ := h; rw [h]; rfl)) (fun cdv A outer s H E hr => es_x_law_leaf Z (D_x_law_roll.mono (by omega)) (D_x_law_word.mono (by omega)) cdv A outer s H E hr) (vd_law_leaf)
  have N0 : Dn P w K mg base Tb "_law_thing" ["dice", "deep"] (0 + 1) NoC := dz_no F_x_law_thing g_x_law_thing b_x_law_thing sc_x_law_thing NoC fun _ _ _ h => h
  have Y0 : Dn P w K mg base Tb "_law_thing" ["dice", "deep"] (3 + 1) (ThingC 0) := dz_of F_x_law_thing g_x_law_thing b_x_law_thing sc_x_law_thing (fun a ws S h => by first | (obtain ⟨e, _⟩ := h; rw [e]; rfl) | (obtain ⟨e, hl, _⟩ := h; rw [e]; exact hl) | (obtain ⟨_, e, _⟩ := h; rw [e]; rfl) | (have h : ws = _ := h; rw [h]; rfl)) (fun cdv A outer s H E hr => es_x_law_thing Z (D_x_law_roll.mono (by omega)) (D_x_law_leaf.mono (by omega)) (N0.mono (by omega)) cdv A outer s H E hr) (vd_thing (d := 0) (CT := NoC) (fun e h => by omega))
  have Y1 : Dn P w K mg base Tb "_law_thing" ["dice", "deep"] (4 + 1) (ThingC 1) := dz_of F_x_law_thing g_x_law_thing b_x_law_thing sc_x_law_thing (fun a ws S h => by first | (obtain ⟨e, _⟩ := h; rw [e]; rfl) | (obtain ⟨e, hl, _⟩ := h; rw [e]; exact hl) | (obtain ⟨_, e, _⟩ := h; rw [e]; rfl) | (have h : ws = _ := h; rw [h]; rfl)) (fun cdv A outer s H E hr => es_x_law_thing Z (D_x_law_roll.mono (by omega)) (D_x_law_leaf.mono (by omega)) (Y0.mono (by omega)) cdv A outer s H E hr) (vd_thing (d := 1) (CT := ThingC 0) (fun e h => by obtain rfl : e = 0 := (by omega); rfl))
  have Y2 : Dn P w K mg base Tb "_law_thing" ["dice", "deep"] (5 + 1) (ThingC 2) := dz_of F_x_law_thing g_x_law_thing b_x_law_thing sc_x_law_thing (fun a ws S h => by first | (obtain ⟨e, _⟩ := h; rw [e]; rfl) | (obtain ⟨e, hl, _⟩ := h; rw [e]; exact hl) | (obtain ⟨_, e, _⟩ := h; rw [e]; rfl) | (have h : ws = _ := h; rw [h]; rfl)) (fun cdv A outer s H E hr => es_x_law_thing Z (D_x_law_roll.mono (by omega)) (D_x_law_leaf.mono (by omega)) (Y1.mono (by omega)) cdv A outer s H E hr) (vd_thing (d := 2) (CT := ThingC 1) (fun e h => by obtain rfl : e = 1 := (by omega); rfl))
  have D_x_law_thing : Dn P w K mg base Tb "_law_thing" ["dice", "deep"] (6 + 1) (ThingC 3) := dz_of F_x_law_thing g_x_law_thing b_x_law_thing sc_x_law_thing (fun a ws S h => by first | (obtain ⟨e, _⟩ := h; rw [e]; rfl) | (obtain ⟨e, hl, _⟩ := h; rw [e]; exact hl) | (obtain ⟨_, e, _⟩ := h; rw [e]; rfl) | (have h : ws = _ := h; rw [h]; rfl)) (fun cdv A outer s H E hr => es_x_law_thing Z (D_x_law_roll.mono (by omega)) (D_x_law_leaf.mono (by omega)) (Y2.mono (by omega)) cdv A outer s H E hr) (vd_thing (d := 3) (CT := ThingC 2) (fun e h => by obtain rfl : e = 2 := (by omega); rfl))
  have O_x_law_text : ∀ n : Nat, Dn P w K mg base Tb "_law_text" ["thing"] (2 + n) (TxC n) := by
    intro n
    induction n with
    | zero =>
      have N1 : Dn P w K mg base Tb "_law_text" ["thing"] (0 + 1) NoC := dz_no F_x_law_text g_x_law_text b_x_law_text sc_x_law_text NoC fun _ _ _ h => h
      have A1 : Dn P w K mg base Tb "_law_text" ["thing"] (1 + 1) (TxC 0) := dz_of F_x_law_text g_x_law_text b_x_law_text sc_x_law_text (fun a ws S h => by first | (obtain ⟨e, _⟩ := h; rw [e]; rfl) | (obtain ⟨e, hl, _⟩ := h; rw [e]; exact hl) | (obtain ⟨_, e, _⟩ := h; rw [e]; rfl) | (have h : ws = _ := h; rw [h]; rfl)) (fun cdv A outer s H E hr => es_x_law_text Z (N1.mono (by omega)) cdv A outer s H E hr) (vd_text (n := 0) (CT := NoC) (fun e h => by omega))
      exact A1
    | succ n ih =>
      have A1 : Dn P w K mg base Tb "_law_text" ["thing"] ((2 + n) + 1) (TxC (n + 1)) := dz_of F_x_law_text g_x_law_text b_x_law_text sc_x_law_text (fun a ws S h => by first | (obtain ⟨e, _⟩ := h; rw [e]; rfl) | (obtain ⟨e, hl, _⟩ := h; rw [e]; exact hl) | (obtain ⟨_, e, _⟩ := h; rw [e]; rfl) | (have h : ws = _ := h; rw [h]; rfl)) (fun cdv A outer s H E hr => es_x_law_text Z (ih.mono (by omega)) cdv A outer s H E hr) (vd_text (n := n + 1) (CT := TxC n) (fun e h => by obtain rfl : e = n := (by omega); rfl))
      exact A1.mono (by omega)
  have D_x_law_text := O_x_law_text 200
  have O_x_law_kinds : ∀ n : Nat, Dn P w K mg base Tb "_law_kinds" ["thing"] (2 + n) (KdC n) := by
    intro n
    induction n with
    | zero =>
      have N1 : Dn P w K mg base Tb "_law_kinds" ["thing"] (0 + 1) NoC := dz_no F_x_law_kinds g_x_law_kinds b_x_law_kinds sc_x_law_kinds NoC fun _ _ _ h => h
      have A1 : Dn P w K mg base Tb "_law_kinds" ["thing"] (1 + 1) (KdC 0) := dz_of F_x_law_kinds g_x_law_kinds b_x_law_kinds sc_x_law_kinds (fun a ws S h => by first | (obtain ⟨e, _⟩ := h; rw [e]; rfl) | (obtain ⟨e, hl, _⟩ := h; rw [e]; exact hl) | (obtain ⟨_, e, _⟩ := h; rw [e]; rfl) | (have h : ws = _ := h; rw [h]; rfl)) (fun cdv A outer s H E hr => es_x_law_kinds Z (N1.mono (by omega)) cdv A outer s H E hr) (vd_kinds (n := 0) (CT := NoC) (fun e h => by omega))
      exact A1
    | succ n ih =>
      have A1 : Dn P w K mg base Tb "_law_kinds" ["thing"] ((2 + n) + 1) (KdC (n + 1)) := dz_of F_x_law_kinds g_x_law_kinds b_x_law_kinds sc_x_law_kinds (fun a ws S h => by first | (obtain ⟨e, _⟩ := h; rw [e]; rfl) | (obtain ⟨e, hl, _⟩ := h; rw [e]; exact hl) | (obtain ⟨_, e, _⟩ := h; rw [e]; rfl) | (have h : ws = _ := h; rw [h]; rfl)) (fun cdv A outer s H E hr => es_x_law_kinds Z (ih.mono (by omega)) cdv A outer s H E hr) (vd_kinds (n := n + 1) (CT := KdC n) (fun e h => by obtain rfl : e = n := (by omega); rfl))
      exact A1.mono (by omega)
  have D_x_law_kinds := O_x_law_kinds 200
  have D_x_law_right : Dn P w K mg base Tb "_law_right" ["thing", "text"] (203 + 1) (RightC) := dz_of F_x_law_right g_x_law_right b_x_law_right sc_x_law_right (fun a ws S h => by first | (obtain ⟨e, _⟩ := h; rw [e]; rfl) | (obtain ⟨e, hl, _⟩ := h; rw [e]; exact hl) | (obtain ⟨_, e, _⟩ := h; rw [e]; rfl) | (have h : ws = _ := h; rw [h]; rfl)) (fun cdv A outer s H E hr => es_x_law_right Z (D_written.mono (by omega)) (D_read.mono (by omega)) (D_x_law_kinds.mono (by omega)) (by omega) cdv A outer s H E hr) (vd_right)
  exact fz_of F_law sc_law (fun a ws S h => by first | (obtain ⟨e, _⟩ := h; rw [e]; rfl) | (obtain ⟨e, hl, _⟩ := h; rw [e]; exact hl) | (obtain ⟨_, e, _⟩ := h; rw [e]; rfl) | (have h : ws = _ := h; rw [h]; rfl)) (fun cdv A outer s H E hr => es_law Z (D_x_law_thing.mono (by omega)) (D_x_law_right.mono (by omega)) (D_x_law_text.mono (by omega)) (D_written.mono (by omega)) (D_x_law_leaf.mono (by omega)) (D_x_law_roll.mono (by omega)) (D_x_law_pick.mono (by omega)) cdv A outer s H E hr) (vd_law)
end E80
open PySem PySem.W PySem.Calls PyProof.Rows
theorem PySem.Challenge.cw_owedonce_k80_tuples_written_and_read_holds : PySem.Challenge.rw_owedonce_k80_tuples_written_and_read.Holds := by
  w_on; o_law
  k_head; (case hw => w_witness2)
  k_fill
  refine Ev.walk_y (l := PySem.Challenge.rw_owedonce_k80_tuples_written_and_read) (k := (210 + 1)) (hd := E80.hd) (fun w h Y => PySem.W.kIn_of Y) (fun w => by show E80.hd.obs _ = E80.hd.val w; kernel_rfl) E80.tabs [] ?hT (by rfl) rfl ⟨rfl, by decide, by decide⟩ ?hx ?F
  case hT =>
      intro x hx
      have hx : x ∈ ([] : List PySem.Str) := hx
      cases hx
  case hx =>
      intro K e x hx
      have e : (E80.tabs.all (Ev.tabOk K)) = true := e
      exact List.all_eq_true.mp e x hx
  case F =>
      intro w mg fa h K KX c G hmg0
      have hmg : mg ("law" : PySem.Str) = some (.ref fa) := hmg0
      exact E80.facts (P := PySem.Challenge.rw_owedonce_k80_tuples_written_and_read.prog) (w := w) KX c G hmg
