import PyProof.Rows.All
import Wide.All
import OpenK.AllK
import Wide.FinOn
import HandS.ForMost
import HandS.AnyAll
import HandS.IsInst
import HandS.Wide
import HandS.EndTab
import HandS.TupLe
import HandS.Walk
import HandS.Conv
import PySem.Challenge.RW_owedonce_k01_names
set_option Elab.async false
set_option linter.all false
set_option maxRecDepth 100000
set_option maxHeartbeats 4000000
namespace Ow
open PySem PySem.Spec PyProof.Rows L2
/-! ### the law's number source: a list of two ints -/
abbrev M61 : Int := 2305843009213693951
structure Fd (H : Hp) (p : Addr) : Prop where
  ex : ∃ d s : Int, H p = some (.lst [.int d, .int s]) ∧ 0 ≤ d ∧ 0 ≤ s ∧ s < M61
theorem same_upd {H : Hp} {p : Addr} {o : HO} (h : H p = none) : Same H (upd H p o) := fun b x e => by
  rw [upd_ne (ne_of_none e h)]
  exact e
/-- all but what stands at p is as it was -/
def But (p : Addr) (H H' : Hp) : Prop := ∀ b, b ≠ p → H' b = H b
theorem But.refl {p : Addr} {H : Hp} : But p H H := fun _ _ => rfl
theorem But.trans {p : Addr} {H H1 H2 : Hp} (a : But p H H1) (b : But p H1 H2) : But p H H2 := fun c h => (b c h).trans (a c h)
theorem But.upd {p : Addr} {H : Hp} {o : HO} : But p H (upd H p o) := fun _ h => upd_ne h
def spFeed (K : PySem.W.Frag) : Sp := fun vs H Q _ => ∃ (a : Addr) (ns : List Int) (k : Nat), vs = [.ref a, .int k] ∧ SqL K H a (ns.map V.int) ∧ k < 1000000 ∧
  ∀ p H', H p = none → Fd H' p → But p H H' → Q (.ref p) H'
def spTake : Sp := fun vs H Q _ => ∃ (p : Addr) (m : Int), vs = [.ref p, .int m] ∧ Fd H p ∧ 0 < m ∧ m < 1073741824 ∧
  ∀ r H', 0 ≤ r → r < m → Fd H' p → But p H H' → Q (.int r) H'
def spPickS : Sp := fun vs H Q _ => ∃ (p : Addr) (z : Str), vs = [.ref p, .str z] ∧ Fd H p ∧ 0 < z.length ∧ z.length < 1000000 ∧
  ∀ c H', c ∈ z.cps.toList → Fd H' p → But p H H' → Q (.str ⟨#[c]⟩) H'
def spPickL (K : PySem.W.Frag) : Sp := fun vs H Q _ => ∃ (p q : Addr) (xs : List V), vs = [.ref p, .ref q] ∧ p ≠ q ∧ (SqL K H q xs ∨ SqT K H q xs) ∧ Fd H p ∧ 0 < xs.length ∧ xs.length < 1000000 ∧
  ∀ x H', x ∈ xs → Fd H' p → But p H H' → Q x H'
def spPick (K : PySem.W.Frag) : Sp := fun vs H Q E => spPickS vs H Q E ∨ spPickL K vs H Q E
theorem line_ge : 1000000 ≤ sizeLine := by decide
/-! ### texts of one sign -/
theorem lt_one (a b : Nat) : decide ([a] < [b]) = decide (a < b) := by
  by_cases h : a < b
  · rw [decide_eq_true h, decide_eq_true (List.cons_lt_cons_iff.mpr (.inl h))]
  · rw [decide_eq_false h, decide_eq_false]
    intro z
    rcases List.cons_lt_cons_iff.mp z with z | ⟨_, z⟩
    · exact h z
    · exact absurd z (List.not_lt_nil _)
theorem elt_az {prog : Program} {w : World} {scope : Scope} {x lo hi : Str} {j1 j2 : Nat} {p1 p2 p3 p4 : Pos} (hk : scope.kind = .function) (hl : scope.names.lookup x = some .local) (hd : (x == ("__debug__" : Str)) = false := by decide) :
    GxR.EltP prog w scope x (.Compare (.Constant (.str lo) j1 p1) [.LtE, .LtE] [.Name x p2, .Constant (.str hi) j2 p3] p4) (fun c => !decide ([c] < lo.cps.toList) && !decide (hi.cps.toList < [c])) := by
  intro cenv A' E' c t s₂ m₂ hs hn hm
  refine Compare_chain (Calls.Constant_str (chain_link ?_)) rfl
  refine wpAny_Name (wpAny_loadName_local (by rw [hs]; exact hk) (show cenv.scope.names.lookup x = some .local by rw [hs]; exact hl) hn hm ?_) hd
  refine PySem.P.le_str ?_
  refine wpAny_truthy_bool ?_
  cases e : decide ([c] < lo.cps.toList) with
  | true =>
    have z : [c] < lo.cps.toList := of_decide_eq_true e
    simp only [z, decide_true, Bool.not_true, Bool.false_eq_true, if_false, Bool.false_and]
    exact ⟨trivial, GxR.keeps_tok _ _⟩
  | false =>
    have z : ¬ [c] < lo.cps.toList := of_decide_eq_false e
    simp only [z, decide_false, Bool.not_false, if_true, Bool.true_and]
    refine chain_last (Calls.Constant_str ?_)
    exact PySem.P.le_str ⟨rfl, GxR.keeps_tok _ _⟩
theorem fn_code {P : Program} {w : World} {K : PySem.W.Frag} {mg : Str → Option Value} {base : Heap} {x qual : Str} {st : Stmt} {f c : Addr} {N ps : List Str} {k : Nat} {sp : Sp} {oc : Value} {od an : Option Addr} {osl : Array (Option Value)} {kV doc pm ct : Value}
    (lk : K.lookup f = some ⟨oc, od, .func (PySem.W.fnOf x qual (defArgs st) (defBody st) (defScope st) .none kV doc pm an (.ref c) ct), osl⟩) (hcd : PySem.W.codeIn K (.ref c) qual = true) (S : FnScope N ps (defScope st)) (len : ∀ vs H Q E, sp vs H Q E → vs.length = ps.length)
    (hbody : ∀ (A : Around) (outer : List Env) (s : Shared) (H : Hp) (vs : List V) (Q : VK) (E : XK), Room k (A.deeper (envOfC qual (defScope st) s.heap.objs.size f (.ref c))) → sp vs H Q E →
      ∃ t, PSs (cxOf CX0 P w K mg base N qual (defScope st) f (.ref c) A outer s H E).nox (defBody st) t ∧ t { nx := fun _ H' => Q .non H', rt := Q } (start N vs) H) :
    FnOk P w K mg base CX0 (k + 1) f (PySem.W.fnOf x qual (defArgs st) (defBody st) (defScope st) .none kV doc pm an (.ref c) ct) ps sp := by
  refine fn_of lk hcd S len fun A outer s H vs Q E hr hsp => ?_
  obtain ⟨t, h, q⟩ := hbody A outer s H vs Q E hr hsp
  exact ⟨t, h.nox, q⟩
/-! ### is_name -/
def isNm (z : Str) : Bool := decide (1 ≤ z.length ∧ z.length ≤ 8) && z.cps.toList.all fun c => decide (97 ≤ c ∧ c ≤ 122)
/-- x is no text, of the type t -/
def NoStr (K : PySem.W.Frag) (H : Hp) (x : V) : Prop := ∃ t, TyX K H x t ∧ PySem.W.kitOne K t (.type "str") = some false
def spName (K : PySem.W.Frag) (T : Addr) : Sp := fun vs H Q _ => ∃ x, vs = [x] ∧ GxR.TabG H T ∧ ((∃ z, x = .str z ∧ z.length ≤ sizeLine ∧ ∀ H2, GxR.Tabbed T H H2 → Q (.bl (isNm z)) H2) ∨ (NoStr K H x ∧ Q (.bl false) H))
theorem az_eq (c : Nat) : (!decide ([c] < [97]) && !decide ([122] < [c])) = decide (97 ≤ c ∧ c ≤ 122) := by
  rw [lt_one, lt_one]
  by_cases h1 : 97 ≤ c
  · by_cases h2 : c ≤ 122
    · rw [decide_eq_false (show ¬ c < 97 by omega), decide_eq_false (show ¬ 122 < c by omega), decide_eq_true ⟨h1, h2⟩]
      rfl
    · rw [decide_eq_true (show 122 < c by omega), decide_eq_false (show ¬ (97 ≤ c ∧ c ≤ 122) by omega), Bool.not_true, Bool.and_false]
  · rw [decide_eq_true (show c < 97 by omega), decide_eq_false (show ¬ (97 ≤ c ∧ c ≤ 122) by omega)]
    rfl
theorem tab_refl {T : Addr} {H : Hp} (h : GxR.TabG H T) : GxR.Tabbed T H H := ⟨h, fun _ _ => rfl⟩
end Ow
namespace Ow
open PySem PySem.Spec PyProof.Rows L2
/-- text * 2 -/
theorem op_mul_str2 {X : Cx} : OpR X (binaryOp .Mult) (fun x y H Q => ∃ (z : Str), x = .str z ∧ y = .int 2 ∧ z.length ≤ 1000 ∧ Q (.str (z ++ z)) H) := by
  intro pins s σ H x y v u Q I rx ry h
  obtain ⟨z, rfl, rfl, hz, q⟩ := h
  obtain ⟨t, rfl⟩ := rx
  obtain ⟨t', rfl⟩ := ry
  refine PySem.P.mul_str (by decide) (fun _ _ => ?_) (fun _ _ => ?_) ?_
  · have : ((2 ^ 63 - 1) / 2 : Int) = 4611686018427387903 := by decide
    rw [this]
    omega
  · refine decide_eq_false ?_
    have : (2 : Int).toNat = 2 := rfl
    rw [this]
    have := line_ge
    show ¬ (z.length * 2 > sizeLine)
    omega
  · rw [if_neg (by decide)]
    by_cases e : ((2 : Int) == 1 || z.length == 0) = true
    · rw [if_pos e]
      have e0 : z.length = 0 := by
        simpa using e
      have ez : z ++ z = z := by
        obtain ⟨c⟩ := z
        have : c = #[] := Array.eq_empty_of_size_eq_zero e0
        subst this
        rfl
      refine ⟨.str z, H, I, ⟨_, rfl⟩, ?_⟩
      rw [← ez]
      exact q
    · rw [if_neg e]
      have ez : (⟨(List.replicate (2 : Int).toNat z.cps).foldl (· ++ ·) #[]⟩ : Str) = z ++ z := by
        show (⟨(#[] ++ z.cps) ++ z.cps⟩ : Str) = ⟨z.cps ++ z.cps⟩
        rw [Array.empty_append]
      rw [ez]
      refine ⟨?_, .str (z ++ z), H, I.tok _, ⟨_, rfl⟩, q⟩
      have h1 := line_ge
      have h2 : (z ++ z).length = z.length + z.length := Array.size_append
      omega
/-- list(text) -/
def signs (z : Str) : List V := z.cps.toList.map fun c => .str ⟨#[c]⟩
theorem call_list_text {X : Cx} (hc : X.calm = true) : CallR X (.type "list") (fun xs H Q => ∃ z, xs = [.str z] ∧ z.length ≤ sizeLine ∧ ∀ l, H l = none → Q (.ref l) (upd H l (.lst (signs z)))) := by
  intro pins s σ H xs us Q I r h
  obtain ⟨z, rfl, hz, q⟩ := h
  obtain ⟨u, rfl, rx⟩ := vals1 r
  obtain ⟨t, rfl⟩ := rx
  have el : (signs z).length = z.length := by
    unfold signs
    rw [List.length_map]
    simp [Str.length]
  refine PySem.call_list_str (I.ok.hd hc) z t (fun h' tk acc' c' hkeep hS hacc => ?_) hz
  refine ⟨.ref s.heap.objs.size, upd H s.heap.objs.size (.lst (signs z)), I.laid hkeep (Nat.le_refl _) (show ObjOk X.prog X.w _ _ _ (.lst (signs z)) from ⟨?_, acc'.toList, c', ?_, ?_⟩), rfl, q _ (I.hok.fresh (Nat.le_refl _))⟩
  · rw [el]
    exact hz
  · have ea : acc'.toList.length = acc'.size := by simp
    refine vals_of_at (by rw [ea, hacc.1, el]; rfl) fun j x w h1 h2 => ?_
    obtain ⟨c, t2, hc1, e⟩ := hacc.2 j w (by rw [← Array.getElem?_toList]; exact h2)
    subst e
    unfold signs at h1
    rw [List.getElem?_map, Array.getElem?_toList, hc1] at h1
    cases h1
    exact ⟨_, rfl⟩
  · rw [Array.toArray_toList]
    exact hS
end Ow
namespace Ow
open PySem PySem.Spec PyProof.Rows L2
/-- but for the table at T all that stood stands -/
structure SB (T : Addr) (H H' : Hp) : Prop where
  sb : ∀ b o, b ≠ T → H b = some o → H' b = some o
  tab : GxR.TabG H' T
section
variable {T : Addr} {H H0 H1 H2 : Hp}
theorem SB.refl (h : GxR.TabG H T) : SB T H H := ⟨fun _ _ _ e => e, h⟩
theorem SB.trans (x : SB T H H1) (y : SB T H1 H2) : SB T H H2 := ⟨fun b o n e => y.sb b o n (x.sb b o n e), y.tab⟩
theorem tab_ne {b : Addr} {o : HO} (h : GxR.TabG H T) (e : H b = some o) (n : ∀ ps, o ≠ .tbl ps) : b ≠ T := by
  obtain ⟨ps, h1, _⟩ := h
  exact ne_of e h1 (n ps)
theorem tab_upd {l : Addr} {o : HO} (h : GxR.TabG H T) (hl : l ≠ T) : GxR.TabG (upd H l o) T := by
  obtain ⟨ps, h1, h2⟩ := h
  exact ⟨ps, by rw [upd_ne hl.symm]; exact h1, h2⟩
theorem tab_new {l : Addr} (h : GxR.TabG H T) (hl : H l = none) : l ≠ T := by
  obtain ⟨ps, h1, h2⟩ := h
  exact (ne_of_none h1 hl).symm
theorem SB.new {l : Addr} {o : HO} (x : SB T H H1) (hl : H1 l = none) : SB T H (upd H1 l o) :=
  ⟨fun b u n e => by
    rw [upd_ne (ne_of_none (x.sb b u n e) hl)]
    exact x.sb b u n e, tab_upd x.tab (tab_new x.tab hl)⟩
/-- what is new since H may be changed -/
theorem SB.set {l : Addr} {o : HO} (x : SB T H H1) (hl : H l = none) (ht : l ≠ T) : SB T H (upd H1 l o) :=
  ⟨fun b u n e => by
    rw [upd_ne (ne_of_none e hl)]
    exact x.sb b u n e, tab_upd x.tab ht⟩
theorem SB.but {p : Addr} (x : SB T H H1) (hp : H p = none) (ht : p ≠ T) (b : But p H1 H2) : SB T H H2 :=
  ⟨fun c u n e => by
    rw [b c (ne_of_none e hp)]
    exact x.sb c u n e, by
    obtain ⟨ps, h1, h2⟩ := x.tab
    exact ⟨ps, by rw [b T ht.symm]; exact h1, h2⟩⟩
theorem SB.tabd (x : SB T H H1) (t : GxR.Tabbed T H1 H2) : SB T H H2 :=
  ⟨fun b o n e => by
    rw [t.2 b n]
    exact x.sb b o n e, t.1⟩
theorem SB.sq {K : PySem.W.Frag} {a : Addr} {xs : List V} (x : SB T H H1) (t : GxR.TabG H T) (h : SqL K H a xs) : SqL K H1 a xs := by
  rcases h with (h | ⟨o, h⟩) | h
  · exact .inl (.inl (x.sb _ _ (tab_ne t h (fun _ z => by cases z)) h))
  · exact .inl (.inr ⟨o, x.sb _ _ (tab_ne t h (fun _ z => by cases z)) h⟩)
  · exact .inr h
theorem SB.fd {p : Addr} (x : SB T H H1) (t : GxR.TabG H T) (h : Fd H p) : Fd H1 p := by
  obtain ⟨d, s, e, r⟩ := h
  exact ⟨d, s, x.sb _ _ (tab_ne t e (fun _ z => by cases z)) e, r⟩
theorem Fd.ne {p : Addr} (h : Fd H p) (t : GxR.TabG H T) : p ≠ T := by
  obtain ⟨d, s, e, r⟩ := h
  exact tab_ne t e (fun _ z => by cases z)
theorem SB.none (x : SB T H H1) (t : GxR.TabG H T) {l : Addr} (h : H1 l = none) : H l = none := by
  cases e : H l with
  | none => rfl
  | some o =>
    by_cases n : l = T
    · subst n
      obtain ⟨ps, h1, _⟩ := x.tab
      rw [h1] at h
      cases h
    · rw [x.sb l o n e] at h
      cases h
end
end Ow
namespace Ow
open PySem PySem.Spec PyProof.Rows L2
def one (c : Nat) : Str := ⟨#[c]⟩
theorem len_cps (z : Str) : z.cps.toList.length = z.length := by simp [Str.length]
theorem join_one : ∀ zs : List Nat, (Str.join ⟨#[]⟩ (zs.map one)).cps.toList = zs
  | [] => rfl
  | [c] => rfl
  | c :: d :: r => by
    have ih := join_one (d :: r)
    show ((#[c] ++ #[]) ++ (Str.join ⟨#[]⟩ ((d :: r).map one)).cps).toList = _
    rw [Array.toList_append, ih]
    rfl
theorem sum_one : ∀ zs : List Nat, (((zs.map one).map (·.length)).sum : Nat) = zs.length
  | [] => rfl
  | c :: r => by
    show 1 + ((r.map one).map (·.length)).sum = r.length + 1
    rw [sum_one r]
    omega
theorem cutS_len (z : Str) (lo hi : Option Int) : (cutS z lo hi).length ≤ z.length := by
  have e : (cutS z lo hi).length = (cutS z lo hi).cps.toList.length := (len_cps _).symm
  rw [e]
  unfold cutS
  rw [List.toList_toArray, List.length_take, List.length_drop, len_cps]
  omega
theorem app_len (x y : Str) : (x ++ y).length = x.length + y.length := Array.size_append
def az : List Nat := [97, 98, 99, 100, 101, 102, 103, 104, 105, 106, 107, 108, 109, 110, 111, 112, 113, 114, 115, 116, 117, 118, 119, 120, 121, 122]
theorem mem_az (c : Nat) : c ∈ az ↔ 97 ≤ c ∧ c ≤ 122 := by
  unfold az
  simp only [List.mem_cons, List.not_mem_nil, or_false]
  omega
theorem dec_az (c : Nat) : decide (c ∈ az) = decide (97 ≤ c ∧ c ≤ 122) := decide_eq_decide.mpr (mem_az c)
end Ow
namespace Ow
open PySem PySem.Spec PyProof.Rows L2
/-- signs below 128 -/
def Lo (z : Str) : Prop := ∀ c ∈ z.cps.toList, c < 128
theorem Lo.app {x y : Str} (a : Lo x) (b : Lo y) : Lo (x ++ y) := by
  intro c hc
  have e : (x ++ y).cps.toList = x.cps.toList ++ y.cps.toList := Array.toList_append
  rw [e] at hc
  rcases List.mem_append.mp hc with h | h
  · exact a c h
  · exact b c h
theorem Lo.cut {x : Str} (a : Lo x) (lo hi : Option Int) : Lo (cutS x lo hi) := by
  intro c hc
  unfold cutS at hc
  rw [List.toList_toArray] at hc
  exact a c (List.mem_of_mem_drop (List.mem_of_mem_take hc))
def sg (c : Nat) : V := .str ⟨#[c]⟩
theorem dp_signs {K : PySem.W.Frag} {H : Hp} : ∀ l : List Nat, DpAll K H (l.map sg) (l.map fun c => PyData.str ⟨#[c]⟩)
  | [] => .nil
  | _ :: r => .cons (.str _) (dp_signs r)
theorem lay_signs : ∀ l : List Nat, (∀ c ∈ l, c < 128) → PyData.canLayAll0 (l.map fun c => PyData.str ⟨#[c]⟩) = true
  | [], _ => by simp [PyData.canLayAll0]
  | c :: r, h => by
    have h1 : c < 128 := h c List.mem_cons_self
    have h2 := lay_signs r fun d hd => h d (List.mem_cons_of_mem _ hd)
    have h3 : PyData.strOk ⟨#[c]⟩ = true := by
      simp [PyData.strOk]
      omega
    rw [List.map_cons]
    unfold PyData.canLayAll0
    rw [h2, Bool.and_true]
    unfold PyData.canLay0
    exact h3
theorem depth_signs : ∀ l : List Nat, PyData.depthAll (l.map fun c => PyData.str ⟨#[c]⟩) = 0
  | [] => by simp [PyData.depthAll]
  | c :: r => by
    rw [List.map_cons]
    unfold PyData.depthAll
    rw [depth_signs r]
    simp [PyData.depth]
theorem shaped_signs {l : List Nat} (h : ∀ c ∈ l, c < 128) : SeqAt.shaped (.list (l.map fun c => PyData.str ⟨#[c]⟩)) = true := by
  unfold SeqAt.shaped
  rw [Bool.and_eq_true]
  constructor
  · unfold PyData.canLay0
    exact lay_signs l h
  · unfold PyData.depth
    rw [depth_signs l]
    decide
theorem eqv_nil : ∀ l : List PyData, PyData.eqv (.list l) (.list []) = l.isEmpty
  | [] => by simp [PyData.eqv, PyData.eqvAll]
  | _ :: _ => by simp [PyData.eqv, PyData.eqvAll]
theorem filt_nil (l : List Nat) : (l.filter fun c => !decide (c ∈ az)).isEmpty = l.all fun c => decide (97 ≤ c ∧ c ≤ 122) := by
  rw [Bool.eq_iff_iff, List.isEmpty_iff, List.filter_eq_nil_iff, List.all_eq_true]
  constructor
  · intro h c hc
    have := h c hc
    rw [dec_az] at this
    simpa using this
  · intro h c hc
    have := h c hc
    rw [dec_az, this]
    decide
theorem filt_step {l : List Nat} {j c : Nat} (h : l[j]? = some c) : ((l.take (j + 1)).filter fun c => !decide (c ∈ az)) = ((l.take j).filter fun c => !decide (c ∈ az)) ++ (if decide (c ∈ az) = true then [] else [c]) := by
  rw [List.take_add_one, h, List.filter_append]
  congr 1
  show List.filter _ [c] = _
  by_cases hc : c ∈ az
  · rw [decide_eq_true hc, if_pos rfl, List.filter_cons_of_neg (by rw [decide_eq_true hc]; decide)]
    rfl
  · rw [decide_eq_false hc, if_neg (by decide), List.filter_cons_of_pos (by rw [decide_eq_false hc]; decide)]
    rfl
end Ow
namespace Ow
open PySem PySem.Spec PyProof.Rows L2
/-- no text, told by the heap -/
def NoS (H : Hp) (x : V) : Prop := x = .non ∨ (∃ b, x = .bl b) ∨ (∃ i, x = .int i) ∨ ∃ a xs, x = .ref a ∧ (H a = some (.lst xs) ∨ H a = some (.tup xs))
theorem NoS.str {K : PySem.W.Frag} {H : Hp} {x : V} (h : NoS H x) : NoStr K H x := by
  rcases h with rfl | ⟨b, rfl⟩ | ⟨i, rfl⟩ | ⟨a, xs, rfl, h | h⟩
  · exact ⟨_, .base .non, kit_ty (by decide +kernel)⟩
  · exact ⟨_, .base (.bl _), kit_ty (by decide +kernel)⟩
  · exact ⟨_, .base (.int _), kit_ty (by decide +kernel)⟩
  · exact ⟨_, .base (.lst h), kit_ty (by decide +kernel)⟩
  · exact ⟨_, .base (.tup h), kit_ty (by decide +kernel)⟩
theorem NoS.sb {T : Addr} {H H' : Hp} {x : V} (h : NoS H x) (t : GxR.TabG H T) (b : SB T H H') : NoS H' x := by
  rcases h with rfl | ⟨c, rfl⟩ | ⟨i, rfl⟩ | ⟨a, xs, rfl, h | h⟩
  · exact .inl rfl
  · exact .inr (.inl ⟨_, rfl⟩)
  · exact .inr (.inr (.inl ⟨_, rfl⟩))
  · exact .inr (.inr (.inr ⟨a, xs, rfl, .inl (b.sb _ _ (tab_ne t h fun _ z => by cases z) h)⟩))
  · exact .inr (.inr (.inr ⟨a, xs, rfl, .inr (b.sb _ _ (tab_ne t h fun _ z => by cases z) h)⟩))
end Ow
namespace Ow
open PySem PySem.Spec PyProof.Rows L2 LamX
/-- what is known of the law's promise, where the tables of the defs are told -/
theorem walk_ofTab {l : PySem.W.OpenLaw} {n k : Nat} {q : Program} {loose : List Str} {XP : (Str → Option Value) → Heap → Prop} {YP : World → Heap → Prop} {d : DefRec} {K : Params → PySem.W.Frag} {CX : World → CXT} {x : Str}
    (hn : l.most = some n) (hn2 : n ≤ sizeLine) (hdf : d.params.defaults = []) (hr : Room k callerA) (hY : ∀ (w : World) (h : Heap), YP w h → (K w.params).In h)
    (F : ∀ (w : World) (mg : Str → Option Value) (fa : Addr) (h : Heap), (K w.params).In h → h.Ns mainGlobals mg → mg d.name = some (.ref fa) →
      (∀ (d' : DefRec) (x : Str) (c P : Addr), (recsOf q).find? (fun e => e.name == x) = some d' → PySem.W.tabIn (K w.params) x = some (c, P) → PySem.W.CodeHd h c P ∧ h.get? P = some { cls := .none, data := .fields #[] }) → LawAtS l w (K w.params) (CX w) k n x mg fa h)
    (hCX : ∀ (w : World) (H : Hp) (s : Shared) (e : Value) (s' : Shared), CX w [] H s (fun _ _ _ => False) e s' → False) :
    PySem.W.WalkO q loose XP YP l.row.toRowW d [] (fun f vs => PySem.call f vs) := by
  refine Att.attach_callB hn hdf fun w s₀ s₁ mg mb fa o pm cd doc a vs ns G Y ho hd hcd hmg hobj hints hlen hbits hg => ?_
  have KX := hY w _ Y
  obtain ⟨fd, cs, sp, hT, nT, C, hb, hsp, hF⟩ := F w mg fa _ KX G.T.g hmg (fun d' x c P hr ht => PySem.W.tab_of G.T KX hr ht)
  exact law_callTs KX G.T.g G.T.b G.T.builtins G.T.nolimit hg hT nT C G.T.bmain hobj hints (Nat.le_trans hlen hn2) hr hF hb (fun H hH hS => hsp H a ns hlen hbits hH hS) fun H e s' => hCX w H s₁ e s'
end Ow
namespace Ow
open PySem
theorem tab_mk {K : PySem.W.Frag} {x : Str} {f c P : Addr} {o1 o2 : Value} {d1 d2 : Option Addr} {s1 s2 : Array (Option Value)} {fd : FuncData} {vs : Array Value}
    (a : PySem.W.nsIn K mainGlobals x = some (some (.ref f))) (l : K.lookup f = some ⟨o1, d1, .func fd, s1⟩) (hc : fd.code = .ref c) (lc : K.lookup c = some ⟨o2, d2, .fields vs, s2⟩) (hv : vs[11]? = some (.ref P)) : PySem.W.tabIn K x = some (c, P) := by
  unfold PySem.W.tabIn
  rw [a]
  simp only [l, hc, lc, hv]
theorem tabB {base : Heap} {mg : Str → Option Value} {c P : Addr} (t : LamX.TabB base mg c P) : GxR.TabB base mg c P := ⟨t.code, t.bm, t.gP⟩
end Ow

set_option Elab.async false
set_option linter.all false
set_option maxRecDepth 100000
set_option maxHeartbeats 4000000
namespace OwK
open PySem PySem.Spec PyProof.Rows L2 Ow
def topS (i : Nat) : Stmt := PySem.Challenge.pw_owedonce_k01_names.main.body.getD i (.Pass ⟨0, 0, 0, 0⟩)
abbrev sFeed : Stmt := topS 4
abbrev sTake : Stmt := topS 5
abbrev sPick : Stmt := topS 6
theorem scFeed : FnScope ["script", "k", "cell", "digits", "state"] ["script", "k"] (defScope sFeed) := ⟨rfl, rfl, rfl, by decide +kernel, rfl, by decide +kernel, by decide +kernel⟩
theorem scTake : FnScope ["feed", "many", "found"] ["feed", "many"] (defScope sTake) := ⟨rfl, rfl, rfl, by decide +kernel, rfl, by decide +kernel, by decide +kernel⟩
theorem scPick : FnScope ["feed", "some"] ["feed", "some"] (defScope sPick) := ⟨rfl, rfl, rfl, by decide +kernel, rfl, by decide +kernel, by decide +kernel⟩
theorem max0 (i : Int) : (0 : Int) ≤ if i > 0 then i else 0 := by
  by_cases h : i > 0
  · rw [if_pos h]
    omega
  · rw [if_neg h]
    omega
section
variable {P : Program} {w : World} {K : PySem.W.Frag} {mg : Str → Option Value} {base : Heap}
theorem ok_feed {f : Addr} {fd : FuncData} {k : Nat} (F : Fun K "_law_feed" "_law_feed" sFeed f fd) (mLen : mg "len" = none) (mMax : mg "max" = none) (mAbs : mg "abs" = none) : FnOk P w K mg base CX0 (k + 1) f fd ["script", "k"] (spFeed K) := by
  refine F.ok scFeed (fun vs H Q E h => ?_) (fun cdv A outer s H vs Q E hr h => ?_)
  · obtain ⟨a, ns, k, rfl, _⟩ := h
    rfl
  · obtain ⟨a, ns, k, rfl, hS, hk, q⟩ := h
    refine ⟨_, pss_cons (ps_set (i := 2) scFeed.nd rfl (.inl rfl) (pe_ifExp (pt_cmpR op_lt (pv 1) (pe_callB call_len_seq (by rfl) mLen PySem.boot_len (pa_cons (pv 0) pa_nil)) (nomark _)) (pe_ix ix_list (pv 0) (pv 1) (fun _ _ => rfl)) (pe_op op_add (pe_op op_mul pe_int (pv 1)) pe_int)))
      (pss_cons (ps_set (i := 3) scFeed.nd rfl (.inl rfl) (pe_callB (call_max2 rfl) (by rfl) mMax (by decide +kernel) (pa_cons pe_int (pa_cons (pe_op op_sub (pe_callB call_abs (by rfl) mAbs (by decide +kernel) (pa_cons (pv 2) pa_nil)) (pe_op op_pow pe_int pe_int)) pa_nil))))
      (pss_cons (ps_set (i := 4) scFeed.nd rfl (.inl rfl) (pe_op op_mod (pe_op op_add (pe_op op_add (pe_op op_mul (pv 2) pe_int) (pe_op op_mul pe_int (pv 1))) pe_int) pe_int))
      (pss_one (ps_ret (pe_lst (pa_cons (pv 3) (pa_cons (pv 4) pa_nil))))))), ?_⟩
    refine ⟨_, rfl, _, rfl, a, _, rfl, .inl hS, _, _, rfl, rfl, _, rfl, ite2 (fun e => ?_) (fun e => ?_)⟩
    · have e1 : k < ns.length := by
        have e2 := of_decide_eq_true e
        rw [List.length_map] at e2
        omega
      have g : (ns.map V.int)[k]? = some (.int ns[k]) := by
        rw [List.getElem?_map, List.getElem?_eq_getElem e1]
        rfl
      refine ⟨_, rfl, _, rfl, a, _, _, _, rfl, rfl, hS, atI_nat (j := k) g, ?_⟩
      refine ⟨_, rfl, _, rfl, _, _, rfl, rfl, ⟨by decide, by decide, by decide⟩, _, _, rfl, rfl, _, _, rfl, ?_⟩
      refine ⟨_, rfl, _, _, rfl, rfl, .inr (by decide), _, rfl, _, _, rfl, rfl, .inl (by decide), _, _, rfl, rfl, _, _, rfl, rfl, _, _, rfl, rfl, by show (0 : Int) < 2305843009213693951; decide, ?_⟩
      refine ⟨_, rfl, _, rfl, (by show 2 ≤ sizeLine; decide), fun l hl => q l _ hl ⟨_, _, upd_same, ?_, Int.emod_nonneg _ (by decide), Int.emod_lt_of_pos _ (by decide)⟩ But.upd⟩
      exact max0 _
    · refine ⟨_, rfl, _, _, rfl, rfl, .inl (by decide), _, _, rfl, rfl, ?_⟩
      refine ⟨_, rfl, _, rfl, _, _, rfl, rfl, ⟨by decide, by decide, by decide⟩, _, _, rfl, rfl, _, _, rfl, ?_⟩
      refine ⟨_, rfl, _, _, rfl, rfl, .inr (by decide), _, rfl, _, _, rfl, rfl, .inl (by decide), _, _, rfl, rfl, _, _, rfl, rfl, _, _, rfl, rfl, by show (0 : Int) < 2305843009213693951; decide, ?_⟩
      refine ⟨_, rfl, _, rfl, (by show 2 ≤ sizeLine; decide), fun l hl => q l _ hl ⟨_, _, upd_same, ?_, Int.emod_nonneg _ (by decide), Int.emod_lt_of_pos _ (by decide)⟩ But.upd⟩
      exact max0 _
theorem ok_take {f : Addr} {fd : FuncData} {k : Nat} (F : Fun K "_law_take" "_law_take" sTake f fd) : FnOk P w K mg base CX0 (k + 1) f fd ["feed", "many"] spTake := by
  refine F.ok scTake (fun vs H Q E h => ?_) (fun cdv A outer s H vs Q E hr h => ?_)
  · obtain ⟨a, m, rfl, _⟩ := h
    rfl
  · obtain ⟨p, m, rfl, ⟨d, st, hp, hd, hs1, hs2⟩, hm1, hm2, q⟩ := h
    refine ⟨_, pss_cons (ps_if (pt_cmpR op_gt (pe_ix ix_list (pv 0) pe_int (fun _ _ => rfl)) pe_int (nomark _))
        (pss_cons (ps_set (i := 2) scTake.nd rfl (.inl rfl) (pe_op op_mod (pe_ix ix_list (pv 0) pe_int (fun _ _ => rfl)) (pv 1)))
        (pss_cons (ps_asg (pe_op op_fdiv (pe_ix ix_list (pv 0) pe_int (fun _ _ => rfl)) (pv 1)) (pg_sub (pv 0) pe_int set_list))
        (pss_one (ps_ret (pv 2))))) pss_nil)
      (pss_cons (ps_asg (pe_op op_mod (pe_op op_add (pe_op op_mul (pe_ix ix_list (pv 0) pe_int (fun _ _ => rfl)) pe_int) pe_int) pe_int) (pg_sub (pv 0) pe_int set_list))
      (pss_one (ps_ret (pe_op op_mod (pe_op op_fdiv (pe_ix ix_list (pv 0) pe_int (fun _ _ => rfl)) pe_int) (pv 1))))), ?_⟩
    refine ⟨_, rfl, p, _, _, _, rfl, rfl, SqL.of hp, atI_nat (j := 0) rfl, _, _, rfl, rfl, _, rfl, ite2 (fun e => ?_) (fun e => ?_)⟩
    · refine ⟨_, rfl, p, _, _, _, rfl, rfl, SqL.of hp, atI_nat (j := 0) rfl, _, rfl, _, _, rfl, rfl, hm1, ?_⟩
      refine ⟨_, rfl, p, _, _, _, rfl, rfl, SqL.of hp, atI_nat (j := 0) rfl, _, rfl, _, _, rfl, rfl, ⟨hm1, hm2⟩, ?_⟩
      refine ⟨_, rfl, p, _, _, 0, rfl, rfl, hp, rfl, ?_⟩
      refine ⟨_, rfl, q _ _ (Int.emod_nonneg _ (by omega)) (Int.emod_lt_of_pos _ hm1) ⟨_, _, upd_same, Int.ediv_nonneg hd (by omega), hs1, hs2⟩ But.upd⟩
    · refine ⟨_, rfl, p, _, _, _, rfl, rfl, SqL.of hp, atI_nat (j := 1) rfl, _, _, rfl, rfl, .inr (by decide), _, _, rfl, rfl, _, _, rfl, rfl, by show (0 : Int) < 2305843009213693951; decide, ?_⟩
      refine ⟨_, rfl, p, _, _, 1, rfl, rfl, hp, rfl, ?_⟩
      refine ⟨_, rfl, p, _, _, _, rfl, rfl, SqL.of upd_same, atI_nat (j := 1) rfl, _, _, rfl, rfl, ⟨by decide, by decide⟩, _, rfl, _, _, rfl, rfl, hm1, ?_⟩
      exact q _ _ (Int.emod_nonneg _ (by omega)) (Int.emod_lt_of_pos _ hm1) ⟨_, _, upd_same, hd, Int.emod_nonneg _ (by decide), Int.emod_lt_of_pos _ (by decide)⟩ But.upd
theorem ok_pick {f fT : Addr} {fd fdT : FuncData} {k : Nat} (F : Fun K "_law_pick" "_law_pick" sPick f fd) (FT : Fun K "_law_take" "_law_take" sTake fT fdT) (bT : Binds K fdT ["feed", "many"] []) (gT : mg "_law_take" = some (.ref fT)) (mLen : mg "len" = none) :
    FnOk P w K mg base CX0 (k + 2) f fd ["feed", "some"] (spPick K) := by
  have GT : FnOk P w K mg base CX0 (k + 1) fT fdT ["feed", "many"] spTake := ok_take FT
  refine F.ok scPick (fun vs H Q E h => ?_) (fun cdv A outer s H vs Q E hr h => ?_)
  · rcases h with ⟨a, m, rfl, _⟩ | ⟨a, m, xs, rfl, _⟩
    · rfl
    · rfl
  · rcases h with ⟨p, z, rfl, hp, hz1, hz2, q⟩ | ⟨p, a, xs, rfl, np, hS, hp, hz1, hz2, q⟩
    · refine ⟨_, pss_one (ps_ret (pe_ix ix_str (pv 1) (pe_call GT hr (by rfl) gT FT.kp bT .nil pass0 (pa_cons (pv 0) (pa_cons (pe_callB call_len_str (by rfl) mLen PySem.boot_len (pa_cons (pv 1) pa_nil)) pa_nil))) (fun _ _ => rfl))), ?_⟩
      have hl : z.length ≤ sizeLine := Nat.le_trans (by omega) line_ge
      refine ⟨_, rfl, _, rfl, _, rfl, _, rfl, hl, p, _, rfl, hp, by omega, by omega, fun r H' r0 r1 hp' hb => ?_⟩
      obtain ⟨c, hc⟩ : ∃ c, z.cps.toList[r.toNat]? = some c := ⟨_, List.getElem?_eq_getElem (by
        have : z.cps.toList.length = z.length := by simp [Str.length]
        omega)⟩
      refine ⟨z, r, c, rfl, rfl, hl, ?_, q c H' (List.mem_of_getElem? hc) hp' hb⟩
      have := atI_nat hc
      rwa [Int.toNat_of_nonneg r0] at this
    · refine ⟨_, pss_one (ps_ret (pe_ix ix_seq (pv 1) (pe_call GT hr (by rfl) gT FT.kp bT .nil pass0 (pa_cons (pv 0) (pa_cons (pe_callB call_len_seq (by rfl) mLen PySem.boot_len (pa_cons (pv 1) pa_nil)) pa_nil))) (fun _ _ => rfl))), ?_⟩
      refine ⟨_, rfl, _, rfl, _, rfl, _, _, rfl, hS, p, _, rfl, hp, by omega, by omega, fun r H' r0 r1 hp' hb => ?_⟩
      obtain ⟨x, hx⟩ : ∃ x, xs[r.toNat]? = some x := ⟨_, List.getElem?_eq_getElem (by omega)⟩
      have hx' : atI xs r = some x := by
        have := atI_nat hx
        rwa [Int.toNat_of_nonneg r0] at this
      have qx := q x H' (List.mem_of_getElem? hx) hp' hb
      rcases hS with hS | hS
      · refine .inl ⟨a, xs, r, x, rfl, rfl, ?_, hx', qx⟩
        rcases hS with (h | ⟨o, h⟩) | h
        · exact .inl (.inl (by rw [hb a np.symm]; exact h))
        · exact .inl (.inr ⟨o, by rw [hb a np.symm]; exact h⟩)
        · exact .inr h
      · refine .inr (.inl ⟨a, xs, r, x, rfl, rfl, ?_, hx', qx⟩)
        rcases hS with (h | ⟨o, h⟩) | h
        · exact .inl (.inl (by rw [hb a np.symm]; exact h))
        · exact .inl (.inr ⟨o, by rw [hb a np.symm]; exact h⟩)
        · exact .inr h
end
end OwK

set_option Elab.async false
set_option linter.all false
set_option maxRecDepth 100000
set_option maxHeartbeats 4000000
namespace OwK
open PySem PySem.Spec PyProof.Rows L2 Ow
abbrev sName : Stmt := topS 2
theorem scName : FnScope ["thing"] ["thing"] (defScope sName) := ⟨rfl, rfl, rfl, by decide +kernel, rfl, by decide +kernel, by decide +kernel⟩
section
variable {P : Program} {w : World} {K : PySem.W.Frag} {mg : Str → Option Value} {base : Heap}
theorem ok_name {f c T : Addr} {k : Nat} {oc : Value} {od an : Option Addr} {osl : Array (Option Value)} {kV doc pm ct : Value} {tk : Tok}
    (lk : K.lookup f = some ⟨oc, od, .func (PySem.W.fnOf "is_name" "is_name" (defArgs sName) (defBody sName) (defScope sName) .none kV doc pm an (.ref c) ct), osl⟩) (hcd : PySem.W.codeIn K (.ref c) "is_name" = true)
    (TB : GxR.TabB base mg c T) (mIsi : mg "isinstance" = none) (mStr : mg "str" = none) (mLen : mg "len" = none) (mAll : mg "all" = none) (gM : mg "MOST_LETTERS" = some (.int 8 tk)) :
    FnOk P w K mg base CX0 (k + 1) f (PySem.W.fnOf "is_name" "is_name" (defArgs sName) (defBody sName) (defScope sName) .none kV doc pm an (.ref c) ct) ["thing"] (spName K T) := by
  refine fn_code lk hcd scName (fun vs H Q E h => ?_) (fun A outer s H vs Q E hr h => ?_)
  · obtain ⟨x, rfl, _⟩ := h
    rfl
  · obtain ⟨x, rfl, hT, h⟩ := h
    refine ⟨_, pss_cons (ps_if (PW.pt (pw_or (pt_not (pt_val (pe_callB call_isi (by rfl) mIsi boot_isinstance (pa_cons (pv 0) (pa_cons (pe_bltn (v := .ty "str") (by rfl) mStr boot_str rfl) pa_nil))))) (pw_or1 (pt_not (pt_chain op_le op_le pe_int (pe_callB call_len_str (by rfl) mLen PySem.boot_len (pa_cons (pv 0) pa_nil)) (pe_glob (v := .int 8) (by rfl) gM ⟨_, rfl⟩))))))
        (pss_one (ps_ret pe_bl)) pss_nil)
      (pss_one (ps_ret (GxR.pe_allS (c := c) hr (by rfl) mAll (by decide +kernel) TB rfl ⟨rfl, rfl, by decide +kernel, rfl, rfl, fun y hy e => absurd e ((by decide +kernel : ∀ y ∈ _, y.2 ≠ NameKind.free) y hy)⟩ (pv 0) (elt_az rfl rfl) (fun _ => rfl)))), ?_⟩
    rcases h with ⟨z, rfl, hz, q⟩ | ⟨⟨t, ty, kt⟩, q⟩
    · refine ⟨_, rfl, _, _, _, _, true, rfl, .ty _, .base (.str _), kit_ty (by decide +kernel), _, rfl, ?_⟩
      refine iteF ?_
      by_cases h1 : (1 : Int) ≤ z.length
      · refine ⟨_, rfl, z, rfl, hz, _, _, rfl, rfl, _, rfl, ?_⟩
        refine (if_pos (decide_eq_true h1)).mpr ?_
        refine ⟨_, _, rfl, rfl, _, rfl, ?_⟩
        by_cases h8 : (z.length : Int) ≤ 8
        · rw [decide_eq_true h8]
          refine iteF ?_
          refine ⟨_, rfl, z, rfl, hT, fun H2 t2 => ?_⟩
          have e : isNm z = z.cps.toList.all (fun c => !decide ([c] < (Str.ofString "a").cps.toList) && !decide ((Str.ofString "z").cps.toList < [c])) := by
            unfold isNm
            rw [decide_eq_true (show 1 ≤ z.length ∧ z.length ≤ 8 by omega), Bool.true_and]
            exact congrArg (fun p => z.cps.toList.all p) (funext fun c => (az_eq c).symm)
          rw [← e]
          exact q H2 t2
        · rw [decide_eq_false h8]
          refine iteT ?_
          have e : isNm z = false := by
            unfold isNm
            rw [decide_eq_false (show ¬ (1 ≤ z.length ∧ z.length ≤ 8) by omega), Bool.false_and]
          rw [← e]
          exact q H (tab_refl hT)
      · refine ⟨_, rfl, z, rfl, hz, _, _, rfl, rfl, _, rfl, ?_⟩
        refine (if_neg (by rw [decide_eq_false h1]; decide)).mpr ?_
        refine ⟨_, rfl, ?_⟩
        refine iteT ?_
        have e : isNm z = false := by
          unfold isNm
          rw [decide_eq_false (show ¬ (1 ≤ z.length ∧ z.length ≤ 8) by omega), Bool.false_and]
        rw [← e]
        exact q H (tab_refl hT)
    · refine ⟨_, rfl, _, _, _, _, false, rfl, .ty _, ty, kt, _, rfl, ?_⟩
      refine iteT ?_
      exact q
end
end OwK

set_option Elab.async false
set_option linter.all false
set_option maxRecDepth 100000
set_option maxHeartbeats 8000000
namespace OwK
open PySem PySem.Spec PyProof.Rows L2 Ow
abbrev sLaw : Stmt := topS 7
abbrev NL : List Str := ["script", "letters", "k", "feed", "text", "at", "sign", "thing", "due", "found", "turn", "one"]
theorem scLaw : FnScope NL ["script"] (defScope sLaw) := ⟨rfl, rfl, rfl, by decide +kernel, rfl, by decide +kernel, by decide +kernel⟩
theorem mm {n : Int} (h : 0 ≤ n) : (3 ≤ if (if n < 12 then n else 12) > 3 then (if n < 12 then n else 12) else 3) ∧ (if (if n < 12 then n else 12) > 3 then (if n < 12 then n else 12) else 3) ≤ 12 := by
  repeat' split
  all_goals omega
structure Mg (mg : Str → Option Value) (fF fT fP fN : Addr) : Prop where
  range : mg "range" = none
  max : mg "max" = none
  min : mg "min" = none
  len : mg "len" = none
  isi : mg "isinstance" = none
  bool : mg "bool" = none
  list : mg "list" = none
  feed : mg "_law_feed" = some (.ref fF)
  take : mg "_law_take" = some (.ref fT)
  pick : mg "_law_pick" = some (.ref fP)
  name : mg "is_name" = some (.ref fN)
def spLaw (K : PySem.W.Frag) (T : Addr) : Sp := fun vs H Q _ => ∃ (a : Addr) (ns : List Int), vs = [.ref a] ∧ SqL K H a (ns.map V.int) ∧ ns.length ≤ 63 ∧ GxR.TabG H T ∧ ∀ H', Q (.bl true) H'
section
variable {P : Program} {w : World} {K : PySem.W.Frag} {mg : Str → Option Value} {base : Heap}
theorem ok_law {f fF fT fP fN T : Addr} {fd fdF fdT fdP fdN : FuncData} (F : Fun K "law" "law" sLaw f fd) (m : Mg mg fF fT fP fN)
    (GF : FnOk P w K mg base CX0 1 fF fdF ["script", "k"] (spFeed K)) (kF : PySem.W.keepIn K (.ref fF) = true) (bF : Binds K fdF ["script", "k"] [])
    (GT : FnOk P w K mg base CX0 1 fT fdT ["feed", "many"] spTake) (kT : PySem.W.keepIn K (.ref fT) = true) (bT : Binds K fdT ["feed", "many"] [])
    (GP : FnOk P w K mg base CX0 2 fP fdP ["feed", "some"] (spPick K)) (kP : PySem.W.keepIn K (.ref fP) = true) (bP : Binds K fdP ["feed", "some"] [])
    (GN : FnOk P w K mg base CX0 1 fN fdN ["thing"] (spName K T)) (kN : PySem.W.keepIn K (.ref fN) = true) (bN : Binds K fdN ["thing"] []) :
    FnOk P w K mg base CX0 3 f fd ["script"] (spLaw K T) := by
  refine F.ok scLaw (fun vs H Q E h => ?_) (fun cdv A outer s H vs Q E hr h => ?_)
  · obtain ⟨a, ns, rfl, _⟩ := h
    rfl
  · obtain ⟨a, ns, rfl, hS, hlen, hT, q⟩ := h
    have hr1 : Room 1 _ := hr.mono (by decide)
    refine ⟨_, pss_cons (ps_set (i := 1) scLaw.nd rfl (.inr rfl) pe_str)
      (pss_cons (ps_for PassesOwn.never rfl (pi_range1 (by rfl) m.range (pa_cons (pe_callB (call_max2 rfl) (by rfl) m.max (by decide +kernel) (pa_cons pe_int (pa_cons (pe_callB (call_min2 rfl) (by rfl) m.min (by decide +kernel) (pa_cons pe_int (pa_cons (pe_callB call_len_seq (by rfl) m.len PySem.boot_len (pa_cons (pv 0) pa_nil)) pa_nil))) pa_nil))) pa_nil))
        (pg_name (i := 2) scLaw.nd rfl (.inl rfl))
        (pss_cons (ps_set (i := 3) scLaw.nd rfl (.inr rfl) (pe_call GF hr1 (by rfl) m.feed kF bF .nil pass0 (pa_cons (pv 0) (pa_cons (pv 2) pa_nil))))
        (pss_cons (ps_set (i := 4) scLaw.nd rfl (.inl rfl) (pe_join pe_str (pe_lc (own := [("turn", 10)]) (g := gName 10) (tt := tYes) rfl scLaw.nd
            (pi_range1 (by rfl) m.range (pa_cons (pe_call GT hr1 (by rfl) m.take kT bT .nil pass0 (pa_cons (pv 3) (pa_cons pe_int pa_nil))) pa_nil))
            (blkOk_by (N := NL) (sc := defScope sLaw) (by decide +kernel)) (fun _ _ _ _ _ => pg_name (i := 10) scLaw.nd rfl (Or.inl rfl)) (fun _ _ _ _ _ => pts_nil)
            (fun _ _ _ _ _ => pe_call GP hr (by rfl) m.pick kP bP .nil pass0 (pa_cons (pv 3) (pa_cons (pv 1) pa_nil))))))
        (pss_cons (ps_set (i := 5) scLaw.nd rfl (.inl rfl) (pe_call GT hr1 (by rfl) m.take kT bT .nil pass0 (pa_cons (pv 3) (pa_cons (pe_op op_add (pe_callB call_len_str (by rfl) m.len PySem.boot_len (pa_cons (pv 4) pa_nil)) pe_int) pa_nil))))
        (pss_cons (ps_set (i := 6) scLaw.nd rfl (.inl rfl) (pe_call GP hr (by rfl) m.pick kP bP .nil pass0 (pa_cons (pv 3) (pa_cons pe_str pa_nil))))
        (pss_cons (ps_for PassesOwn.never rfl (pi_list (pe_lst (pa_cons (pv 4) (pa_cons (pe_op op_add_str (pe_op op_add_str (pe_slice sl_str (pv 4) po_none (po_some (pv 5))) (pv 6)) (pe_slice sl_str (pv 4) (po_some (pv 5)) po_none))
              (pa_cons (pe_op op_add_str (pe_op op_add_str (pe_slice sl_str (pv 4) po_none (po_some (pv 5))) (pv 6)) (pe_slice sl_str (pv 4) (po_some (pe_op op_add (pv 5) pe_int)) po_none))
              (pa_cons (pe_op op_mul_str2 (pv 4) pe_int) (pa_cons (pe_slice sl_str (pv 4) po_none (po_some pe_int)) pa_nil)))))))
            (pg_name (i := 7) scLaw.nd rfl (.inl rfl))
            (pss_cons (ps_set (i := 8) scLaw.nd rfl (.inl rfl) (pe_and (pe_chain op_le op_le pe_int (pe_callB call_len_str (by rfl) m.len PySem.boot_len (pa_cons (pv 7) pa_nil)) pe_int)
                (pe_one (pe_cmpR (op_eqD hr.units) (pe_lc (own := [("one", 11)]) (g := gName 11) rfl scLaw.nd (pi_str (pv 7)) (blkOk_by (N := NL) (sc := defScope sLaw) (by decide +kernel)) (fun _ _ _ _ _ => pg_name (i := 11) scLaw.nd rfl (Or.inl rfl))
                  (fun _ _ _ _ _ => pts_one (pt_cmpR op_notIn_sign (pv 11) (pv 1) rfl)) (fun _ _ _ _ _ => pv 11)) (pe_lst pa_nil) (nomark _)))))
            (pss_cons (ps_set (i := 9) scLaw.nd rfl (.inl rfl) (pe_call GN hr1 (by rfl) m.name kN bN .nil pass0 (pa_cons (pv 7) pa_nil)))
            (pss_one (ps_if (PW.pt (pw_or (pt_not (pt_val (pe_callB call_isi (by rfl) m.isi boot_isinstance (pa_cons (pv 9) (pa_cons (pe_bltn (v := .ty "bool") (by rfl) m.bool boot_bool rfl) pa_nil))))) (pw_or1 (pt_cmpR op_ne (pv 9) (pv 8) (nomark _)))))
              (pss_one (ps_ret pe_bl)) pss_nil)))))
        (pss_one (ps_for PassesOwn.never rfl (pi_list (pe_lst (pa_cons pe_non (pa_cons pe_bl (pa_cons pe_int (pa_cons (pe_tup (pa_cons (pv 4) pa_nil)) (pa_cons (pe_lst (pa_cons (pv 4) pa_nil)) (pa_cons (pe_tup pa_nil) (pa_cons (pe_lst pa_nil)
              (pa_cons (pe_callTy (call_list_text rfl) (by rfl) m.list (by decide +kernel) (pa_cons (pv 4) pa_nil)) (pa_cons (pe_cmpR op_eq (pv 4) pe_str (nomark _)) pa_nil)))))))))))
            (pg_name (i := 7) scLaw.nd rfl (.inl rfl))
            (pss_one (ps_if (pt_cmpR op_isnot_bl (pe_call GN hr1 (by rfl) m.name kN bN .nil pass0 (pa_cons (pv 7) pa_nil)) pe_bl (nomark _)) (pss_one (ps_ret pe_bl)) pss_nil))))))))))
      (pss_one (ps_ret (pe_and (pe_cmpR op_is_bl (pe_call GN hr1 (by rfl) m.name kN bN .nil pass0 (pa_cons pe_str pa_nil)) pe_bl (nomark _))
        (pe_and (pe_cmpR op_is_bl (pe_call GN hr1 (by rfl) m.name kN bN .nil pass0 (pa_cons pe_str pa_nil)) pe_bl (nomark _))
        (pe_one (pe_cmpR op_is_bl (pe_call GN hr1 (by rfl) m.name kN bN .nil pass0 (pa_cons pe_str pa_nil)) pe_bl (nomark _)))))))), ?_⟩
    have hZ : (Str.ofString "abcdefghijklmnopqrstuvwxyz").cps.toList = az := by decide +kernel
    have hZl : (Str.ofString "abcdefghijklmnopqrstuvwxyz").length = 26 := by decide +kernel
    generalize hz0 : Str.ofString "abcdefghijklmnopqrstuvwxyz" = Z at hZ hZl ⊢
    refine ⟨_, rfl, _, _, rfl, .inl hS, _, _, rfl, _, _, rfl, _, rfl, ?_, ?_, for_range (lo := 0) (n := _) (fun i σ H' => ∃ v2 v3 v4 v5 v6 v7 v8 v9 v10 v11 : Option V, σ = [some (.ref a), some (.str Z), v2, v3, v4, v5, v6, v7, v8, v9, v10, v11] ∧ SB T H H')
      ⟨_, _, _, _, _, _, _, _, _, _, rfl, SB.refl hT⟩ ?_ ?_⟩
    · have := (mm (n := ((ns.map V.int).length : Nat)) (by omega)).1
      have e : (-(2 ^ 62) : Int) ≤ 3 := by decide
      exact Int.le_trans e this
    · have := (mm (n := ((ns.map V.int).length : Nat)) (by omega)).2
      have e : (12 : Int) < 2 ^ 62 := by decide
      exact Int.lt_of_le_of_lt this e
    · rintro i σ H1 hi ⟨v2, v3, v4, v5, v6, v7, v8, v9, v10, v11, rfl, b1⟩
      have hi2 : i < 1000000 := by
        have := (mm (n := ((ns.map V.int).length : Nat)) (by omega)).2
        omega
      have hS1 := b1.sq hT hS
      have hT1 := b1.tab
      refine ⟨_, rfl, _, rfl, a, ns, i, by rw [Int.zero_add]; rfl, hS1, hi2, fun p H2 np fd2 but2 => ?_⟩
      have pT : p ≠ T := tab_new hT1 np
      have b2 : SB T H1 H2 := (SB.refl hT1).but np pT but2
      refine ⟨⟨_, rfl⟩, _, rfl, p, 11, rfl, fd2, by decide, by decide, fun r H3 r0 r1 fd3 but3 => ?_⟩
      have b3 : SB T H1 H3 := b2.but np pT but3
      refine ⟨r, rfl, by omega, by omega, fun D nD => lc_range (lo := 0) (n := r.toNat) (fun j H' => ∃ zs : List Nat, zs.length = j ∧ (∀ c ∈ zs, c ∈ az) ∧ SB T H1 H' ∧ Fd H' p ∧ D ≠ p ∧ D ≠ T ∧ H1 D = none ∧ H' D = some (.lst ((zs.map one).map V.str))) ?_ ?_ ?_⟩
      · obtain ⟨d, st, ep, er⟩ := fd3
        have nDp : D ≠ p := (ne_of_none ep nD).symm
        exact ⟨[], rfl, fun c hc => absurd hc (by simp), b3.new nD, ⟨d, st, by rw [upd_ne nDp.symm]; exact ep, er⟩, nDp, tab_new b3.tab nD, b3.none hT1 nD, upd_same⟩
      · rintro j H4 hj ⟨zs, el, hz, b4, fd4, nDp, nDT, nD1, eD⟩
        refine ⟨rfl, ?_⟩
        unfold tYes
        refine iteT ?_
        refine ⟨_, rfl, _, rfl, .inl ⟨p, Z, rfl, fd4, by omega, by omega, fun c H5 hc fd5 but5 => ?_⟩⟩
        have eD5 : H5 D = some (.lst ((zs.map one).map V.str)) := by rw [but5 D nDp]; exact eD
        obtain ⟨d, st, ep, er⟩ := fd5
        refine ⟨_, eD5, by rw [List.length_map, List.length_map, el]; exact small1000 (by omega), zs ++ [c], by rw [List.length_append, el]; rfl, fun x hx => ?_, (b4.but np pT but5).set nD1 nDT, ⟨d, st, by rw [upd_ne nDp.symm]; exact ep, er⟩, nDp, nDT, nD1, ?_⟩
        · rcases List.mem_append.mp hx with h | h
          · exact hz x h
          · rw [List.mem_singleton.mp h, ← hZ]
            exact hc
        · rw [upd_same, List.map_append, List.map_append]
          rfl
      · rintro H4 ⟨zs, el, hz, b4, fd4, nDp, nDT, nD1, eD⟩
        refine ⟨Str.ofString "", D, zs.map one, rfl, rfl, .inl (SqL.of eD), ?_, ?_⟩
        · have e0 : (Str.ofString "").length = 0 := by decide
          rw [sum_one, e0, Nat.mul_zero]
          omega
        have ez : (Txt.join (Str.ofString "") (zs.map one)).cps.toList = zs := by
          rw [TL.join_eq]
          exact join_one zs
        have elz : (Txt.join (Str.ofString "") (zs.map one)).length ≤ 10 := by
          rw [← len_cps, ez]
          omega
        generalize Txt.join (Str.ofString "") (zs.map one) = tx at ez elz ⊢
        have htl : tx.length ≤ sizeLine := by have := line_ge; omega
        refine ⟨_, rfl, _, rfl, tx, rfl, htl, _, _, rfl, rfl, p, _, rfl, fd4, by omega, by omega, fun at_ H5 a0 a1 fd5 but5 => ?_⟩
        have b5 := b4.but np pT but5
        refine ⟨_, rfl, .inl ⟨p, _, rfl, fd5, by decide, by decide, fun c H6 hc fd6 but6 => ?_⟩⟩
        have b6 := b5.but np pT but6
        have l1 : ∀ lo hi, (cutS tx lo hi).length ≤ 10 := fun lo hi => Nat.le_trans (cutS_len tx lo hi) elz
        have lc : (⟨#[c]⟩ : Str).length = 1 := rfl
        have l2 : ∀ lo hi, (cutS tx lo hi ++ (⟨#[c]⟩ : Str)).length ≤ 11 := fun lo hi => by
          have := l1 lo hi
          rw [app_len, lc]
          omega
        have l3 : ∀ lo hi lo2 hi2, (cutS tx lo hi ++ (⟨#[c]⟩ : Str) ++ cutS tx lo2 hi2).length ≤ 21 := fun lo hi lo2 hi2 => by
          have := l1 lo2 hi2
          have := l2 lo hi
          rw [app_len]
          omega
        have hg := line_ge
        refine ⟨_, rfl, _, rfl, _, rfl, _, rfl, _, rfl, htl, _, rfl, _, _, rfl, rfl, ?_, _, rfl, _, rfl, _, rfl, _, rfl, htl, _, _, rfl, rfl, ?_, _, rfl, _, rfl, _, rfl, _, rfl, htl, _, rfl, _, _, rfl, rfl, ?_, _, rfl, _, rfl, _, _, rfl, rfl, _, rfl, _, rfl, htl, _, _, rfl, rfl, ?_, _, rfl, _, rfl, rfl, ?_, _, rfl, _, rfl, _, rfl, htl, ?_⟩
        · have := l1 none (some at_)
          omega
        · have := l1 (some at_) none
          have := l2 none (some at_)
          omega
        · have := l1 none (some at_)
          omega
        · have := l1 (some (at_ + 1)) none
          have := l2 none (some at_)
          omega
        · omega
        refine ⟨by show 5 ≤ sizeLine; decide, fun L nL => ?_⟩
        have ltx : Lo tx := fun d hd => by
          rw [ez] at hd
          have := (mem_az d).mp (hz d hd)
          omega
        have lcx : Lo ⟨#[c]⟩ := fun d hd => by
          have e1 : d = c := by simpa using hd
          rw [e1]
          exact (by decide +kernel : ∀ y ∈ _, y < 128) c hc
        have pL : p ≠ L := by
          obtain ⟨d, st, ep, er⟩ := fd6
          exact ne_of_none ep nL
        have bL := b6.new (o := .lst [V.str tx, V.str (cutS tx none (some at_) ++ (⟨#[c]⟩ : Str) ++ cutS tx (some at_) none), V.str (cutS tx none (some at_) ++ (⟨#[c]⟩ : Str) ++ cutS tx (some (at_ + 1)) none), V.str (tx ++ tx), V.str (cutS tx none (some 8))]) nL
        have fdL : Fd (upd H6 L (.lst [V.str tx, V.str (cutS tx none (some at_) ++ (⟨#[c]⟩ : Str) ++ cutS tx (some at_) none), V.str (cutS tx none (some at_) ++ (⟨#[c]⟩ : Str) ++ cutS tx (some (at_ + 1)) none), V.str (tx ++ tx), V.str (cutS tx none (some 8))])) p := by
          obtain ⟨d, st, ep, er⟩ := fd6
          exact ⟨d, st, by rw [upd_ne pL]; exact ep, er⟩
        have eL : (upd H6 L (.lst [V.str tx, V.str (cutS tx none (some at_) ++ (⟨#[c]⟩ : Str) ++ cutS tx (some at_) none), V.str (cutS tx none (some at_) ++ (⟨#[c]⟩ : Str) ++ cutS tx (some (at_ + 1)) none), V.str (tx ++ tx), V.str (cutS tx none (some 8))])) L = some (.lst [V.str tx, V.str (cutS tx none (some at_) ++ (⟨#[c]⟩ : Str) ++ cutS tx (some at_) none), V.str (cutS tx none (some at_) ++ (⟨#[c]⟩ : Str) ++ cutS tx (some (at_ + 1)) none), V.str (tx ++ tx), V.str (cutS tx none (some 8))]) := upd_same
        have hxs : ∀ x ∈ [V.str tx, V.str (cutS tx none (some at_) ++ (⟨#[c]⟩ : Str) ++ cutS tx (some at_) none), V.str (cutS tx none (some at_) ++ (⟨#[c]⟩ : Str) ++ cutS tx (some (at_ + 1)) none), V.str (tx ++ tx), V.str (cutS tx none (some 8))], ∃ z : Str, x = V.str z ∧ z.length ≤ 100 ∧ Lo z := by
          intro x hm
          rcases List.mem_cons.mp hm with h | hm
          · exact ⟨_, h, by omega, ltx⟩
          rcases List.mem_cons.mp hm with h | hm
          · exact ⟨_, h, Nat.le_trans (l3 _ _ _ _) (by decide), ((ltx.cut _ _).app lcx).app (ltx.cut _ _)⟩
          rcases List.mem_cons.mp hm with h | hm
          · exact ⟨_, h, Nat.le_trans (l3 _ _ _ _) (by decide), ((ltx.cut _ _).app lcx).app (ltx.cut _ _)⟩
          rcases List.mem_cons.mp hm with h | hm
          · exact ⟨_, h, by rw [app_len]; omega, ltx.app ltx⟩
          rcases List.mem_cons.mp hm with h | hm
          · exact ⟨_, h, Nat.le_trans (l1 _ _) (by decide), ltx.cut _ _⟩
          cases hm
        generalize [V.str tx, V.str (cutS tx none (some at_) ++ (⟨#[c]⟩ : Str) ++ cutS tx (some at_) none), V.str (cutS tx none (some at_) ++ (⟨#[c]⟩ : Str) ++ cutS tx (some (at_ + 1)) none), V.str (tx ++ tx), V.str (cutS tx none (some 8))] = xs at bL fdL eL hxs ⊢
        generalize hHL : upd H6 L (.lst xs) = HL at bL fdL eL ⊢
        have hTL := bL.tab
        refine ⟨L, rfl, ⟨_, SqL.of eL⟩, for_list (K := K) (a := L) (xs := xs) (fun j σ H' => ∃ v7 v8 v9 v10 v11 : Option V, σ = [some (.ref a), some (.str Z), some (.int (0 + (i : Nat))), some (.ref p), some (.str tx), some (.int at_), some (.str ⟨#[c]⟩), v7, v8, v9, v10, v11] ∧ SB T HL H')
          ⟨_, _, _, _, _, rfl, SB.refl hTL⟩ (fun j σ H' _ ⟨_, _, _, _, _, _, b⟩ => b.sq hTL (SqL.of eL)) ?_ ?_⟩
        · rintro j x σ H7 hx ⟨v7, v8, v9, v10, v11, rfl, b7⟩
          obtain ⟨z, rfl, hz, lz⟩ := hxs x (List.mem_of_getElem? hx)
          have hzl : z.length ≤ sizeLine := by omega
          refine (show ∀ Qc : VK, (∀ H', SB T HL H' → Qc (.bl (isNm z)) H') → tAndV _ _ _ _ Qc from fun Qc k => ?_) _ fun H8 b8 => ?_
          · refine ⟨_, rfl, z, rfl, hzl, _, _, rfl, rfl, _, rfl, ?_⟩
            by_cases h1 : (1 : Int) ≤ z.length
            · refine (if_pos (decide_eq_true h1)).mpr ?_
              refine ⟨_, _, rfl, rfl, _, rfl, ?_⟩
              by_cases h8 : (z.length : Int) ≤ 8
              · rw [decide_eq_true h8]
                refine iteT ?_
                refine ⟨_, rfl, z, rfl, fun D2 nD2 => lc_it walk_str (fun j H' => H' = upd H7 D2 (.lst (((z.cps.toList.take j).filter fun c => !decide (c ∈ az)).map sg))) rfl (fun _ _ _ _ => trivial) ?_ ?_⟩
                · rintro j x H8 H9 hj rfl ⟨rfl, c2, hc2, rfl⟩
                  have hc3 : z.cps.toList[j]? = some c2 := by rw [Array.getElem?_toList]; exact hc2
                  refine ⟨rfl, _, rfl, _, rfl, c2, Z, rfl, rfl, _, rfl, ?_⟩
                  rw [hZ, filt_step hc3]
                  by_cases hm : c2 ∈ az
                  · rw [decide_eq_true hm]
                    refine (if_neg (by decide)).mpr ?_
                    rw [if_pos rfl, List.append_nil]
                  · rw [decide_eq_false hm]
                    refine (if_pos rfl).mpr ?_
                    refine ⟨_, rfl, _, upd_same, ?_, ?_⟩
                    · rw [List.length_map]
                      refine Nat.lt_of_le_of_lt (List.length_filter_le _ _) (Nat.lt_of_le_of_lt (List.length_take_le _ _) (small1000 ?_))
                      have : j < z.length := hj
                      omega
                    · rw [upd_upd, if_neg (by decide), List.map_append]
                      rfl
                · rintro H8 rfl
                  refine ⟨Nat.zero_le _, fun E2 nE2 => ?_⟩
                  have nE3 : D2 ≠ E2 := ne_of_none upd_same nE2
                  refine ⟨_, _, .lst (SqL.of (by rw [upd_ne nE3]; exact upd_same)) (dp_signs _), .lst (SqL.of upd_same) .nil, shaped_signs fun d hd => lz d (List.mem_of_mem_take (List.mem_filter.mp hd).1), shaped_signs (l := []) (fun d hd => absurd hd (by simp)), ?_⟩
                  have e : isNm z = PyData.eqv (.list (((z.cps.toList.take z.cps.size).filter fun c => !decide (c ∈ az)).map fun c => PyData.str ⟨#[c]⟩)) (.list []) := by
                    have e1 : z.cps.toList.take z.cps.size = z.cps.toList := List.take_of_length_le (by rw [len_cps]; exact Nat.le_refl _)
                    rw [eqv_nil, List.isEmpty_map, e1, filt_nil]
                    unfold isNm
                    rw [decide_eq_true (show 1 ≤ z.length ∧ z.length ≤ 8 by omega), Bool.true_and]
                  have kk := k _ ((b7.new (o := .lst (((z.cps.toList.take z.cps.size).filter fun c => !decide (c ∈ az)).map sg)) nD2).new (o := .lst []) nE2)
                  rw [e] at kk
                  exact kk
              · rw [decide_eq_false h8]
                refine iteF ?_
                have e : isNm z = false := by
                  unfold isNm
                  rw [decide_eq_false (show ¬ (1 ≤ z.length ∧ z.length ≤ 8) by omega), Bool.false_and]
                have kk := k _ b7
                rw [e] at kk
                exact kk
            · refine (if_neg (by rw [decide_eq_false h1]; decide)).mpr ?_
              refine ⟨false, rfl, ?_⟩
              refine iteF ?_
              have e : isNm z = false := by
                unfold isNm
                rw [decide_eq_false (show ¬ (1 ≤ z.length ∧ z.length ≤ 8) by omega), Bool.false_and]
              have kk := k _ b7
              rw [e] at kk
              exact kk
          · refine ⟨_, rfl, V.str z, rfl, b8.tab, .inl ⟨z, rfl, hzl, fun H9 t9 => ?_⟩⟩
            have b9 := b8.tabd t9
            refine ⟨_, rfl, _, _, _, _, true, rfl, .ty _, .base (.bl _), kit_ty (by decide +kernel), _, rfl, ?_⟩
            refine iteF ?_
            refine ⟨_, rfl, _, rfl, rfl, _, rfl, ?_⟩
            rw [decide_eq_true rfl]
            refine iteF ?_
            exact ⟨_, _, _, _, _, rfl, b9⟩
        · rintro σ H7 ⟨v7, v8, v9, v10, v11, rfl, b7⟩
          have b0 : SB T H1 H7 := bL.trans b7
          have t7 := b7.tab
          refine ⟨_, rfl, by show 1 ≤ sizeLine; decide, fun t1 n1 => ⟨_, rfl, by show 1 ≤ sizeLine; decide, fun l1 m1 => ⟨by show 0 ≤ sizeLine; decide, fun t2 n2 => ⟨by show 0 ≤ sizeLine; decide, fun l2 m2 => ⟨_, rfl, tx, rfl, htl, fun l3 m3 => ⟨_, rfl, rfl, by show 9 ≤ sizeLine; decide, fun M nM => ?_⟩⟩⟩⟩⟩⟩
          have c1 : SB T H7 (upd H7 t1 (.tup [V.str tx])) := (SB.refl t7).new n1
          have s1 : NoS (upd H7 t1 (.tup [V.str tx])) (.ref t1) := .inr (.inr (.inr ⟨t1, _, rfl, .inr upd_same⟩))
          generalize upd H7 t1 (.tup [V.str tx]) = G1 at m1 n2 m2 m3 nM c1 s1 ⊢
          have c2 : SB T G1 (upd G1 l1 (.lst [V.str tx])) := (SB.refl c1.tab).new m1
          have s2 : NoS (upd G1 l1 (.lst [V.str tx])) (.ref l1) := .inr (.inr (.inr ⟨l1, _, rfl, .inl upd_same⟩))
          generalize upd G1 l1 (.lst [V.str tx]) = G2 at n2 m2 m3 nM c2 s2 ⊢
          have c3 : SB T G2 (upd G2 t2 (.tup [])) := (SB.refl c2.tab).new n2
          have s3 : NoS (upd G2 t2 (.tup [])) (.ref t2) := .inr (.inr (.inr ⟨t2, _, rfl, .inr upd_same⟩))
          generalize upd G2 t2 (.tup []) = G3 at m2 m3 nM c3 s3 ⊢
          have c4 : SB T G3 (upd G3 l2 (.lst [])) := (SB.refl c3.tab).new m2
          have s4 : NoS (upd G3 l2 (.lst [])) (.ref l2) := .inr (.inr (.inr ⟨l2, _, rfl, .inl upd_same⟩))
          generalize upd G3 l2 (.lst []) = G4 at m3 nM c4 s4 ⊢
          have c5 : SB T G4 (upd G4 l3 (.lst (signs tx))) := (SB.refl c4.tab).new m3
          have s5 : NoS (upd G4 l3 (.lst (signs tx))) (.ref l3) := .inr (.inr (.inr ⟨l3, _, rfl, .inl upd_same⟩))
          generalize upd G4 l3 (.lst (signs tx)) = G5 at nM c5 s5 ⊢
          generalize decide (V.str tx = V.str (Str.ofString "")) = bb at *
          have d1 := c1.trans (c2.trans (c3.trans (c4.trans c5)))
          have d2 := c2.trans (c3.trans (c4.trans c5))
          have d3 := c3.trans (c4.trans c5)
          have d4 := c4.trans c5
          have hno : ∀ x ∈ [V.non, .bl true, .int 5, .ref t1, .ref l1, .ref t2, .ref l2, .ref l3, .bl bb], NoS G5 x := by
            intro x hm
            rcases List.mem_cons.mp hm with h | hm
            · exact .inl h
            rcases List.mem_cons.mp hm with h | hm
            · exact .inr (.inl ⟨_, h⟩)
            rcases List.mem_cons.mp hm with h | hm
            · exact .inr (.inr (.inl ⟨_, h⟩))
            rcases List.mem_cons.mp hm with h | hm
            · rw [h]
              exact s1.sb c1.tab d2
            rcases List.mem_cons.mp hm with h | hm
            · rw [h]
              exact s2.sb c2.tab d3
            rcases List.mem_cons.mp hm with h | hm
            · rw [h]
              exact s3.sb c3.tab d4
            rcases List.mem_cons.mp hm with h | hm
            · rw [h]
              exact s4.sb c4.tab c5
            rcases List.mem_cons.mp hm with h | hm
            · rw [h]
              exact s5
            rcases List.mem_cons.mp hm with h | hm
            · exact .inr (.inl ⟨_, h⟩)
            cases hm
          generalize [V.non, .bl true, .int 5, .ref t1, .ref l1, .ref t2, .ref l2, .ref l3, .bl bb] = xs2 at hno ⊢
          have e1 : SB T G5 (upd G5 M (.lst xs2)) := (SB.refl d1.tab).new nM
          have eM : (upd G5 M (.lst xs2)) M = some (.lst xs2) := upd_same
          have bM : SB T H1 (upd G5 M (.lst xs2)) := (b0.trans d1).trans e1
          generalize upd G5 M (.lst xs2) = GM at e1 eM bM ⊢
          refine ⟨M, rfl, ⟨_, SqL.of eM⟩, for_list (K := K) (a := M) (xs := xs2) (fun j σ H' => ∃ v7 v8 v9 v10 v11 : Option V, σ = [some (.ref a), some (.str Z), some (.int (0 + (i : Nat))), some (.ref p), some (.str tx), some (.int at_), some (.str ⟨#[c]⟩), v7, v8, v9, v10, v11] ∧ SB T GM H')
            ⟨_, _, _, _, _, rfl, SB.refl bM.tab⟩ (fun j σ H' _ ⟨_, _, _, _, _, _, b⟩ => b.sq bM.tab (SqL.of eM)) ?_ ?_⟩
          · rintro j x σ H8 hx ⟨v7, v8, v9, v10, v11, rfl, b8⟩
            have hn := ((hno x (List.mem_of_getElem? hx)).sb d1.tab (e1.trans b8)).str (K := K)
            refine ⟨_, rfl, x, rfl, b8.tab, .inr ⟨hn, _, _, rfl, rfl, _, rfl, ?_⟩⟩
            refine iteF ?_
            exact ⟨_, _, _, _, _, rfl, b8⟩
          · rintro σ H8 ⟨v7, v8, v9, v10, v11, rfl, b8⟩
            exact ⟨_, _, _, _, _, _, _, _, _, _, rfl, b1.trans (bM.trans b8)⟩
    · rintro σ H1 ⟨v2, v3, v4, v5, v6, v7, v8, v9, v10, v11, rfl, b1⟩
      refine ⟨_, rfl, b1.tab, .inl ⟨_, rfl, by decide, fun H2 t2 => ?_⟩⟩
      have n1 : isNm (Str.ofString "a") = true := by decide +kernel
      have n2 : isNm (Str.ofString "abcdefgh") = true := by decide +kernel
      have n3 : isNm (Str.ofString "abcdefghi") = false := by decide +kernel
      rw [n1]
      refine ⟨_, _, rfl, rfl, true, rfl, ?_⟩
      refine iteT ?_
      refine ⟨_, rfl, t2.1, .inl ⟨_, rfl, by decide, fun H3 t3 => ?_⟩⟩
      rw [n2]
      refine ⟨_, _, rfl, rfl, true, rfl, ?_⟩
      refine iteT ?_
      refine ⟨_, rfl, t3.1, .inl ⟨_, rfl, by decide, fun H4 t4 => ?_⟩⟩
      rw [n3]
      exact ⟨_, _, rfl, rfl, q H4⟩
end
end OwK

set_option Elab.async false
set_option linter.all false
set_option maxRecDepth 100000
set_option maxHeartbeats 8000000
namespace OwK
open PySem PySem.Spec PyProof.Rows L2 Ow
theorem all_mk {l : PySem.W.OpenLaw} {w : World} {K : PySem.W.Frag} {h : Heap} {mg : Str → Option Value} {fa fN fF fT fP fL c T : Addr} (X : K.In h) (G : h.Ns mainGlobals mg) (hfa : mg "law" = some (.ref fa))
    (tabs : ∀ (x : Str) (c P : Addr), x = "is_name" → PySem.W.tabIn K x = some (c, P) → PySem.W.CodeHd h c P ∧ h.get? P = some { cls := .none, data := .fields #[] })
    {od1 an1 od2 an2 od3 an3 od4 an4 od5 an5 : Option Addr} {sl1 sl2 sl3 sl4 sl5 : Array (Option Value)} {oc1 kV1 dc1 pm1 ct1 oc2 kV2 dc2 pm2 cd2 ct2 oc3 kV3 dc3 pm3 cd3 ct3 oc4 kV4 dc4 pm4 cd4 ct4 oc5 kV5 dc5 pm5 cd5 ct5 : Value} {tk : Tok}
    (a1 : PySem.W.nsIn K mainGlobals "is_name" = some (some (.ref fN))) (l1 : K.lookup fN = some ⟨oc1, od1, .func (PySem.W.fnOf "is_name" "is_name" (defArgs sName) (defBody sName) (defScope sName) .none kV1 dc1 pm1 an1 (.ref c) ct1), sl1⟩) (c1 : PySem.W.codeIn K (.ref c) "is_name" = true) (k1 : PySem.W.keepIn K (.ref fN) = true)
    {oq : Value} {dq : Option Addr} {sq : Array (Option Value)} {vq : Array Value} (lc : K.lookup c = some ⟨oq, dq, .fields vq, sq⟩) (hv : vq[11]? = some (.ref T)) (tn : K.lookup T = none)
    (a2 : PySem.W.nsIn K mainGlobals "_law_feed" = some (some (.ref fF))) (l2 : K.lookup fF = some ⟨oc2, od2, .func (PySem.W.fnOf "_law_feed" "_law_feed" (defArgs sFeed) (defBody sFeed) (defScope sFeed) .none kV2 dc2 pm2 an2 cd2 ct2), sl2⟩) (c2 : PySem.W.codeIn K cd2 "_law_feed" = true) (k2 : PySem.W.keepIn K (.ref fF) = true)
    (a3 : PySem.W.nsIn K mainGlobals "_law_take" = some (some (.ref fT))) (l3 : K.lookup fT = some ⟨oc3, od3, .func (PySem.W.fnOf "_law_take" "_law_take" (defArgs sTake) (defBody sTake) (defScope sTake) .none kV3 dc3 pm3 an3 cd3 ct3), sl3⟩) (c3 : PySem.W.codeIn K cd3 "_law_take" = true) (k3 : PySem.W.keepIn K (.ref fT) = true)
    (a4 : PySem.W.nsIn K mainGlobals "_law_pick" = some (some (.ref fP))) (l4 : K.lookup fP = some ⟨oc4, od4, .func (PySem.W.fnOf "_law_pick" "_law_pick" (defArgs sPick) (defBody sPick) (defScope sPick) .none kV4 dc4 pm4 an4 cd4 ct4), sl4⟩) (c4 : PySem.W.codeIn K cd4 "_law_pick" = true) (k4 : PySem.W.keepIn K (.ref fP) = true)
    (a5 : PySem.W.nsIn K mainGlobals "law" = some (some (.ref fL))) (l5 : K.lookup fL = some ⟨oc5, od5, .func (PySem.W.fnOf "law" "law" (defArgs sLaw) (defBody sLaw) (defScope sLaw) .none kV5 dc5 pm5 an5 cd5 ct5), sl5⟩) (c5 : PySem.W.codeIn K cd5 "law" = true) (k5 : PySem.W.keepIn K (.ref fL) = true)
    (gM : PySem.W.nsIn K mainGlobals "MOST_LETTERS" = some (some (.int 8 tk)))
    (z1 : PySem.W.nsIn K mainGlobals "len" = some none) (z2 : PySem.W.nsIn K mainGlobals "range" = some none) (z3 : PySem.W.nsIn K mainGlobals "max" = some none) (z4 : PySem.W.nsIn K mainGlobals "min" = some none) (z5 : PySem.W.nsIn K mainGlobals "abs" = some none)
    (z6 : PySem.W.nsIn K mainGlobals "isinstance" = some none) (z7 : PySem.W.nsIn K mainGlobals "bool" = some none) (z8 : PySem.W.nsIn K mainGlobals "list" = some none) (z9 : PySem.W.nsIn K mainGlobals "str" = some none) (z0 : PySem.W.nsIn K mainGlobals "all" = some none) :
    LamX.LawAtS l w K CX0 3 63 "script" mg fa h := by
  have e := hfa.symm.trans (PySem.W.mg_of X G a5)
  cases e
  have F2 := fun_mk (st := sFeed) l2 c2 k2
  have F3 := fun_mk (st := sTake) l3 c3 k3
  have F4 := fun_mk (st := sPick) l4 c4 k4
  have F5 := fun_mk (st := sLaw) l5 c5 k5
  have b2 := F2.binds (ps := ["script", "k"]) fun _ _ _ _ _ _ us hl => match us, hl with | [_, _], _ => rfl
  have b3 := F3.binds (ps := ["feed", "many"]) fun _ _ _ _ _ _ us hl => match us, hl with | [_, _], _ => rfl
  have b4 := F4.binds (ps := ["feed", "some"]) fun _ _ _ _ _ _ us hl => match us, hl with | [_, _], _ => rfl
  have F1 : Fun K "is_name" "is_name" sName fN _ := fun_mk (st := sName) l1 c1 k1
  have b1 := F1.binds (ps := ["thing"]) fun _ _ _ _ _ _ us hl => match us, hl with | [_], _ => rfl
  obtain ⟨hC, hP⟩ := tabs _ c T rfl (tab_mk a1 l1 rfl lc hv)
  have none_of : ∀ {x : Str}, PySem.W.nsIn K mainGlobals x = some none → mg x = none := fun z => PySem.W.mg_none_of X G z
  refine ⟨PySem.W.fnOf "law" "law" (defArgs sLaw) (defBody sLaw) (defScope sLaw) .none kV5 dc5 pm5 an5 cd5 ct5, [(c, T)], spLaw K T, ?_, ?_, ?_, fun s v => .of_eq rfl, ?_, ?_⟩
  · intro p hp
    rw [List.mem_singleton.mp hp]
    exact hP
  · intro p hp
    rw [List.mem_singleton.mp hp]
    exact tn
  · intro p hp
    rw [List.mem_singleton.mp hp]
    exact hC
  · intro H a ns hl _ hH hS
    exact ⟨a, ns, rfl, hS, hl, ⟨#[], hH (c, T) (List.mem_singleton.mpr rfl), trivial⟩, fun _ => rfl⟩
  · intro base _ _ hTB
    have TB := hTB (c, T) (List.mem_singleton.mpr rfl)
    exact ok_law F5 ⟨none_of z2, none_of z3, none_of z4, none_of z1, none_of z6, none_of z7, none_of z8, PySem.W.mg_of X G a2, PySem.W.mg_of X G a3, PySem.W.mg_of X G a4, PySem.W.mg_of X G a1⟩
      (ok_feed F2 (none_of z1) (none_of z3) (none_of z5)) k2 b2 (ok_take F3) k3 b3 (ok_pick F4 F3 b3 (PySem.W.mg_of X G a3) (none_of z1)) k4 b4
      (ok_name l1 c1 (tabB TB) (none_of z6) (none_of z9) (none_of z1) (none_of z0) (PySem.W.mg_of X G gM)) k1 b1
end OwK
open PySem PySem.W PyProof.Rows
set_option maxHeartbeats 0 in
theorem PySem.Challenge.cw_owedonce_k01_names_holds : PySem.Challenge.rw_owedonce_k01_names.Holds := by
  w_on; o_law; k_head; (case hw => w_witness2)
  k_fill
  refine Ow.walk_ofTab (l := PySem.Challenge.rw_owedonce_k01_names) (n := 63) (k := 3) (x := "script") (CX := fun _ => L2.CX0) rfl (by decide) rfl ⟨rfl, by decide, by decide⟩ (fun w h Y => PySem.W.kIn_of Y) ?F (fun _ _ _ _ _ h => h)
  case F =>
    intro w mg fa h KX G hmg tabs
    refine' OwK.all_mk KX G hmg (fun x c P hx => tabs _ x c P (by subst hx; rfl)) ?a1 ?l1 ?c1 ?k1 ?lc ?hv ?tn ?a2 ?l2 ?c2 ?k2 ?a3 ?l3 ?c3 ?k3 ?a4 ?l4 ?c4 ?k4 ?a5 ?l5 ?c5 ?k5 ?gM ?z1 ?z2 ?z3 ?z4 ?z5 ?z6 ?z7 ?z8 ?z9 ?z0
    (case a1 => k_is); (case l1 => k_is); (case c1 => k_is); (case k1 => k_is)
    (case a2 => k_is); (case l2 => k_is); (case c2 => k_is); (case k2 => k_is)
    (case a3 => k_is); (case l3 => k_is); (case c3 => k_is); (case k3 => k_is)
    (case a4 => k_is); (case l4 => k_is); (case c4 => k_is); (case k4 => k_is)
    (case a5 => k_is); (case l5 => k_is); (case c5 => k_is); (case k5 => k_is)
    (case lc => k_is); (case hv => rfl); (case tn => rfl)
    (case gM => k_is); (case z1 => k_is); (case z2 => k_is); (case z3 => k_is); (case z4 => k_is); (case z5 => k_is); (case z6 => k_is); (case z7 => k_is); (case z8 => k_is); (case z9 => k_is); (case z0 => k_is)
