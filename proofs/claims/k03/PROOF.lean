import PyProof.Rows.All
import Wide.All
import OpenK.AllK
import Wide.FinOn
import HandS.ForMost
import KE.KExcInit
import KE.KExcIs
import HandS.ExcInit
import HandS.ExcOwn
import HandS.ExcValue
import HandS.IsInst
import HandS.ForExc
import HandS.Star
import HandS.ClsMeth
import HandS.More
import HandS.Head0
import HandS.Head1
import HandS.Head2
import HandS.HeadEnd
import HandS.HeadHook4
import HandS.Text
import HandS.TupAny
import HandS.MapJoin
import HandS.SetKeys
import HandS.Style
import HandS.GenList
import HandS.TupSets
import HandS.Iter
import HandS.SetTxt0
import HandS.Strs
import HandS.SetFor
import PyProof.Rows.SortShellAny
import HandS.RaiseMore
import PySem.Challenge.RW_maybegone_k03_places_of_statements
set_option Elab.async false
set_option linter.all false
set_option maxRecDepth 100000
set_option maxHeartbeats 4000000
namespace G
open PySem PySem.Spec PyProof.Rows L2

/-! ### heaps -/
/-- all that was tracked stands as it was, but for what stands at one of S -/
def Kp (S : List Addr) (H H' : Hp) : Prop := ∀ b o, b ∉ S → H b = some o → H' b = some o
theorem Kp.refl (S : List Addr) (H : Hp) : Kp S H H := fun _ _ _ h => h
theorem Kp.trans {S : List Addr} {H H1 H2 : Hp} (a : Kp S H H1) (b : Kp S H1 H2) : Kp S H H2 := fun c o d h => b c o d (a c o d h)
theorem Kp.mono {S T : List Addr} {H H' : Hp} (a : Kp S H H') (h : ∀ b, b ∈ S → b ∈ T) : Kp T H H' := fun c o d e => a c o (fun z => d (h c z)) e
/-- a new object -/
theorem Kp.new {S : List Addr} {p : Addr} {H H' : Hp} {o : HO} (a : Kp S H H') (h : H' p = none) : Kp S H (upd H' p o) := fun c u d e => by
  have q := a c u d e
  rw [upd_ne (ne_of_none q h)]
  exact q
/-- one of S is changed -/
theorem Kp.put {S : List Addr} {p : Addr} {H H' : Hp} {o : HO} (a : Kp S H H') (h : p ∈ S) : Kp S H (upd H' p o) := fun c u d e => by
  have hc : c ≠ p := fun z => d (by rw [z]; exact h)
  rw [upd_ne hc]
  exact a c u d e
/-- what was not there yet need not be kept -/
theorem Kp.fresh {S : List Addr} {p : Addr} {H H' : Hp} (a : Kp (p :: S) H H') (h : H p = none) : Kp S H H' := fun c u d e => a c u (fun z => by
  rcases List.mem_cons.mp z with z | z
  · rw [z, h] at e
    cases e
  · exact d z) e
theorem Kp.same {S : List Addr} {H H' : Hp} (s : Same H H') : Kp S H H' := fun c u _ e => s c u e
theorem Kp.toSame {H H' : Hp} (s : Kp [] H H') : Same H H' := fun c u e => s c u (fun z => by cases z) e
theorem Kp.seq {K : PySem.W.Frag} {S : List Addr} {a : Addr} {H H' : Hp} {xs : List V} (k : Kp S H H') (d : a ∉ S) (h : SqL K H a xs) : SqL K H' a xs := by
  rcases h with (h | ⟨o, h⟩) | h
  · exact .inl (.inl (k _ _ d h))
  · exact .inl (.inr ⟨o, k _ _ d h⟩)
  · exact .inr h

theorem Kp.none_of {S : List Addr} {a : Addr} {H H' : Hp} (k : Kp S H H') (h : H' a = none) (d : a ∉ S) : H a = none := by
  cases e : H a with
  | none => rfl
  | some o =>
    rw [k a o d e] at h
    cases h

/-! ### the deck -/
/-- a list of a list of numbers, and of a count of at most n -/
structure Deck (H : Hp) (D L : Addr) (n : Nat) : Prop where
  ne : D ≠ L
  ex : ∃ (m : Int) (ns : List Int), H D = some (.lst [.ref L, .int m]) ∧ H L = some (.lst (ns.map V.int)) ∧ 0 ≤ m ∧ m ≤ (n : Int) ∧ ns.length ≤ 63 ∧ ∀ x ∈ ns, 0 ≤ x
theorem Deck.mono {H : Hp} {D L : Addr} {n n' : Nat} (d : Deck H D L n) (h : n ≤ n') : Deck H D L n' := by
  obtain ⟨ne, m, ns, h1, h2, h3, h4, h5, h6⟩ := d
  exact ⟨ne, m, ns, h1, h2, h3, by omega, h5, h6⟩
theorem Deck.kp {S : List Addr} {H H' : Hp} {D L : Addr} {n : Nat} (d : Deck H D L n) (k : Kp S H H') (hD : D ∉ S) (hL : L ∉ S) : Deck H' D L n := by
  obtain ⟨ne, m, ns, h1, h2, h3⟩ := d
  exact ⟨ne, m, ns, k _ _ hD h1, k _ _ hL h2, h3⟩
theorem Deck.new {H : Hp} {D L p : Addr} {n : Nat} {o : HO} (d : Deck H D L n) (h : H p = none) : Deck (upd H p o) D L n :=
  d.kp (Kp.new (Kp.refl [] H) h) (fun z => by cases z) (fun z => by cases z)
theorem Deck.neD {H : Hp} {D L p : Addr} {n : Nat} (d : Deck H D L n) (h : H p = none) : p ≠ D ∧ p ≠ L := by
  obtain ⟨ne, m, ns, h1, h2, h3⟩ := d
  exact ⟨(ne_of_none h1 h).symm, (ne_of_none h2 h).symm⟩

/-- the built-in names that are used -/
structure Bi (mg : Str → Option Value) : Prop where
  z_len : mg "len" = none
  z_abs : mg "abs" = none
  z_int : mg "int" = none
  z_range : mg "range" = none

theorem cut_all {xs : List V} (h : xs.length ≤ 63) : cutV xs none (some 63) = xs := by
  unfold cutV
  rw [HT.sIx_none, show HT.sIx xs.length xs.length (some 63) = min 63 xs.length from HT.sIx_nat xs.length xs.length 63]
  show List.take (min 63 xs.length - 0) (List.drop 0 xs) = xs
  rw [List.drop_zero, Nat.min_eq_right h, Nat.sub_zero, List.take_length]
def iabs (i : Int) : Int := if i < 0 then -i else i
theorem iabs_nonneg (i : Int) : 0 ≤ iabs i := by
  unfold iabs
  split <;> omega
theorem take_step {α : Type} {l : List α} {i : Nat} {x : α} (h : l[i]? = some x) : l.take (i + 1) = l.take i ++ [x] := by
  rw [List.take_add_one, h]
  all_goals rfl
theorem line1000 {n : Nat} (h : n ≤ 1000) : n ≤ sizeLine := Nat.le_of_lt (small1000 h)
end G

set_option Elab.async false
set_option linter.all false
set_option maxRecDepth 100000
set_option maxHeartbeats 4000000
/-! A def that is called where nothing guards against itself (the law at the very top): there repr of nested data may be used. -/
namespace G
open PySem PySem.Spec PyProof.Rows L2
/-- repr of data without dicts -/
def rRepr (K : PySem.W.Frag) : List V → Hp → VK → Prop := fun vs H Q => ∃ (v : V) (d : PyData), vs = [v] ∧ Dp K H v d ∧ d.showable = true ∧
  d.hasDict = false ∧ d.depth ≤ 100 ∧ d.shown.length ≤ sizeLine ∧ Q (.str d.shown) H
theorem call_reprD {X : Cx} (hg : X.A.guards = some []) (hu : X.A.units + 101 < cLine) : CallR X (.builtin "repr") (rRepr X.K) := by
  intro pins s σ H vs us Q I r h
  obtain ⟨v, d, rfl, hd, hs, hn, hdep, hz, q⟩ := h
  obtain ⟨u, rfl, rv⟩ := vals1 r
  obtain ⟨as, rd⟩ := Dp.reads I d v u hd rv
  cases hd with
  | non =>
    cases rv
    exact PySem.P.repr_of_none ⟨.str _, H, I.tok _, ⟨_, rfl⟩, by simpa only [PyData.shown] using q⟩
  | bl b =>
    cases rv
    exact PySem.P.repr_of_bool ⟨.str _, H, I.tok _, ⟨_, rfl⟩, by simpa only [PyData.shown] using q⟩
  | int i =>
    obtain ⟨t, rfl⟩ := rv
    exact PySem.P.repr_of_int (by simpa [PyData.showable] using hs) ⟨.str _, H, I.tok _, ⟨_, rfl⟩, by simpa only [PyData.shown] using q⟩
  | str x =>
    obtain ⟨t, rfl⟩ := rv
    exact PySem.P.repr_of_str ⟨.str _, H, I.tok _, ⟨_, rfl⟩, by simpa only [PyData.shown] using q⟩ (by simpa only [PyData.shown] using hz)
  | lst h1 h2 =>
    cases rv
    exact repr_of_reads' rd hs (PyData.noDict_hsm hn) hg (by omega) (fun _ _ e => e) (fun h' t tk hk => ⟨.str _, H, I.kept hk, ⟨_, rfl⟩, q⟩) hz
  | tup h1 h2 =>
    cases rv
    exact repr_of_reads' rd hs (PyData.noDict_hsm hn) hg (by omega) (fun _ _ e => e) (fun h' t tk hk => ⟨.str _, H, I.kept hk, ⟨_, rfl⟩, q⟩) hz
/-- a def's promise where no guard stands around the call -/
structure FnOkG (P : Program) (w : World) (K : PySem.W.Frag) (mg : Str → Option Value) (base : Heap) (k : Nat) (f : Addr) (fd : FuncData) (ps : List Str) (sp : Sp) : Prop where
  len : ∀ vs H Q E, sp vs H Q E → vs.length = ps.length
  run : ∀ (A : Around) (outer : List Env) (s : Shared) (H : Hp) (args : Args) (us : List Value) (vs : List V) (Q : VK) (E : XK),
    A.guards = some [] → Room k A → Env0 P w K mg base A outer s H → BindsTo s fd args (ps.zip us) →
    Vals vs us → sp vs H Q E →
    codeAny (model P w) A (.call (.ref f) args) (CR CX0 outer P w H s Q E) s
/-- the rule for such a def: its body as a term of rules, and the reading of that term -/
theorem Fun.okG {P : Program} {w : World} {K : PySem.W.Frag} {mg : Str → Option Value} {base : Heap} {x qual : Str} {st : Stmt} {f : Addr} {fd : FuncData}
    {N ps : List Str} {k : Nat} {sp : Sp} (F : Fun K x qual st f fd) (S : FnScope N ps (defScope st)) (len : ∀ vs H Q E, sp vs H Q E → vs.length = ps.length)
    (body : ∀ (cdv : Value) (A : Around) (outer : List Env) (s : Shared) (H : Hp) (vs : List V) (Q : VK) (E : XK), A.guards = some [] →
      Room k (A.deeper (envOfC qual (defScope st) s.heap.objs.size f cdv)) → sp vs H Q E →
      ∃ t, PSs (cxOf CX0 P w K mg base N qual (defScope st) f cdv A outer s H E).nox (defBody st) t ∧
        t { nx := fun _ H' => Q .non H', rt := Q } (start N vs) H) : FnOkG P w K mg base (k + 1) f fd ps sp := by
  obtain ⟨oc, od, kV, doc, pm, an, cdv, ct, osl, rfl, lk, hcd⟩ := F.ex
  refine ⟨len, fun A outer s H args us vs Q E hg hr e0 hb r hsp => ?_⟩
  have nvs := len _ _ _ _ hsp
  have kept0 : ∀ b o, base.get? b = some o → s.heap.get? b = some o := fun b o e => (e0.bs b o e).1
  have KS : K.In s.heap := e0.mod.kin.keeps kept0
  have NL : s.heap.NoLimit := e0.mod.nolimit.keeps kept0
  have kinds : ∀ y ∈ ps.zip us, (defScope st).names.lookup y.1 = some .local ∨ ((defScope st).names.lookup y.1 = some .cell ∧
      ((cellsFrom (s.heap.objs.size + 1) (defScope st).names []).lookup y.1).isSome = true) := by
    rintro ⟨n, v⟩ hy
    have hm := (List.of_mem_zip hy).1
    cases S.par n hm with
    | inl z => exact Or.inl z
    | inr z => exact Or.inr ⟨z, PySem.W.cellsFrom_some _ _ _ (Or.inl z)⟩
  refine codeAny_call_function hr.depth (KS _ _ lk) rfl S.co S.gen rfl (PySem.W.codeRec_of KS hcd) (hb _ _ _ _ ?_)
  refine wpAny_newFunctionEnv_cells S.kind kinds fun env he s1 x1 => ?_
  subst he
  refine ⟨NL.keeps x1.toInCall.keep, codeAny_func ?_⟩
  obtain ⟨t, ht0, hq⟩ := body cdv A outer s H vs Q E hg (hr.deeper _) hsp
  have ht := ht0.nox
  have J0 : Inv (cxOf CX0 P w K mg base N qual (defScope st) f cdv A outer s H E) [] (start N vs) H s1 :=
    inv_start S hr.hd e0 nvs r x1
  refine wpAny_mono (ht.run [] s1 (start N vs) H _ J0 hq) (fun fl s2 hs => ?_) fun e s2 hs => hs
  cases fl with
  | next =>
    obtain ⟨σ2, H2, J, q⟩ := hs
    exact ⟨V.non, H2, J.os, J.bare, J.base, J.hok, rfl, q⟩
  | ret u =>
    obtain ⟨v, σ2, H2, J, rv, q⟩ := hs
    exact ⟨v, H2, J.os, J.bare, J.base, J.hok, rv, q⟩
  | brk =>
    obtain ⟨_, _, _, q⟩ := hs
    exact False.elim q
  | cont =>
    obtain ⟨_, _, _, q⟩ := hs
    exact False.elim q
/-! ### the end: the law's own def by such a promise -/
/-- what the law promises: at a list of at most n ints it gives True -/
def spLawN (K : PySem.W.Frag) (n : Nat) : Sp := fun vs H Q _ => ∃ (a : Addr) (ns : List Int), vs = [.ref a] ∧ SqL K H a (ns.map V.int) ∧ ns.length ≤ n ∧ ∀ H', Q (.bl true) H'
/-- one abstract heap, in which nothing but the script may be tracked, is enough -/
theorem call_at {P : Program} {w : World} {K : PySem.W.Frag} {mg mb : Str → Option Value} {k n : Nat} {fa a : Addr} {fd : FuncData} {x : Str}
    {s₁ : Shared} {vs : List Value} {ns : List Int} (KX : K.In s₁.heap) (hns : s₁.heap.Ns mainGlobals mg) (hb : s₁.heap.Ns builtinsNs mb)
    (hbb : ∀ x : Str, x ≠ "__name__" → mb x = bootBuiltins x) (hlim : s₁.heap.NoLimit) (hg : s₁.gens = #[])
    (ha : s₁.heap.get? a = some { cls := .type "list", data := .seq vs.toArray }) (hln : ns.length ≤ n) (hr : Room k callerA)
    (F : ∀ base : Heap, K.In base → base.Ns mainGlobals mg → FnOkG P w K mg base k fa fd [x] (spLawN K n))
    (hbind : ∀ (s : Shared) (u : Value), BindsTo s fd ⟨[u], []⟩ [(x, u)])
    (H : Hp) (hO : ∀ b, H b = none ∨ ∃ o xs, H b = some (.frz o (.lst xs))) (hS : SqL K H a (ns.map V.int)) (hok : HOk P w H s₁.heap)
    (hA : ∀ b, H b ≠ none → b = a) (hK : H a ≠ none → K.lookup a = none) :
    codeAny (model P w) callerA (.call (.ref fa) ⟨[.ref a], []⟩)
      (fun r s' => r = .ok (.ret (.bool true)) ∧ OldK s₁.heap s'.heap ∧ s'.os = s₁.os ∧ AllBare s'.gens) s₁ := by
  have seen : ∀ {b : Addr} {o : Obj}, s₁.heap.get? b = some o → H b = none → (hidT s₁.heap H).get? b = some o := fun e z => hidT_get e z
  have dictFree : ∀ {b : Addr} {o : Obj} {es : Array DictEntry} {ep : Nat}, s₁.heap.get? b = some o → o.data = .dict es ep → H b = none := by
    intro b o es ep e d
    cases q : H b with
    | none => rfl
    | some u =>
      obtain rfl : b = a := hA b (by simp [q])
      rw [ha] at e
      cases e
      exact nomatch (show Data.seq vs.toArray _ = Data.dict es ep from d)
  have nsOf : ∀ {b : Addr} {m : Str → Option Value}, s₁.heap.Ns b m → (hidT s₁.heap H).Ns b m := by
    rintro b m ⟨o, es, ep, e, d, r⟩
    exact ⟨o, es, ep, seen e (dictFree e d), d, r⟩
  have inB : K.In (hidT s₁.heap H) := by
    intro b o e
    refine seen (KX b o e) ?_
    cases q : H b with
    | none => rfl
    | some u =>
      obtain rfl : b = a := hA b (by simp [q])
      rw [hK (by simp [q])] at e
      cases e
  have md : Mod K mg (hidT s₁.heap H) := by
    obtain ⟨mc, l1, l2⟩ := hlim
    exact ⟨inB, nsOf hns, ⟨mb, nsOf hb, hbb⟩, ⟨mc, nsOf l1, l2⟩⟩
  have en : Env0 P w K mg (hidT s₁.heap H) callerA [] s₁ H :=
    { frames := rfl, mod := md, bs := fun b o e => of_hidT e, bsz := Nat.le_of_eq (hidT_size _ _), funs := trivial
      frf := fun b hb => by cases hb
      hok := hok, bare := .of_eq hg }
  have FB := F _ inB (nsOf hns)
  refine codeAny_mono (FB.run callerA [] s₁ H ⟨[.ref a], []⟩ [.ref a] [.ref a] (fun v _ => v = .bl true) (fun _ _ _ => False) rfl hr en
    (hbind s₁ (.ref a)) (.cons rfl .nil) ⟨a, ns, rfl, hS, hln, fun _ => rfl⟩) fun r s' h => ?_
  match r, h with
  | .ok (.ret u), h =>
    obtain ⟨v, H', os, bare, un, hok', r', q⟩ := h
    have ev : v = .bl true := q
    subst ev
    have eu : u = Value.bool true := r'
    subst eu
    refine ⟨rfl, OldK.of_keep fun b o e => ?_, os, bare⟩
    cases q2 : H b with
    | none => exact un.keep b o e q2 (by simp [frs]) (by simp)
    | some u2 =>
      rcases hO b with z | ⟨ob, xs, z⟩
      · rw [q2] at z
        cases z
      · obtain ⟨w1, _⟩ := hok b _ z
        obtain ⟨w2, _⟩ := hok' b _ (un.frzs b ob _ z)
        rw [e] at w1
        cases w1
        exact w2
  | .ok .next, h => exact False.elim h
  | .ok .brk, h => exact False.elim h
  | .ok .cont, h => exact False.elim h
  | .error e, h => exact False.elim h
theorem walk_ofG {l : PySem.W.OpenLaw} {n k : Nat} {q : Program} {loose : List Str} {XP : (Str → Option Value) → Heap → Prop} {YP : World → Heap → Prop}
    {d : DefRec} {K : Params → PySem.W.Frag} {x : Str} (hn : l.most = some n) (hn2 : n ≤ sizeLine) (hdf : d.params.defaults = []) (hr : Room k callerA)
    (hY : ∀ (w : World) (h : Heap), YP w h → (K w.params).In h)
    (F : ∀ (w : World) (mg : Str → Option Value) (fa : Addr) (h : Heap), (K w.params).In h → h.Ns mainGlobals mg → mg d.name = some (.ref fa) →
      ∃ fd : FuncData, (∀ (s : Shared) (u : Value), BindsTo s fd ⟨[u], []⟩ [(x, u)]) ∧
        ∀ base : Heap, (K w.params).In base → base.Ns mainGlobals mg → FnOkG l.prog w (K w.params) mg base k fa fd [x] (spLawN (K w.params) n)) :
    PySem.W.WalkO q loose XP YP l.row.toRowW d [] (fun f vs => PySem.call f vs) := by
  refine Att.attach_call hn hdf fun w s₀ s₁ mg mb fa o pm cd doc a vs ns Gr Y ho hd hcd hmg hobj hints hlen hgens => ?_
  have KX := hY w _ Y
  obtain ⟨fd, hb, hF⟩ := F w mg fa _ KX Gr.T.g hmg
  have rv := vals_ints hints
  have hl : ns.length ≤ sizeLine := Nat.le_trans hlen hn2
  have goal := @call_at l.prog w (K w.params) mg mb k n fa a fd x s₁ vs ns KX Gr.T.g Gr.T.b Gr.T.builtins Gr.T.nolimit hgens hobj hlen hr hF hb
  cases hk : (K w.params).lookup a with
  | some o1 =>
    have e := KX a o1 hk
    rw [hobj] at e
    cases e
    refine goal (fun _ => none) (fun _ => Or.inl rfl) (Or.inr ⟨_, vs.toArray, _, hk, rfl, rfl, rfl, ?_, by simpa using rv⟩) (fun b u z => nomatch z) (fun b z => absurd rfl z) fun z => absurd rfl z
    rw [List.size_toArray, hints.length]
    exact hl
  | none =>
    let frozen : HO := .frz { cls := .type "list", data := .seq vs.toArray } (.lst (ns.map V.int))
    have at_a : ∀ b, b = a → (fun b => if b = a then some frozen else none : Hp) b = some frozen := fun b hb => if_pos hb
    have off_a : ∀ b, b ≠ a → (fun b => if b = a then some frozen else none : Hp) b = none := fun b hb => if_neg hb
    refine goal (fun b => if b = a then some frozen else none) (fun b => ?_) (Or.inl (Or.inr ⟨_, at_a a rfl⟩)) (fun b u z => ?_) (fun b z => ?_) fun _ => hk
    · by_cases hb : b = a
      · exact Or.inr ⟨_, _, at_a b hb⟩
      · exact Or.inl (off_a b hb)
    · by_cases hb : b = a
      · rw [at_a b hb] at z
        cases z
        subst hb
        exact ⟨hobj, by rw [List.length_map]; exact hl, vs, _, rv, hobj⟩
      · rw [off_a b hb] at z
        cases z
    · by_cases hb : b = a
      · exact hb
      · exact absurd (off_a b hb) z
end G

set_option Elab.async false
set_option linter.all false
set_option maxRecDepth 100000
set_option maxHeartbeats 4000000
/-! How long a shown text may be; repr of data and of small dicts. -/
namespace G
open PySem PySem.Spec PyProof.Rows L2
/-- a text of Unicode's signs -/
def OkS (x : Str) : Prop := ∀ c ∈ x.cps.toList, c < 1114112
theorem OkS.of (s : String) : OkS (Str.ofString s) := by
  intro c hc
  rw [PyProof.Rows.signs_ofString] at hc
  obtain ⟨d, _, rfl⟩ := List.mem_map.mp hc
  have h := d.valid
  have z : d.toNat = d.val.toNat := rfl
  rw [z]
  rcases h with h | ⟨_, h⟩
  · exact Nat.lt_trans h (by decide)
  · exact h
theorem OkS.app {x y : Str} (a : OkS x) (b : OkS y) : OkS (x ++ y) := by
  intro c hc
  have e : (x ++ y).cps.toList = x.cps.toList ++ y.cps.toList := by
    show (x.cps ++ y.cps).toList = _
    rw [Array.toList_append]
  rw [e] at hc
  rcases List.mem_append.mp hc with h | h
  · exact a c h
  · exact b c h
theorem reprChar_le {q c : Nat} (hc : c < 1114112) : (PySem.Builtin.Str.reprChar q c).length ≤ 10 := by
  have h6 : (Nat.toDigits 16 c).length ≤ 6 := by
    refine (Nat.length_toDigits_le_iff (by decide) (by decide)).mpr ?_
    omega
  unfold PySem.Builtin.Str.reprChar
  simp only []
  have hl : ∀ w : Nat, w ≤ 8 → (List.replicate (w - ((Nat.toDigits 16 c).map Char.toNat).length) 48 ++ (Nat.toDigits 16 c).map Char.toNat).length ≤ 8 := by
    intro w hw
    rw [List.length_append, List.length_replicate, List.length_map]
    omega
  have h2 := hl 2 (by decide)
  have h4 := hl 4 (by decide)
  have h8 := hl 8 (by decide)
  repeat' split
  all_goals first
    | decide
    | (simp only [List.length_cons, List.length_nil]; omega)
    | (rw [List.length_append]; simp only [List.length_cons, List.length_nil]; omega)
theorem reprText_le {x : Str} (h : OkS x) : (reprText x).length ≤ 10 * x.length + 2 := by
  rw [← reprLen_eq, ← Array.foldl_toList]
  have key : ∀ (l : List Nat) (n : Nat), (∀ c ∈ l, c < 1114112) → l.foldl (fun n c => n + (PySem.Builtin.Str.reprChar (reprQuote x) c).length) n ≤ n + 10 * l.length := by
    intro l
    induction l with
    | nil => intro n _; exact Nat.le_refl _
    | cons c r ih =>
      intro n hb
      have h1 := reprChar_le (q := reprQuote x) (hb c (List.mem_cons_self ..))
      have h2 := ih (n + (PySem.Builtin.Str.reprChar (reprQuote x) c).length) fun d hd => hb d (List.mem_cons_of_mem _ hd)
      rw [List.foldl_cons, List.length_cons]
      omega
  have z := key x.cps.toList 2 h
  rw [Array.length_toList] at z
  have e : x.length = x.cps.size := rfl
  omega
mutual
/-- a bound of the shown text -/
def big : PyData → Nat
  | .none => 4
  | .bool _ => 5
  | .int i => (Str.ofString (toString i)).length
  | .str x => 10 * x.length + 2
  | .list xs => bigs xs + 4
  | .tuple xs => bigs xs + 4
  | .dict kvs => bigKv kvs + 4
def bigs : List PyData → Nat
  | [] => 0
  | x :: xs => big x + 2 + bigs xs
def bigKv : List (PyData × PyData) → Nat
  | [] => 0
  | (k, v) :: r => big k + big v + 4 + bigKv r
end
mutual
/-- its texts are of Unicode's signs -/
def OkD : PyData → Prop
  | .none | .bool _ | .int _ => True
  | .str x => OkS x
  | .list xs | .tuple xs => OkDs xs
  | .dict kvs => OkKv kvs
def OkDs : List PyData → Prop
  | [] => True
  | x :: xs => OkD x ∧ OkDs xs
def OkKv : List (PyData × PyData) → Prop
  | [] => True
  | (k, v) :: r => OkD k ∧ OkD v ∧ OkKv r
end
theorem textFrom_le : ∀ (ts : List Str) (k : Nat) (acc : Str), (textFrom k acc ts).length ≤ acc.length + piled ts
  | [], k, acc => by show acc.length ≤ acc.length + piled []; omega
  | t :: r, k, acc => by
    have ih := textFrom_le r (k + 1) (acc ++ (if k > 0 then ", " else "" : String) ++ t)
    show (textFrom (k + 1) (acc ++ (if k > 0 then ", " else "" : String) ++ t) r).length ≤ _
    rw [piled_cons]
    rw [strLen_append, strLen_append] at ih
    have z : (Str.ofString (if k > 0 then ", " else "" : String)).length ≤ 2 := by
      split <;> decide
    omega
theorem join_le (ts : List Str) : (Str.join ", " ts).length ≤ piled ts := by
  by_cases h : ts = []
  · subst h
    exact Nat.zero_le _
  · have := join_length_add ts h
    omega
mutual
theorem shown_le : ∀ d : PyData, OkD d → d.shown.length ≤ big d
  | .none, _ => by
    simp only [PyData.shown, big]
    decide
  | .bool b, _ => by
    simp only [PyData.shown, big]
    cases b <;> decide
  | .int i, _ => by
    simp only [PyData.shown, big]
    exact Nat.le_refl _
  | .str x, h => by
    simp only [PyData.shown, big]
    exact reprText_le (by simpa only [OkD] using h)
  | .list xs, h => by
    simp only [PyData.shown, big]
    have z := shownAll_le xs (by simpa only [OkD] using h)
    have y := textFrom_le (PyData.shownAll xs) 0 "["
    unfold listText
    rw [strLen_append]
    have e1 : ("[" : Str).length = 1 := rfl
    have e2 : ("]" : Str).length = 1 := rfl
    omega
  | .tuple xs, h => by
    simp only [PyData.shown, big]
    have z := shownAll_le xs (by simpa only [OkD] using h)
    have y := join_le (PyData.shownAll xs)
    unfold tupleText
    rw [strLen_append, strLen_append]
    have e1 : ("(" : Str).length = 1 := rfl
    have e2 : (Str.ofString (if (PyData.shownAll xs).length == 1 then ",)" else ")" : String)).length ≤ 2 := by split <;> decide
    omega
  | .dict kvs, h => by
    simp only [PyData.shown, big]
    have z := shownKv_le kvs (by simpa only [OkD] using h)
    have y := join_le (PyData.shownKv kvs)
    unfold dictText
    rw [strLen_append, strLen_append]
    have e1 : ("{" : Str).length = 1 := rfl
    have e2 : ("}" : Str).length = 1 := rfl
    omega
theorem shownAll_le : ∀ ds : List PyData, OkDs ds → piled (PyData.shownAll ds) ≤ bigs ds
  | [], _ => by
    simp only [PyData.shownAll, bigs]
    exact Nat.le_refl _
  | x :: xs, h => by
    simp only [OkDs] at h
    simp only [PyData.shownAll, bigs]
    rw [piled_cons]
    have a := shown_le x h.1
    have b := shownAll_le xs h.2
    omega
theorem shownKv_le : ∀ ds : List (PyData × PyData), OkKv ds → piled (PyData.shownKv ds) ≤ bigKv ds
  | [], _ => by
    simp only [PyData.shownKv, bigKv]
    exact Nat.le_refl _
  | (k, v) :: r, h => by
    simp only [OkKv] at h
    simp only [PyData.shownKv, bigKv]
    rw [piled_cons, strLen_append, strLen_append]
    have a := shown_le k h.1
    have b := shown_le v h.2.1
    have c := shownKv_le r h.2.2
    have e : (": " : Str).length = 2 := rfl
    omega
end
theorem big_int {i : Int} {k : Nat} (hk : 0 < k) (h : i.natAbs < 10 ^ k) : big (.int i) ≤ k + 1 := by
  show (Str.ofString (toString i)).length ≤ k + 1
  rw [PySem.ofString_length]
  exact int_text_length_le10 hk h
end G

set_option Elab.async false
set_option linter.all false
set_option maxRecDepth 100000
set_option maxHeartbeats 4000000
/-! Data kept; repr of it; calls of defs whose promise asks that no guard stands around. -/
namespace G
open PySem PySem.Spec PyProof.Rows L2
theorem Kp.sqt {K : PySem.W.Frag} {S : List Addr} {a : Addr} {H H' : Hp} {xs : List V} (k : Kp S H H') (d : a ∉ S) (h : SqT K H a xs) : SqT K H' a xs := by
  rcases h with (h | ⟨o, h⟩) | h
  · exact .inl (.inl (k _ _ d h))
  · exact .inl (.inr ⟨o, k _ _ d h⟩)
  · exact .inr h
theorem Same.sqt {K : PySem.W.Frag} {a : Addr} {H H' : Hp} {xs : List V} (k : Same H H') (h : SqT K H a xs) : SqT K H' a xs := (Kp.same (S := []) k).sqt (fun z => nomatch z) h
mutual
theorem Dp.keep {K : PySem.W.Frag} {H H' : Hp} (k : Same H H') : ∀ (d : PyData) (v : V), Dp K H v d → Dp K H' v d
  | .none, _, h => by cases h; exact .non
  | .bool b, _, h => by cases h; exact .bl b
  | .int i, _, h => by cases h; exact .int i
  | .str x, _, h => by cases h; exact .str x
  | .list ds, _, h => by
    cases h with
    | lst h1 h2 => exact .lst (k.seq h1) (Dp.keeps k ds _ h2)
  | .tuple ds, _, h => by
    cases h with
    | tup h1 h2 => exact .tup (Same.sqt k h1) (Dp.keeps k ds _ h2)
  | .dict _, _, h => nomatch h
theorem Dp.keeps {K : PySem.W.Frag} {H H' : Hp} (k : Same H H') : ∀ (ds : List PyData) (vs : List V), DpAll K H vs ds → DpAll K H' vs ds
  | [], _, h => by cases h; exact .nil
  | d :: ds, _, h => by
    cases h with
    | cons h1 h2 => exact .cons (Dp.keep k d _ h1) (Dp.keeps k ds _ h2)
end
/-- what v shows when it is printed: data, or a small dict -/
def Shows (K : PySem.W.Frag) (H : Hp) (v : V) (d : PyData) : Prop := (Dp K H v d ∧ d.hasDict = false) ∨ (∃ a, v = .ref a ∧ H a = some (.dK []) ∧ d = .dict []) ∨
  ∃ (a : Addr) (x : Str) (i : Int), v = .ref a ∧ H a = some (.dK [(.inr x, .int i)]) ∧ d = .dict [(.str x, .int i)]
theorem Shows.keep {K : PySem.W.Frag} {H H' : Hp} {v : V} {d : PyData} (h : Shows K H v d) (k : Same H H') : Shows K H' v d := by
  rcases h with ⟨h, n⟩ | ⟨a, e, h, n⟩ | ⟨a, x, i, e, h, n⟩
  · exact .inl ⟨Dp.keep k d v h, n⟩
  · exact .inr (.inl ⟨a, e, k _ _ h, n⟩)
  · exact .inr (.inr ⟨a, x, i, e, k _ _ h, n⟩)
def rShow (K : PySem.W.Frag) : List V → Hp → VK → Prop := fun vs H Q => ∃ (v : V) (d : PyData), vs = [v] ∧ Shows K H v d ∧ d.showable = true ∧ OkD d ∧ d.depth ≤ 100 ∧ big d ≤ 1000000 ∧ Q (.str d.shown) H
theorem call_show {X : Cx} (hg : X.A.guards = some []) (hu : X.A.units + 101 < cLine) : CallR X (.builtin "repr") (rShow X.K) := by
  intro pins s σ H vs us Q I r h
  obtain ⟨v, d, rfl, hd, hs, ok, hdep, hb, q⟩ := h
  have hz : d.shown.length ≤ sizeLine := Nat.le_trans (shown_le d ok) (by rw [sizeLine_eq]; omega)
  have dict : ∀ (a : Addr) (kvs : List (Key × V)) (ds : List (PyData × PyData)), v = .ref a → H a = some (.dK kvs) → d = .dict ds →
      (∀ vs es, KV kvs vs → Pairs (mixKind X.prog X.w) es vs → ∃ as bs, ReadsAll s.heap (es.map (·.key)) (ds.map (·.1)) as ∧ ReadsAll s.heap (es.map (·.val)) (ds.map (·.2)) bs ∧ as = [] ∧ bs = []) →
      wpAny (model X.prog X.w) X.A (call (.builtin "repr") us) (EP X pins σ Q) X.xe s := by
    rintro a kvs ds rfl ha rfl hall
    obtain ⟨u, rfl, rv⟩ := vals1 r
    obtain rfl : u = Value.ref a := rv
    obtain ⟨_, hsm, ws, hkv, o, es, ep, ho, hex, hdt, _, hp, _⟩ := (show ObjOk X.prog X.w H s.heap a (.dK kvs) from I.hok a _ ha)
    obtain ⟨as, bs, r1, r2, e1, e2⟩ := hall ws es.toList hkv hp
    subst e1 e2
    refine repr_of_reads' (Reads.dict ho hex.1 hdt r1 r2) hs (fun _ hm => ?_) hg (by omega) (fun _ _ e => e) (fun h' t tk hk => ⟨.str _, H, I.kept hk, ⟨_, rfl⟩, q⟩) hz
    rw [List.append_nil, List.mem_singleton] at hm
    rw [hm] at hsm
    simp at hsm
  rcases hd with ⟨hd, hn⟩ | ⟨a, ev, ha, ed⟩ | ⟨a, x, i, ev, ha, ed⟩
  · exact call_reprD hg hu pins s σ H _ us Q I r ⟨v, d, rfl, hd, hs, hn, hdep, hz, q⟩
  · refine dict a [] [] ev ha ed fun vs es hkv hp => ?_
    cases hkv
    cases hp
    exact ⟨[], [], .nil, .nil, rfl, rfl⟩
  · refine dict a _ _ ev ha ed fun vs es hkv hp => ?_
    cases hkv with
    | @cons _ b _ l2 h1 h2 =>
      cases h2
      obtain ⟨k1, v1⟩ := b
      obtain ⟨e1, e2⟩ := h1
      obtain ⟨t, e2⟩ := e2
      dsimp only at e1 e2
      subst e1 e2
      cases hp with
      | @cons e kv es kvs h3 h4 h5 =>
        cases h5
        rcases keyIs_shape (k := Sum.inr x) (v := e.key) h3 with ⟨j, t2, z, _⟩ | ⟨y, t2, z, e3⟩
        · cases z
        cases z
        refine ⟨[], [], ?_, ?_, rfl, rfl⟩
        · show ReadsAll s.heap [e.key] [.str x] []
          rw [e3]
          exact .cons (as := []) (bs := []) (.str x t2) .nil
        · show ReadsAll s.heap [e.val] [.int i] []
          rw [h4]
          exact .cons (as := []) (bs := []) (.int i t) .nil
/-! ### calls where no guard stands around -/
def tCallG (sp : Sp) (t : TA) : TE := fun σ H Q => t σ H fun vs H1 => sp vs H1 Q E0
section
variable {X : Cx} {k : Nat} {f : Addr} {fd : FuncData} {ps : List Str} {sp : Sp} {x : Str} {p pos : Pos} {e : Expr} {es : List Expr} {t : TA}
theorem run_G {pins : List (Addr × Obj)} {σ : L2.St} {H : Hp} {s : Shared} {Q : VK} {us : List Value} {vs : List V} (F : FnOkG X.prog X.w X.K X.mg X.base k f fd ps sp) (gu : X.A.guards = some []) (hr : Room k X.A) (hb : Binds X.K fd ps [])
    (I : Inv X pins σ H s) (r : Vals vs us) (h : sp vs H Q E0) : wpAny (model X.prog X.w) X.A (call (.ref f) us) (EP X pins σ Q) X.xe s := by
  have hl : us.length = ps.length := r.length.symm.trans (F.len _ _ _ _ h)
  have b := hb s us I.kIn (by rw [List.append_nil]; exact hl)
  rw [List.append_nil] at b
  refine wpAny_call (codeAny_mono (F.run X.A X.stack s H ⟨us, []⟩ us vs Q E0 gu hr I.env0 b r h) fun r s' hq => ?_)
  match r, hq with
  | .error e, hq => exact False.elim hq
  | .ok (.ret u), hq => exact I.after hq
  | .ok .next, hq => exact False.elim hq
  | .ok .brk, hq => exact False.elim hq
  | .ok .cont, hq => exact False.elim hq
theorem pe_callG (F : FnOkG X.prog X.w X.K X.mg X.base k f fd ps sp) (gu : X.A.guards = some []) (hr : Room k X.A) (hg : Gl X x) (hm : X.mg x = some (.ref f)) (hk : PySem.W.keepIn X.K (.ref f) = true) (hb : Binds X.K fd ps [])
    (ha : PA X (e :: es) t) (hdb : (x == ("__debug__" : Str)) = false := by decide) (he : starEach (e :: es) X.env = (false, eval e X.env) :: starEach es X.env := by rfl) (hpl : (backTo pos (starEach es X.env)).any (·.1) = false := by rfl) :
    PE X (.Call (.Name x p) (e :: es) [] pos) (tCallG sp t) := by
  refine ⟨fun pins s σ H Q I h => wpAny_Call_Name_kw (ld_glob I hg hm ?_ hdb)⟩
  exact PySem.W.callWith_K (h₀ := X.base) I.ok.mod.kin hk (thn (ha.run pos pins s σ H _ I h) fun us s1 ⟨vs, H1, I1, r, q⟩ => ⟨I1.kIn, run_G F gu hr hb I1 r q⟩) he hpl
end
end G

set_option Elab.async false
set_option linter.all false
set_option maxRecDepth 100000
set_option maxHeartbeats 4000000
/-! What is printed is of Unicode's signs, too. -/
namespace G
open PySem PySem.Spec PyProof.Rows L2
theorem char_lt (d : Char) : d.toNat < 1114112 := by
  have h := d.valid
  have z : d.toNat = d.val.toNat := rfl
  rw [z]
  rcases h with h | ⟨_, h⟩
  · exact Nat.lt_trans h (by decide)
  · exact h
theorem reprChar_ok {q c x : Nat} (hq : q < 1114112) (hc : c < 1114112) (h : x ∈ PySem.Builtin.Str.reprChar q c) : x < 1114112 := by
  have hex : ∀ w : Nat, x ∈ List.replicate (w - ((Nat.toDigits 16 c).map Char.toNat).length) 48 ++ (Nat.toDigits 16 c).map Char.toNat → x < 1114112 := by
    intro w hw
    rcases List.mem_append.mp hw with hw | hw
    · rw [(List.mem_replicate.mp hw).2]
      decide
    · obtain ⟨d, _, rfl⟩ := List.mem_map.mp hw
      exact char_lt d
  unfold PySem.Builtin.Str.reprChar at h
  simp only [] at h
  have two : ∀ a b : Nat, a < 1114112 → b < 1114112 → x ∈ [a, b] → x < 1114112 := by
    intro a b ha hb hm
    simp only [List.mem_cons, List.not_mem_nil, or_false] at hm
    rcases hm with rfl | rfl <;> assumption
  split at h
  · exact two _ _ (by decide) hc h
  split at h
  · exact two _ _ (by decide) (by decide) h
  split at h
  · exact two _ _ (by decide) (by decide) h
  split at h
  · exact two _ _ (by decide) (by decide) h
  split at h
  · rw [List.mem_singleton.mp h]
    exact hc
  split at h
  · rcases List.mem_append.mp h with h | h
    · exact two _ _ (by decide) (by decide) h
    · exact hex _ h
  split at h
  · rcases List.mem_append.mp h with h | h
    · exact two _ _ (by decide) (by decide) h
    · exact hex _ h
  · rcases List.mem_append.mp h with h | h
    · exact two _ _ (by decide) (by decide) h
    · exact hex _ h
theorem reprQuote_lt (x : Str) : reprQuote x < 1114112 := by
  unfold reprQuote
  split <;> decide
theorem reprText_ok {x : Str} (h : OkS x) : OkS (reprText x) := by
  have key : ∀ (l : List Nat) (acc : Array Nat), (∀ c ∈ l, c < 1114112) → (∀ c ∈ acc.toList, c < 1114112) →
      ∀ c ∈ (l.foldl (fun out c => out ++ (PySem.Builtin.Str.reprChar (reprQuote x) c).toArray) acc).toList, c < 1114112 := by
    intro l
    induction l with
    | nil => intro acc _ ha; exact ha
    | cons c r ih =>
      intro acc hl ha
      refine ih _ (fun d hd => hl d (List.mem_cons_of_mem _ hd)) fun d hd => ?_
      rw [Array.toList_append] at hd
      rcases List.mem_append.mp hd with hd | hd
      · exact ha d hd
      · exact reprChar_ok (reprQuote_lt x) (hl c (List.mem_cons_self ..)) (by simpa using hd)
  intro c hc
  unfold reprText at hc
  dsimp only at hc
  rw [Array.toList_push, ← Array.foldl_toList] at hc
  rcases List.mem_append.mp hc with hc | hc
  · exact key x.cps.toList #[reprQuote x] h (fun d hd => by
      have e : d = reprQuote x := by simpa using hd
      rw [e]
      exact reprQuote_lt x) c hc
  · rw [List.mem_singleton.mp hc]
    exact reprQuote_lt x
theorem textFrom_ok : ∀ (ts : List Str) (k : Nat) (acc : Str), OkS acc → (∀ t ∈ ts, OkS t) → OkS (textFrom k acc ts)
  | [], k, acc, h, _ => h
  | t :: r, k, acc, h, hr => textFrom_ok r (k + 1) _ ((h.app (OkS.of _)).app (hr t (List.mem_cons_self ..))) fun u hu => hr u (List.mem_cons_of_mem _ hu)
theorem join_ok : ∀ (ts : List Str), (∀ t ∈ ts, OkS t) → OkS (Str.join ", " ts)
  | [], _ => OkS.of ""
  | [x], h => h x (List.mem_cons_self ..)
  | x :: y :: r, h => ((h x (List.mem_cons_self ..)).app (OkS.of ", ")).app (join_ok (y :: r) fun u hu => h u (List.mem_cons_of_mem _ hu))
mutual
theorem shown_ok : ∀ d : PyData, OkD d → OkS d.shown
  | .none, _ => by
    simp only [PyData.shown]
    exact OkS.of _
  | .bool b, _ => by
    simp only [PyData.shown]
    cases b <;> exact OkS.of _
  | .int i, _ => by
    simp only [PyData.shown]
    exact OkS.of _
  | .str x, h => by
    simp only [PyData.shown]
    exact reprText_ok (by simpa only [OkD] using h)
  | .list xs, h => by
    simp only [PyData.shown]
    exact (textFrom_ok _ _ _ (OkS.of _) (shownAll_ok xs (by simpa only [OkD] using h))).app (OkS.of _)
  | .tuple xs, h => by
    simp only [PyData.shown]
    exact ((OkS.of _).app (join_ok _ (shownAll_ok xs (by simpa only [OkD] using h)))).app (OkS.of _)
  | .dict kvs, h => by
    simp only [PyData.shown]
    exact ((OkS.of _).app (join_ok _ (shownKv_ok kvs (by simpa only [OkD] using h)))).app (OkS.of _)
theorem shownAll_ok : ∀ ds : List PyData, OkDs ds → ∀ t ∈ PyData.shownAll ds, OkS t
  | [], _, t, h => by simp [PyData.shownAll] at h
  | x :: xs, h, t, ht => by
    simp only [OkDs] at h
    simp only [PyData.shownAll, List.mem_cons] at ht
    rcases ht with rfl | ht
    · exact shown_ok x h.1
    · exact shownAll_ok xs h.2 t ht
theorem shownKv_ok : ∀ ds : List (PyData × PyData), OkKv ds → ∀ t ∈ PyData.shownKv ds, OkS t
  | [], _, t, h => by simp [PyData.shownKv] at h
  | (k, v) :: r, h, t, ht => by
    simp only [OkKv] at h
    simp only [PyData.shownKv, List.mem_cons] at ht
    rcases ht with rfl | ht
    · exact ((shown_ok k h.1).app (OkS.of _)).app (shown_ok v h.2.1)
    · exact shownKv_ok r h.2.2 t ht
end
theorem OkS.ok {x : Str} (h : OkS x) : PyData.strOk x = true := by
  unfold PyData.strOk
  rw [← Array.all_toList, List.all_eq_true]
  intro c hc
  exact decide_eq_true (h c hc)
end G

set_option Elab.async false
set_option linter.all false
set_option maxRecDepth 100000
set_option maxHeartbeats 4000000
/-! Errors as values: made, their fields read, asked by isinstance. -/
namespace G
open PySem PySem.Spec PyProof.Rows L2
/-- the error at a, of the class at C, with these fields -/
def Er (H : Hp) (a C : Addr) (fs : List (Str × V)) : Prop := (H a = some (exo a C none) ∧ fs = []) ∨ ∃ dx, H a = some (exo a C (some dx)) ∧ H dx = some (exd dx fs)
theorem Er.same {H H' : Hp} {a C : Addr} {fs : List (Str × V)} (e : Er H a C fs) (s : Same H H') : Er H' a C fs := by
  rcases e with ⟨h, f⟩ | ⟨dx, h, f⟩
  · exact .inl ⟨s _ _ h, f⟩
  · exact .inr ⟨dx, s _ _ h, s _ _ f⟩
/-- what a class of errors must say, by one test -/
def ecB (K : PySem.W.Frag) (C : Addr) : Bool :=
  PySem.W.findIn K (.ref C) "__setattr__" == some (some (.builtin "object.__setattr__")) && PySem.W.hasDictIn K C &&
  PySem.W.findIn K (.ref C) "__getattribute__" == some (some (.builtin "BaseException.__getattribute__")) && PySem.W.findIn K (.ref C) "__getattr__" == some none &&
  PySem.W.subIn K (.ref C) (.type "BaseException") == some true && PySem.W.findIn K (.ref C) "__class__" == some (some (.builtin "object.__class__")) &&
  PySem.W.mroIn K C (.type "object") == some true && PySem.W.keepIn K (.ref C) &&
  PySem.W.specialIn K (.builtin "object.__class__") "__get__" == some (some (.builtin "getset_descriptor.__get__")) && PySem.W.takesIn K (.builtin "object.__class__") == some true
structure EC (K : PySem.W.Frag) (C : Addr) : Prop where
  sa : PySem.W.findIn K (.ref C) "__setattr__" = some (some (.builtin "object.__setattr__"))
  hd : PySem.W.hasDictIn K C = true
  ga : PySem.W.findIn K (.ref C) "__getattribute__" = some (some (.builtin "BaseException.__getattribute__"))
  gt : PySem.W.findIn K (.ref C) "__getattr__" = some none
  sb : PySem.W.subIn K (.ref C) (.type "BaseException") = some true
  ca : PySem.W.findIn K (.ref C) "__class__" = some (some (.builtin "object.__class__"))
  mo : PySem.W.mroIn K C (.type "object") = some true
  kp : PySem.W.keepIn K (.ref C) = true
  cg : PySem.W.specialIn K (.builtin "object.__class__") "__get__" = some (some (.builtin "getset_descriptor.__get__"))
  ct : PySem.W.takesIn K (.builtin "object.__class__") = some true
theorem EC.of {K : PySem.W.Frag} {C : Addr} (h : ecB K C = true) : EC K C := by
  unfold ecB at h
  simp only [Bool.and_eq_true, beq_iff_eq] at h
  obtain ⟨⟨⟨⟨⟨⟨⟨⟨⟨a, b⟩, c⟩, d⟩, e⟩, f⟩, g⟩, i⟩, j⟩, k⟩ := h
  exact ⟨a, b, c, d, e, f, g, i, j, k⟩
theorem EC.cl {K : PySem.W.Frag} {C : Addr} (h : EC K C) : (PySem.W.clsIn K C).isSome = true := by
  obtain ⟨cd, hc, _⟩ := PySem.W.any_some h.hd
  rw [hc]
  rfl
/-- a built-in base: its facts for making, and for a field's store -/
structure BaseF (B newId initId : String) (bm : List Value) : Prop where
  ba : ExcBaseFacts B newId initId bm
  st : StoreFacts B bm "object.__setattr__" "object"
theorem baseVE : BaseF "ValueError" "ValueError.__new__" "ValueError.__init__" [.type "ValueError", .type "Exception", .type "BaseException", .type "object"] := ⟨F.excBase_ValueError, F.store_ValueError⟩
theorem baseLE : BaseF "LookupError" "LookupError.__new__" "LookupError.__init__" [.type "LookupError", .type "Exception", .type "BaseException", .type "object"] := ⟨F.excBase_LookupError, F.store_LookupError⟩
theorem baseEx : BaseF "Exception" "Exception.__new__" "Exception.__init__" [.type "Exception", .type "BaseException", .type "object"] := ⟨F.excBase_Exception, F.store_Exception⟩

/-! ### a field's store -/
section
variable {prog : Program} {w : World} {A : Around} {R : Result → Shared → Prop} {hp : Heap} {g : Array GenState} {d : Drawn} {t : Nat} {os : OsState}
/-- the first field of an error: its dict is made -/
theorem osa_first {B : String} {bm : List Value} {K : PySem.W.Frag} {name : Str} {tk : Tok} {v : Value} {x C t1 : Addr} (SF : StoreFacts B bm "object.__setattr__" "object") (X : K.In hp) (hx : hp.get? x = some (PySem.HandSPX.excO C t1))
    (ov : PySem.W.excOver K C bm = true) (ht : PySem.W.takerIn K C name = some none) (hh : PySem.W.hasDictIn K C = true)
    (hq : ∀ h' tk' dx, (∀ b o, b ≠ x → hp.get? b = some o → h'.get? b = some o) → hp.objs.size ≤ dx → dx ≠ x → h'.get? x = some { PySem.HandSPX.excO C t1 with dict := some dx } →
      h'.Ns1 dx (fun y => if y = name then some v else none) → R (.ok (.ret .none)) ⟨h', g, d, tk', os⟩) :
    codeAny (model prog w) A (.call (.builtin "object.__setattr__") ⟨[.ref x, .str name tk, v], []⟩) R ⟨hp, g, d, t, os⟩ := by
  have ne : x ≠ hp.objs.size := Nat.ne_of_lt (Heap.lt_size hx)
  refine PySem.W.osa_openX (od := none) (s := ⟨hp, g, d, t, os⟩) SF X ⟨hx, rfl, rfl, trivial⟩ ov ht fun b => ?_
  obtain ⟨cd, hc, hd'⟩ := PySem.W.any_some hh
  have L := PySem.W.looks_clsIn (M := model prog w) X hc
  refine wpAny_bind (wpAny_pure (wpAny_bind (PySem.W.instanceDict_exc (s := ⟨hp, g, d, t, os⟩) hx L hd' ?_)))
  refine PySem.HandSPX.store_in_new ?_ fun h' tk' hn hs => ?_
  · exact ⟨_, #[], _, (Heap.get?_update_ne _ _ _ _ ne.symm).trans (Heap.get?_push_at rfl rfl), rfl, fun e he => absurd he (by simp), fun _ => rfl⟩
  · have hx1 : (hp.push (PySem.W.dictOf [] 0)).get? x = some (PySem.HandSPX.excO C t1) := Heap.get?_push_of_some _ hx
    refine hq h' tk' hp.objs.size (fun b o hb ho => ?_) (Nat.le_refl _) ne.symm ?_ hn
    · refine (hs.2 b (Nat.ne_of_lt (Heap.lt_size ho))).trans ?_
      exact (Heap.get?_update_ne _ _ _ _ hb).trans (Heap.get?_push_of_some _ ho)
    · exact (hs.2 x ne).trans (Heap.get?_update_self _ hx1 rfl)
end
/-- at the class C a field may be stored on an error without a dict -/
structure ES (K : PySem.W.Frag) (C : Addr) (f : Str) : Prop where
  b : ∃ B newId initId bm, BaseF B newId initId bm ∧ PySem.W.excOver K C bm = true
  c : EC K C
  t : PySem.W.takerIn K C f = some none
section
variable {X : Cx} {pins : List (Addr × Obj)} {σ : L2.St} {H : Hp} {s : Shared} {a C : Addr} {f : Str} {y : V} {u : Value} {Q : Unit → Shared → Prop} {E : Value → Shared → Prop} {A : Around}
theorem os_first (T : ES X.K C f) (I : Inv X pins σ H s) (e : H a = some (exo a C none)) (ry : RelV y u)
    (h : ∀ dx s', H dx = none → dx ≠ a → Inv X pins σ (upd (upd H dx (exd dx [(f, y)])) a (exo a C (some dx))) s' → Q () s') : wpAny (model X.prog X.w) A (setAttr (.ref a) f u) Q E s := by
  obtain ⟨B, _, _, bm, BF, ov⟩ := T.b
  obtain ⟨t1, ho⟩ := exo_at I.hok e
  obtain ⟨hp, g, d, t, os⟩ := s
  refine PySem.W.set_plain I.kIn (ox := PySem.HandSPX.excO C t1) (od := none) ⟨ho, rfl, rfl, trivial⟩ T.c.sa ?_
  refine osa_first BF.st I.kIn ho ov T.t T.c.hd fun h' tk' dx k dn dne hx hn => ?_
  have nH : H dx = none := I.hok.fresh dn
  have old : ∀ {b : Addr} {o : Obj}, hp.get? b = some o → b ≠ dx := fun q z => Nat.lt_irrefl _ (Nat.lt_of_lt_of_le (z ▸ Heap.lt_size q) dn)
  have una : ∀ {b : Addr}, H b = none → b ≠ a := fun n z => by rw [z, e] at n; cases n
  have same : ∀ {b : Addr}, b ≠ a → b ≠ dx → upd (upd H dx (exd dx [(f, y)])) a (exo a C (some dx)) b = H b := fun h1 h2 => by rw [upd_ne h1, upd_ne h2]
  have U : Un X.fs [] H (upd (upd H dx (exd dx [(f, y)])) a (exo a C (some dx))) hp h' :=
    { keep := fun b o q n _ _ => k b o (una n) q
      slot := fun b o q n _ _ => ⟨_, k b o (una n) q⟩
      free := fun b o q n _ => (same (una n) (old q)).trans n
      there := fun b o q _ => if hb : b = a then ⟨_, hb ▸ hx⟩ else ⟨o, k b o hb q⟩
      tups := fun b xs q => (same (at_ne e q exo_tup) (ne_of_none q nH)).trans q
      frzs := fun b o v q => (same (at_ne e q exo_frz) (ne_of_none q nH)).trans q
      tbls := fun b ps q => ⟨#[], by rw [same (at_ne e q exo_tbl) (ne_of_none q nH), q]; simp⟩ }
  refine h dx _ nH dne (I.un (t' := tk') U fun b o q => ?_)
  by_cases hb : b = a
  · subst hb
    rw [upd_same] at q
    cases q
    exact exo_ok hx
  by_cases hd : b = dx
  · subst hd
    rw [upd_ne hb, upd_same] at q
    cases q
    exact exd_ok hn (relO_put (fs := []) ry fun _ => True.intro)
  rw [same hb hd] at q
  refine (I.hok b o q).stay (fun c v hc z => k c v ?_ z) (fun c hc => (same (at_ne e hc exo_own) (ne_of_none hc nH)).trans hc) fun c xs hc => (same (at_ne e hc exo_tup) (ne_of_none hc nH)).trans hc
  rcases hc with rfl | hc
  · exact hb
  · exact at_ne e hc exo_own
end
/-- o.f = e, o an error without fields -/
def tOs1 (K : PySem.W.Frag) (f : Str) (to te : TE) : TS := fun D σ H => te σ H fun y H1 => to σ H1 fun x H2 => ∃ a C : Addr, x = .ref a ∧ ES K C f ∧ H2 a = some (exo a C none) ∧ ∀ dx, H2 dx = none → dx ≠ a → D.nx σ (upd (upd H2 dx (exd dx [(f, y)])) a (exo a C (some dx)))
section
variable {X : Cx} {o e : Expr} {es : List Expr} {to te : TE} {ta : TA} {f : Str} {p p' pos : Pos}
theorem ps_os1 (ho : PE X o to) (he : PE X e te) (hs : swapsWith e (some (.Attribute o f p')) pos.line X.env = pure false := by rfl) : PS X (.Assign [.Attribute o f p'] e pos) (tOs1 X.K f to te) := by
  refine ⟨fun pins s σ H D I h => plainObj_wpAny_Assign_Attribute (thn (he.run pins s σ H _ I h) fun v s1 ⟨y, H1, I1, r1, q1⟩ => thn (ho.run pins s1 σ H1 _ I1 q1) fun u s2 ⟨x, H2, I2, r2, a, C, ex, T, ea, q⟩ => ?_) hs⟩
  subst ex
  obtain rfl : u = Value.ref a := r2
  exact os_first T I2 ea r1 fun dx s' n ne J => ⟨σ, _, J, q dx n ne⟩
/-! ### C(e, ..) -/
/-- the class is one with an own __init__ at fI -/
structure EM (K : PySem.W.Frag) (C fI : Addr) : Prop where
  b : ∃ B newId initId bm, BaseF B newId initId bm ∧ PySem.W.excInitIn K C bm newId = true
  kp : PySem.W.keepIn K (.ref C) = true
  i : PySem.W.findIn K (.ref C) "__init__" = some (some (.ref fI))
  t : PySem.W.typeIn K (.ref fI) = some (.type "function")
def tMkE (C : Addr) (sp : Sp) (ta : TA) : TE := fun σ H Q => ta σ H fun vs H1 => vs.length ≤ 1000 ∧ ∀ a, H1 a = none → sp (.ref a :: vs) (upd H1 a (exo a C none)) (fun v H2 => v = .non ∧ Q (.ref a) H2) (fun _ _ _ => False)
theorem pe_mkE {CX : CXT} {x : Str} {C fI : Addr} {k : Nat} {fd : FuncData} {ps : List Str} {sp : Sp} (M : EM X.K C fI) (F1 : FnOk X.prog X.w X.K X.mg X.base CX k fI fd ps sp) (hr : Room (k + 1) X.A) (hb : Binds X.K fd ps []) (hx : Passes CX X (fun _ _ _ => False))
    (hg : Gl X x) (hm : X.mg x = some (.ref C)) (ha : PA X (e :: es) ta)
    (hdb : (x == ("__debug__" : Str)) = false := by decide) (he : starEach (e :: es) X.env = (false, eval e X.env) :: starEach es X.env := by rfl) (hpl : (backTo pos (starEach es X.env)).any (·.1) = false := by rfl) :
    PE X (.Call (.Name x p) (e :: es) [] pos) (tMkE C sp ta) := by
  refine ⟨fun pins s σ H Q I h => ?_⟩
  obtain ⟨B, newId, initId, bm, BF, q⟩ := M.b
  refine wpAny_Call_Name_kw (ld_glob I hg hm ?_ hdb)
  refine PySem.W.callWith_K (h₀ := X.base) I.ok.mod.kin M.kp (thn (ha.run pos pins s σ H _ I h) fun us s1 ⟨vs, H1, I1, r1, hz, q1⟩ => ⟨I1.kIn, ?_⟩) he hpl
  obtain ⟨nm, N, qn, bs, bm', hdct, sn, sub, ab, col, dd, k0, k1, k2, k3, k5, hC, hT⟩ := PySem.W.excInit_of I1.kIn q
  obtain ⟨hp, g, dr, tk, os⟩ := s1
  have hsz : hp.objs.size ≤ hp.objs.size + 1 := Nat.le_succ _
  have hq := q1 (hp.objs.size + 1) (I1.hok.fresh hsz)
  have I2 : Inv X pins σ (upd H1 (hp.objs.size + 1) (exo (hp.objs.size + 1) C none)) ⟨(hp.push (PySem.W.kdv_tup us)).push (PySem.HandSPX.excO C hp.objs.size), g, dr, tk, os⟩ :=
    I1.laid (t' := tk) (a := hp.objs.size + 1) (fun b o z => Heap.get?_push_of_some _ (Heap.get?_push_of_some _ z)) hsz (exo_ok (by heap_get))
  have r2 : Vals (V.ref (hp.objs.size + 1) :: vs) (Value.ref (hp.objs.size + 1) :: us) := .cons rfl r1
  have hl : (Value.ref (hp.objs.size + 1) :: us).length = ps.length := r2.length.symm.trans (F1.len _ _ _ _ hq)
  have hus : us.length ≤ sizeLine := by rw [← r1.length]; exact line1000 hz
  have hbb := hb _ (Value.ref (hp.objs.size + 1) :: us) I2.kIn (by rw [List.append_nil]; exact hl)
  rw [List.append_nil] at hbb
  show wpAny _ _ (call (.ref C) us) _ _ _
  refine wpAny_call (PySem.HandSPX.call_own BF.ba hT hC (PySem.W.looks_findIn I1.kIn M.i) (fun self => PySem.W.bind_fn I1.kIn self M.t) hus
    (codeAny_mono (F1.run _ X.stack _ _ ⟨Value.ref (hp.objs.size + 1) :: us, []⟩ (Value.ref (hp.objs.size + 1) :: us) _ _ (fun _ _ _ => False) (hr.make C us []) (I2.env0.make C us []) hbb r2 hq) fun r s' hq' => ?_))
  match r, hq' with
  | .error er, hq' => exact hx pins σ _ _ er s' I2 hq'
  | .ok (.ret u), hq' =>
    obtain ⟨v, H', I3, rv, ev, q3⟩ := I2.after hq'
    subst ev
    exact ⟨rv, V.ref (hp.objs.size + 1), H', I3, rfl, q3⟩
  | .ok .next, hq' => exact False.elim hq'
  | .ok .brk, hq' => exact False.elim hq'
  | .ok .cont, hq' => exact False.elim hq'
/-- C(), a class without an own __init__ -/
theorem pe_mkE0 {x : Str} {C : Addr} {B newId initId : String} {bm : List Value} (BF : BaseF B newId initId bm) (q : PySem.W.excIn X.K C bm newId = true) (kC : PySem.W.keepIn X.K (.ref C) = true) (hg : Gl X x) (hm : X.mg x = some (.ref C)) (hdb : (x == ("__debug__" : Str)) = false := by decide) :
    PE X (.Call (.Name x p) [] [] pos) (fun _ H Q => ∀ a, H a = none → Q (.ref a) (upd H a (exo a C none))) := by
  refine ⟨fun pins s σ H Q I h => wpAny_Call_Name_kw (ld_glob I hg hm ?_ hdb)⟩
  refine PySem.W.callWith_K0 I.kIn kC ?_
  obtain ⟨bm', N, nm, qn, bs, hdct, sn, sub, ab, col, dd, k0, k1, k2, k3, k5, mN, hC, hN, hni, T⟩ := exc_obj I.kIn q
  obtain ⟨hp, g, dr, tk, os⟩ := s
  refine wpAny_call_exc_subT BF.ba T hC hN hni (fun h' a hm => ?_) (Nat.zero_le _)
  obtain ⟨t1, ht, _, _⟩ := hm.there
  have hn : H a = none := I.hok.gone hm.new
  exact ⟨.ref a, upd H a (exo a C none), I.laidN hm.keeps hm.new hn (exo_ok ht), rfl, h a hn⟩
/-! ### a field of an error -/
def tErF (K : PySem.W.Frag) (f : Str) (to : TE) : TE := fun σ H Q => to σ H fun x H1 => ∃ (a C : Addr) (fs : List (Str × V)) (v : V), x = .ref a ∧ Er H1 a C fs ∧ EC K C ∧ PySem.W.findIn K (.ref C) f = some none ∧ fs.lookup f = some v ∧ Q v H1
theorem pe_erF (ho : PE X o to) (hb : attributeBase o f X.env (eval o X.env) = eval o X.env := by rfl) : PE X (.Attribute o f pos) (tErF X.K f to) := by
  refine ⟨fun pins s σ H Q I h => attr_of hb (thn (ho.run pins s σ H _ I h) fun u s1 ⟨x, H1, I1, rx, a, C, fs, v, ex, er, c, hno, hl, q⟩ => ?_)⟩
  subst ex
  obtain rfl : u = Value.ref a := rx
  rcases er with ⟨_, z⟩ | ⟨dx, ea, ed⟩
  · subst z
    cases hl
  obtain ⟨t1, ho1⟩ := exo_at I1.hok ea
  obtain ⟨mA, hns, rel⟩ := exd_at I1.hok ed
  obtain ⟨od, hod, hl2⟩ := lookIn_ns hns
  obtain ⟨u, hu, ru⟩ := RelO.some_of (v := v) (o := mA f) (by rw [← hl]; exact rel f)
  exact PySem.HandSPX.exc_get I1.kIn (od := some od) ⟨ho1, rfl, rfl, hod⟩ c.ga c.gt c.sb (PySem.W.findObj_own c.hd hno rfl (by rw [hl2, hu])) (handed_of ru) ⟨v, H1, I1.tok _, ru, q⟩
/-! ### isinstance of an error -/
def rIsEr (K : PySem.W.Frag) : List V → Hp → VK → Prop := fun vs H Q => ∃ (a C : Addr) (fs : List (Str × V)) (c : V) (cv : Value) (b : Bool), vs = [.ref a, c] ∧ Er H a C fs ∧ EC K C ∧ ClsV c cv ∧ PySem.W.kitOne K (.ref C) cv = some b ∧ Q (.bl b) H
theorem call_isEr : CallR X (.builtin "isinstance") (rIsEr X.K) := by
  intro pins s σ H vs us Q I r h
  obtain ⟨a, C, fs, c, cv, b, rfl, er, ec, hc, e, q⟩ := h
  obtain ⟨u1, u2, rfl, r1, r2⟩ := vals2 r
  obtain rfl : u1 = Value.ref a := r1
  have e2 := hc.eq r2
  subst e2
  have key : ∀ (ox : Obj) (od : Option Obj), PySem.W.InstAt s.heap a ox C od → wpAny (model X.prog X.w) X.A (call (.builtin "isinstance") [.ref a, u2]) (EP X pins σ Q) X.xe s := fun ox od J =>
    PySem.W.kia_one (PySem.W.kitx_exc (ox := ox) (od := od) ec.cl ec.ga ec.gt ec.sb ec.ca ec.cg ec.ct ec.mo) I.kIn J e (fun z => nomatch z) fun tk => ⟨.bl b, H, I.tok tk, rfl, q⟩
  rcases er with ⟨ea, _⟩ | ⟨dx, ea, ed⟩
  · obtain ⟨t1, ho1⟩ := exo_at I.hok ea
    exact key _ none ⟨ho1, rfl, rfl, trivial⟩
  · obtain ⟨t1, ho1⟩ := exo_at I.hok ea
    obtain ⟨mA, hns, rel⟩ := exd_at I.hok ed
    obtain ⟨od, hod, _⟩ := lookIn_ns hns
    exact key _ (some od) ⟨ho1, rfl, rfl, hod⟩
end
end G

set_option Elab.async false
set_option linter.all false
set_option maxRecDepth 100000
set_option maxHeartbeats 4000000
/-! An own error's __init__ that stores one field. -/
namespace G
open PySem PySem.Spec PyProof.Rows L2
/-- self.f = f -/
def spI1 (K : PySem.W.Frag) (f : Str) : Sp := fun vs H Q _ => ∃ (a C : Addr) (v : V), vs = [.ref a, v] ∧ ES K C f ∧ H a = some (exo a C none) ∧ ∀ dx, H dx = none → dx ≠ a → Q .non (upd (upd H dx (exd dx [(f, v)])) a (exo a C (some dx)))
end G

set_option Elab.async false
set_option linter.all false
set_option maxRecDepth 100000
set_option maxHeartbeats 4000000
/-! Further rules: a base's method called by its class; a local that holds one of several defs, called with a star; an own error over any base raised, its field read where it is caught. -/
namespace G
open PySem PySem.Spec PyProof.Rows L2 StX ClX
section
variable {X : Cx} {CX : CXT} {k i : Nat} {f C : Addr} {mc : Value} {fd : FuncData} {ps : List Str} {sp : Sp} {E : XK} {x m n : Str} {o e : Expr} {es : List Expr} {te ta : TE} {t : TA} {p apos pos : Pos}
/-- C.m(e, ..), m a plain def of the class C -/
def tCfn (C : Addr) (sp : Sp) (E : XK) (ta : TE) (t : TA) : TE := fun σ H Q => ta σ H fun x H1 => x = .ref C ∧ t σ H1 fun vs H2 => sp vs H2 Q E
theorem pe_cfn {pl : Sem Bool} (he : PE X o ta) (r : CRead X.K C mc) (c : PySem.W.findCls X.K (.ref C) mc m = some (.val (.ref f))) (kf : PySem.W.keepIn X.K (.ref f) = true) (F : FnOk X.prog X.w X.K X.mg X.base CX k f fd ps sp) (hr : Room k X.A) (hb : Binds X.K fd ps []) (hx : Passes CX X E) (ha : PA X (e :: es) t)
    (hst : starEach (e :: es) X.env = (false, eval e X.env) :: starEach es X.env := by rfl) (hpl : (backTo pos (starEach es X.env)).any (·.1) = false := by rfl)
    (ht : eval (.Call (.Attribute o m apos) (e :: es) [] pos) X.env = (do
      let ov ← eval o X.env
      standAt apos.atName
      let (f, first) ← holding [ov] (getMethod ov m pl)
      callWith pos f first (backTo pos (starEach (e :: es) X.env)) (backToKw pos (keywordEach [] X.env))) := by rfl) :
    PE X (.Call (.Attribute o m apos) (e :: es) [] pos) (tCfn C sp E ta t) := by
  refine ⟨fun pins s σ H Q I h => ?_⟩
  refine PySem.W.methodCall_KW (pl := pl) (thn (he.run pins s σ H _ I h) fun u s1 ⟨y, H1, I1, ry, ey, q⟩ => ?_) ht
  subst ey
  obtain rfl : u = Value.ref C := ry
  refine PySem.W.method_cls I1.kIn r.ga (getcval_ok (v := .ref f) I1 r ⟨c, rfl⟩ fun s2 I2 => ?_)
  refine PySem.W.callWith_K (first := []) (h₀ := X.base) I.ok.mod.kin kf (thn (ha.run pos pins s2 σ H1 _ I2 q) fun us s3 ⟨vs, H2, I3, rv, q2⟩ => ⟨I3.kIn, ?_⟩) hst hpl
  have e0 : vs ++ [] = vs := List.append_nil vs
  exact run_fn F hr hb .nil hx I3 rv (by rw [e0]; exact q2)
/-- one of several defs that a local may hold -/
structure HeldX (P : Program) (w : World) (K : PySem.W.Frag) (mg : Str → Option Value) (base : Heap) (CX : CXT) (k : Nat) (f : Addr) (sp : Sp) : Prop where
  ex : ∃ (fd : FuncData) (ps : List Str), FnOk P w K mg base CX k f fd ps sp ∧ PySem.W.keepIn K (.ref f) = true ∧ Binds K fd ps []
def tCallV (i : Nat) (S : Addr → Sp → Prop) (E : XK) (t : TA) : TE := fun σ H Q => ∃ f sp, σ[i]? = some (some (.ref f)) ∧ S f sp ∧ t σ H fun vs H1 => sp vs H1 Q E
/-- x(e, .., *y), x a local -/
theorem pe_callV {S : Addr → Sp → Prop} (A : ∀ f sp, S f sp → HeldX X.prog X.w X.K X.mg X.base CX k f sp) (hr : Room k X.A) (hN : X.N[i]? = some x) (hv : Vis X.env.scope x) (hx : Passes CX X E) (ha : PA X (e :: es) t)
    (hdb : (x == ("__debug__" : Str)) = false := by decide) (hcd : (x == ("__classdict__" : Str)) = false := by decide)
    (he : starEach (e :: es) X.env = (false, eval e X.env) :: starEach es X.env := by rfl) (hst : (backTo pos (starEach es X.env)).any (·.1) = true := by rfl) : PE X (.Call (.Name x p) (e :: es) [] pos) (tCallV i S E t) := by
  refine ⟨fun pins s σ H Q I ⟨f, sp, hs, hS, ht⟩ => ?_⟩
  obtain ⟨fd, ps, F, hk, hb⟩ := (A f sp hS).ex
  refine wpAny_Call_Name_kw (thn ((pe_var (pos := p) hN hv hdb hcd).run pins s σ H (fun v H1 => v = .ref f ∧ H1 = H) I ⟨.ref f, hs, rfl, rfl⟩) fun u s1 ⟨v, H1, I1, r1, q1⟩ => ?_)
  obtain ⟨rfl, rfl⟩ := q1
  cases r1
  refine PySem.W.callWith_S2 (h₀ := X.base) I.ok.mod.kin hk (thn (ha.run pos pins s1 σ _ _ I1 ht) fun us s2 ⟨vs, H2, I2, r, q⟩ => ⟨I2.kIn, ?_⟩) he hst
  have e0 : vs ++ [] = vs := List.append_nil vs
  exact run_fn F hr hb .nil hx I2 r (by rw [e0]; exact q)
/-! ### raise C(e), C's own __init__ keeping sp -/
def tPmk (C : Addr) (sp : Sp) (ta : TA) : L2.St → Hp → XK → Prop := fun σ H Q => ta σ H fun vs H1 => vs.length ≤ 1000 ∧ ∀ a, H1 a = none → sp (.ref a :: vs) (upd H1 a (exo a C none))
  (fun v H2 => v = .non ∧ ∃ (d : Addr) (fs : List (Str × V)), H2 a = some (exo a C (some d)) ∧ H2 d = some (exd d fs) ∧ H1 d = none ∧ Q (.ref C) (some d) (upd (del H2 a) d (.xd fs))) (fun _ _ _ => False)
theorem pmk_E {fI : Addr} (M : EM X.K C fI) (R : Raises X (.ref C)) (F1 : FnOk X.prog X.w X.K X.mg X.base CX k fI fd ps sp) (hr : Room (k + 1) X.A) (hb : Binds X.K fd ps []) (hx : Passes CX X (fun _ _ _ => False))
    (hg : Gl X x) (hm : X.mg x = some (.ref C)) (ha : PA X (e :: es) t)
    (hdb : (x == ("__debug__" : Str)) = false := by decide) (he : starEach (e :: es) X.env = (false, eval e X.env) :: starEach es X.env := by rfl) (hpl : (backTo pos (starEach es X.env)).any (·.1) = false := by rfl) :
    PMk X (.Call (.Name x p) (e :: es) [] pos) (tPmk C sp t) := by
  intro pins s σ H Q I h
  obtain ⟨B, newId, initId, bm, BF, q⟩ := M.b
  refine wpAny_Call_Name_kw (ld_glob I hg hm ?_ hdb)
  refine PySem.W.callWith_K (h₀ := X.base) I.ok.mod.kin M.kp (thn (ha.run pos pins s σ H _ I h) fun us s1 ⟨vs, H1, I1, r1, hz, q1⟩ => ⟨I1.kIn, ?_⟩) he hpl
  obtain ⟨nm, N, qn, bs, bm', hdct, sn, sub, ab, col, dd, k0, k1, k2, k3, k5, hC, hT⟩ := PySem.W.excInit_of I1.kIn q
  obtain ⟨hp, g, dr, tk, os⟩ := s1
  have hsz : hp.objs.size ≤ hp.objs.size + 1 := Nat.le_succ _
  have hq := q1 (hp.objs.size + 1) (I1.hok.fresh hsz)
  have old : ∀ b o, hp.get? b = some o → ((hp.push (PySem.W.kdv_tup us)).push (PySem.HandSPX.excO C hp.objs.size)).get? b = some o := fun b o z => Heap.get?_push_of_some _ (Heap.get?_push_of_some _ z)
  have I2 : Inv X pins σ (upd H1 (hp.objs.size + 1) (exo (hp.objs.size + 1) C none)) ⟨(hp.push (PySem.W.kdv_tup us)).push (PySem.HandSPX.excO C hp.objs.size), g, dr, tk, os⟩ :=
    I1.laid (t' := tk) (a := hp.objs.size + 1) old hsz (exo_ok (by heap_get))
  have r2 : Vals (V.ref (hp.objs.size + 1) :: vs) (Value.ref (hp.objs.size + 1) :: us) := .cons rfl r1
  have hl : (Value.ref (hp.objs.size + 1) :: us).length = ps.length := r2.length.symm.trans (F1.len _ _ _ _ hq)
  have hus : us.length ≤ sizeLine := by rw [← r1.length]; exact line1000 hz
  have hbb := hb _ (Value.ref (hp.objs.size + 1) :: us) I2.kIn (by rw [List.append_nil]; exact hl)
  rw [List.append_nil] at hbb
  show wpAny _ _ (call (.ref C) us) _ _ _
  refine wpAny_call (PySem.HandSPX.call_own BF.ba hT hC (PySem.W.looks_findIn I1.kIn M.i) (fun self => PySem.W.bind_fn I1.kIn self M.t) hus
    (codeAny_mono (F1.run _ X.stack _ _ ⟨Value.ref (hp.objs.size + 1) :: us, []⟩ (Value.ref (hp.objs.size + 1) :: us) _ _ (fun _ _ _ => False) (hr.make C us []) (I2.env0.make C us []) hbb r2 hq) fun r s' hq' => ?_))
  match r, hq' with
  | .error er, hq' => exact hx pins σ _ _ er s' I2 hq'
  | .ok (.ret u), hq' =>
    obtain ⟨v, H2, os2, bare2, un2, hok2, rv, ev, d, fs, ea, ed, hd1, q2⟩ := hq'
    subst ev
    obtain ⟨h2, g2, d2, t2, os'⟩ := s'
    exact ⟨rv, mk_end R I1 hsz old un2 hok2 os2 bare2 ea ed hd1 q2⟩
  | .ok .next, hq' => exact False.elim hq'
  | .ok .brk, hq' => exact False.elim hq'
  | .ok .cont, hq' => exact False.elim hq'
/-- the error that the suite holds (at a; its class cls, its dict d): a field -/
def tCapF (K : PySem.W.Frag) (a : Addr) (cls : Value) (d : Option Addr) (f : Str) (te : TE) : TE := fun σ H Q => te σ H fun x H1 => x = .ref a ∧ ∃ (C dd : Addr) (fs : List (Str × V)) (v : V), cls = .ref C ∧ EC K C ∧ PySem.W.findIn K (.ref C) f = some none ∧ d = some dd ∧ H1 dd = some (.xd fs) ∧ fs.lookup f = some v ∧ Q v H1
theorem pe_capF {a : Addr} {oe : Obj} {cls : Value} {d : Option Addr} {pn : List (Addr × Obj)} {e : Expr} {te : TE} {pos : Pos} {f : Str} (hz : Zc cls d oe) (hf : ∃ vs, oe.data = .fields vs) (he : PE (X.suite a ((a, oe) :: pn)) e te)
    (hb : attributeBase e f X.env (eval e X.env) = eval e X.env := by rfl) : PE (X.suite a ((a, oe) :: pn)) (.Attribute e f pos) (tCapF X.K a cls d f te) := by
  refine ⟨fun pins s σ H Q I h => attr_of hb (thn (he.run pins s σ H _ I h) fun u s1 ⟨y, H1, I1, ry, ey, C, dd, fs, v, ec, T, hno, ed, ea, hl, q⟩ => ?_)⟩
  subst ey
  obtain rfl : u = Value.ref a := ry
  subst ec ed
  obtain ⟨ha, _⟩ := I1.pin (a, oe) (List.mem_append_left _ List.mem_cons_self)
  obtain ⟨vs, hd⟩ := hf
  obtain ⟨mA, hns, hr⟩ := (show ObjOk X.prog X.w H1 s1.heap dd (.xd fs) from I1.hok dd _ ea)
  obtain ⟨od, ho, hl2⟩ := lookIn_ns hns
  obtain ⟨u, hu, ru⟩ := RelO.some_of (v := v) (o := mA f) (by rw [← hl]; exact hr f)
  have J : PySem.W.InstAt s1.heap a oe C (some od) := ⟨ha, hz.1, by unfold PySem.W.notCls; rw [hd] <;> rfl, by rw [hz.2]; exact ho⟩
  exact PySem.HandSPX.exc_get I1.kIn J T.ga T.gt T.sb (PySem.W.findObj_own T.hd hno rfl (by rw [hl2, hu])) (handed_of ru) ⟨v, H1, I1.tok _, ru, q⟩
end
end G

set_option Elab.async false
set_option linter.all false
set_option maxRecDepth 100000
set_option maxHeartbeats 4000000
/-! The head by facts read by a Hook: the end for FnOkG, defs and methods out of what the Hook says. -/
namespace G
open PySem PySem.Spec PyProof.Rows L2 StX ClX
theorem walk_ofGE {l : PySem.W.OpenLaw} {n k : Nat} {q : Program} {loose : List Str} {XP : (Str → Option Value) → Heap → Prop} {YP : World → Heap → Prop}
    {d : DefRec} {x : Str} (hn : l.most = some n) (hn2 : n ≤ sizeLine) (hdf : d.params.defaults = []) (hr : Room k callerA)
    (F : ∀ (w : World) (mg : Str → Option Value) (fa : Addr) (h : Heap), YP w h → h.Ns mainGlobals mg → mg d.name = some (.ref fa) →
      ∃ (K : PySem.W.Frag) (fd : FuncData), K.In h ∧ (∀ (s : Shared) (u : Value), BindsTo s fd ⟨[u], []⟩ [(x, u)]) ∧
        ∀ base : Heap, K.In base → base.Ns mainGlobals mg → FnOkG l.prog w K mg base k fa fd [x] (spLawN K n)) :
    PySem.W.WalkO q loose XP YP l.row.toRowW d [] (fun f vs => PySem.call f vs) := by
  refine Att.attach_call hn hdf fun w s₀ s₁ mg mb fa o pm cd doc a vs ns Gr Y ho hd hcd hmg hobj hints hlen hgens => ?_
  obtain ⟨K, fd, KX, hb, hF⟩ := F w mg fa _ Y Gr.T.g hmg
  have rv := vals_ints hints
  have hl : ns.length ≤ sizeLine := Nat.le_trans hlen hn2
  have goal := @call_at l.prog w K mg mb k n fa a fd x s₁ vs ns KX Gr.T.g Gr.T.b Gr.T.builtins Gr.T.nolimit hgens hobj hlen hr hF hb
  cases hk : K.lookup a with
  | some o1 =>
    have e := KX a o1 hk
    rw [hobj] at e
    cases e
    refine goal (fun _ => none) (fun _ => Or.inl rfl) (Or.inr ⟨_, vs.toArray, _, hk, rfl, rfl, rfl, ?_, by simpa using rv⟩) (fun b u z => nomatch z) (fun b z => absurd rfl z) fun z => absurd rfl z
    rw [List.size_toArray, hints.length]
    exact hl
  | none =>
    let frozen : HO := .frz { cls := .type "list", data := .seq vs.toArray } (.lst (ns.map V.int))
    have at_a : ∀ b, b = a → (fun b => if b = a then some frozen else none : Hp) b = some frozen := fun b hb => if_pos hb
    have off_a : ∀ b, b ≠ a → (fun b => if b = a then some frozen else none : Hp) b = none := fun b hb => if_neg hb
    refine goal (fun b => if b = a then some frozen else none) (fun b => ?_) (Or.inl (Or.inr ⟨_, at_a a rfl⟩)) (fun b u z => ?_) (fun b z => ?_) fun _ => hk
    · by_cases hb : b = a
      · exact Or.inr ⟨_, _, at_a b hb⟩
      · exact Or.inl (off_a b hb)
    · by_cases hb : b = a
      · rw [at_a b hb] at z
        cases z
        subst hb
        exact ⟨hobj, by rw [List.length_map]; exact hl, vs, _, rv, hobj⟩
      · rw [off_a b hb] at z
        cases z
    · by_cases hb : b = a
      · exact hb
      · exact absurd (off_a b hb) z
/-- a def without defaults, as the Hook tells it -/
theorem fun_ofD {K : PySem.W.Frag} {x qual : Str} {st : Stmt} {f : Addr} {fd : FuncData} (F : FunD K x qual (defArgs st) (defBody st) (defScope st) [] [] f fd) : Fun K x qual st f fd := by
  obtain ⟨oc, od, dV, kV, doc, pm, an, cdv, ct, osl, rfl, lk, hcd, hD, _⟩ := F.ex
  rcases hD with ⟨_, rfl⟩ | ⟨e, _⟩
  · exact ⟨⟨oc, od, kV, doc, pm, an, cdv, ct, osl, rfl, lk, hcd⟩, F.kp⟩
  · exact absurd rfl e
/-- a def of the module and how it is called -/
structure DfX (K : PySem.W.Frag) (mg : Str → Option Value) (x : Str) (st : Stmt) (ps : List Str) (f : Addr) (fd : FuncData) : Prop where
  F : Fun K x x st f fd
  b : Binds K fd ps []
  m : mg x = some (.ref f)
/-- a method -/
structure MdX (K : PySem.W.Frag) (C : Addr) (x q : Str) (st : Stmt) (ps : List Str) (f : Addr) (fd : FuncData) : Prop where
  F : Fun K x q st f fd
  b : Binds K fd ps []
  m : Meth K C x f
/-- how a def's arguments bind -/
def BindOk (x qual : Str) (st : Stmt) (ps : List Str) : Prop := ∀ (kV doc pm : Value) (an : Option Addr) (cdv ct : Value) (us : List Value), us.length = ps.length → bindArgs (PySem.W.fnOf x qual (defArgs st) (defBody st) (defScope st) .none kV doc pm an cdv ct) ⟨us, []⟩ = pure (ps.zip us)
abbrev dDef (x : Str) (st : Stmt) : He.DefD := ⟨(x, none), x, x, defArgs st, defBody st, defScope st, [], []⟩
abbrev dMet (C x q : Str) (st : Stmt) : He.DefD := ⟨(C, some x), x, q, defArgs st, defBody st, defScope st, [], []⟩
section
variable {K : PySem.W.Frag} {h : Heap} {mg : Str → Option Value} {fa : List He.Fa} {fn : List He.DefD}
theorem dfx (X : K.In h) (G : h.Ns mainGlobals mg) (c : He.SaysD fa fn K) {x : Str} {st : Stmt} {ps : List Str} (i j : Nat) (hb : BindOk x x st ps) (hd : fn[i]? = some (dDef x st)) (hf : fa[j]? = some (.glo x)) : ∃ fd, DfX K mg x st ps (He.ga K x) fd := by
  obtain ⟨fd, F⟩ := c.def_ i hd
  have F2 : Fun K x x st (He.ga K x) fd := fun_ofD F
  exact ⟨fd, F2, F2.binds hb, He.glo_ok X G (c.fact j hf)⟩
theorem mdx (c : He.SaysD fa fn K) {C x q : Str} {st : Stmt} {ps : List Str} (i j : Nat) (hb : BindOk x q st ps) (hd : fn[i]? = some (dMet C x q st)) (hf : fa[j]? = some (.meth C x)) : ∃ fd, MdX K (He.ga K C) x q st ps (He.ma K (He.ga K C) x) fd := by
  obtain ⟨fd, F⟩ := c.def_ i hd
  have F2 : Fun K x q st (He.ma K (He.ga K C) x) fd := fun_ofD F
  exact ⟨fd, F2, F2.binds hb, He.meth_ok (c.fact j hf)⟩
theorem inx (c : He.SaysD fa fn K) {C x q : Str} {st : Stmt} {ps : List Str} (i : Nat) (hb : BindOk x q st ps) (hd : fn[i]? = some (dMet C x q st)) : ∃ fd, Fun K x q st (He.ma K (He.ga K C) x) fd ∧ Binds K fd ps [] := by
  obtain ⟨fd, F⟩ := c.def_ i hd
  have F2 : Fun K x q st (He.ma K (He.ga K C) x) fd := fun_ofD F
  exact ⟨fd, F2, F2.binds hb⟩
end
/-- the module's dict of defs -/
theorem kdct_of {K : PySem.W.Frag} {w : World} {a : Addr} {es : Array DictEntry} {n : Nat} (D : KDict K w a es n) {kvs : List (Str × He.Dv)} (h : He.valsB K a kvs = true) {x f : Str} (hq : (x, He.Dv.glo f) ∈ kvs) : KDct K w a x (.ref (He.ga K f)) := by
  obtain ⟨u, e, r⟩ := He.valsB_ok h hq
  exact ⟨es, n, u, D.at_, D.lit, e, r⟩
/-- an empty tuple of the module -/
def noneB (K : PySem.W.Frag) (a : Addr) : Bool := match K.lookup a with
  | some ⟨.type c, _, .seq its _, _⟩ => decide (c = "tuple") && its.isEmpty
  | _ => false
theorem noneB_ok {K : PySem.W.Frag} {a : Addr} (h : noneB K a = true) (H : Hp) : SqT K H a [] := by
  unfold noneB at h
  cases q : K.lookup a with
  | none => rw [q] at h; cases h
  | some o =>
    obtain ⟨oc, od, dt, osl⟩ := o
    rw [q] at h
    cases oc with
    | type c =>
      cases dt with
      | seq its n =>
        obtain ⟨h1, h2⟩ := He.ba (show (decide (c = "tuple") && its.isEmpty) = true from h)
        have e : its = #[] := Array.isEmpty_iff.mp h2
        subst e
        exact .inr ⟨_, #[], n, q, congrArg Value.type (of_decide_eq_true h1), rfl, Nat.zero_le _, .nil⟩
      | _ => cases h
    | _ => cases dt <;> cases h
/-- the keyword default x of the def, if it is an object -/
def kwdAt (f : Str × Option Str) (x : Str) (K : PySem.W.Frag) : Addr := match K.lookup (He.fAd K f) with
  | some ⟨_, _, .func fd, _⟩ => (match fd.kwdefaults with
    | .ref D => (match PySem.W.nsIn K D x with
      | some (some (.ref a)) => a
      | _ => 0)
    | _ => 0)
  | _ => 0
/-! ### the Hook: the names' reach, the interpreter's statics, one more Bool -/
def asS (g : Addr → Option Obj) (n : Nat) : List Addr := He.asD g n ++ [PySem.cStatics]
structure SaysS (fa : List He.Fa) (fn : List He.DefD) (ts : List He.Tab) (ex : PySem.W.Frag → Bool) (w : World) (K : PySem.W.Frag) : Prop where
  t : He.SaysT fa fn ts w K
  more : ex K = true
abbrev AlS : Type := He.AlT × Bool
def obsS (n : Nat) (fa : List He.Fa) (fn : List He.DefD) (ts : List He.Tab) (ex : PySem.W.Frag → Bool) (g : Addr → Option Obj) : AlS := (He.obsT fa fn ts (He.frG g (asS g n)), ex (He.frG g (asS g n)))
def valS (fn : List He.DefD) (ts : List He.Tab) (w : World) : AlS := (He.valT fn ts w, true)
def hookS (n : Nat) (fa : List He.Fa) (fn : List He.DefD) (ts : List He.Tab) (ex : PySem.W.Frag → Bool) : PySem.W.Hook where
  α := AlS
  obs := fun s => obsS n fa fn ts ex s.heap.get?
  val := fun w => valS fn ts w
  says := fun w h => ∃ K : PySem.W.Frag, K.In h ∧ SaysS fa fn ts ex w K
  of := fun _ _ e => ⟨_, He.frG_in, ⟨congrArg (fun z : AlS => z.1) e, congrArg (fun z : AlS => z.2) e⟩⟩
  keeps := fun _ _ _ ⟨K, hK, c⟩ k => ⟨K, PySem.W.Frag.In.keeps hK k, c⟩
theorem obsS_eq {n : Nat} {fa : List He.Fa} {fn : List He.DefD} {ts : List He.Tab} {ex : PySem.W.Frag → Bool} {g : Addr → Option Obj} {s : Shared} (h : ∀ a, g a = s.heap.get? a) : obsS n fa fn ts ex g = (hookS n fa fn ts ex).obs s := by
  have e : g = s.heap.get? := funext h
  rw [e] <;> rfl
/-- an own error's class over a base with its own __init__ -/
def ciB (K : PySem.W.Frag) (C fI : Addr) (bm : List Value) (newId : String) (f : Str) : Bool := PySem.W.excInitIn K C bm newId && PySem.W.excOver K C bm && ecB K C && PySem.W.findIn K (.ref C) "__init__" == some (some (.ref fI)) &&
  PySem.W.typeIn K (.ref fI) == some (.type "function") && PySem.W.findIn K (.ref C) f == some none
theorem taker_of {K : PySem.W.Frag} {C : Addr} {f : Str} (h : PySem.W.findIn K (.ref C) f = some none) : PySem.W.takerIn K C f = some none := by
  unfold PySem.W.takerIn
  rw [h]
  rfl
theorem ci_of {K : PySem.W.Frag} {C fI : Addr} {bm : List Value} {B newId initId : String} {f : Str} (BF : BaseF B newId initId bm) (h : ciB K C fI bm newId f = true) : EM K C fI ∧ ES K C f ∧ PySem.W.findIn K (.ref C) f = some none := by
  unfold ciB at h
  simp only [Bool.and_eq_true, beq_iff_eq] at h
  obtain ⟨⟨⟨⟨⟨a, b⟩, c⟩, d⟩, e⟩, g⟩ := h
  exact ⟨⟨⟨B, newId, initId, bm, BF, a⟩, (EC.of c).kp, d, e⟩, ⟨⟨B, newId, initId, bm, BF, b⟩, EC.of c, taker_of g⟩, g⟩
def creadB (K : PySem.W.Frag) (C : Addr) (mc : Value) : Bool := PySem.W.readsIn K C mc && PySem.W.specialIn K (.ref C) "__getattribute__" == some (some (.builtin "type.__getattribute__"))
theorem cread_of {K : PySem.W.Frag} {C : Addr} {mc : Value} (h : creadB K C mc = true) : CRead K C mc := by
  unfold creadB at h
  simp only [Bool.and_eq_true, beq_iff_eq] at h
  exact ⟨h.1, h.2⟩
end G

set_option Elab.async false
set_option linter.all false
set_option maxRecDepth 100000
set_option maxHeartbeats 4000000
/-! The cells of a run: what they are on paper, and where they stand. -/
namespace G
open PySem PySem.Spec PyProof.Rows L2
theorem Same.up {H : Hp} {p : Addr} {o : HO} (np : H p = none) : Same H (upd H p o) := fun b u e => by
  rw [upd_ne (ne_of_none e np)]
  exact e
/-! ### rows of pairs, as a dict keeps them -/
section
variable {κ β : Type} [DecidableEq κ]
def look (l : List (κ × β)) (k : κ) : Option β := (l.find? fun p => decide (p.1 = k)).map (·.2)
def put (l : List (κ × β)) (k : κ) (b : β) : List (κ × β) := if (l.any fun p => decide (p.1 = k)) = true then l.map (fun p => if p.1 = k then (p.1, b) else p) else l ++ [(k, b)]
def drp (l : List (κ × β)) (k : κ) : List (κ × β) := l.filter fun p => decide (p.1 ≠ k)
theorem put_length (l : List (κ × β)) (k : κ) (b : β) : (put l k b).length ≤ l.length + 1 := by
  unfold put
  split
  · rw [List.length_map]; omega
  · rw [List.length_append]; exact Nat.le_refl _
theorem drp_length (l : List (κ × β)) (k : κ) : (drp l k).length ≤ l.length := List.length_filter_le _ _
end
/-- as a dict holds it -/
def dct {κ β : Type} (km : κ → Key) (vm : β → V) (l : List (κ × β)) : List (Key × V) := l.map fun p => (km p.1, vm p.2)
section
variable {κ β : Type} [DecidableEq κ] {km : κ → Key} {vm : β → V}
theorem dct_len (l : List (κ × β)) : (dct km vm l).length = l.length := List.length_map _
theorem valV_dct (inj : ∀ x y, km x = km y → x = y) (l : List (κ × β)) (k : κ) : valV (dct km vm l) (km k) = (look l k).map vm := by
  induction l with
  | nil => rfl
  | cons p r ih =>
    by_cases h : p.1 = k
    · rw [show dct km vm (p :: r) = (km p.1, vm p.2) :: dct km vm r from rfl, valV_pos (by rw [h])]
      simp [look, List.find?_cons, h]
    · rw [show dct km vm (p :: r) = (km p.1, vm p.2) :: dct km vm r from rfl, valV_neg (fun z => h (inj _ _ z)), ih]
      simp [look, List.find?_cons, h]
theorem any_dct (inj : ∀ x y, km x = km y → x = y) (l : List (κ × β)) (k : κ) : ((dct km vm l).any fun kv => decide (kv.1 = km k)) = l.any fun p => decide (p.1 = k) := by
  induction l with
  | nil => rfl
  | cons p r ih =>
    show (decide (km p.1 = km k) || (dct km vm r).any _) = (decide (p.1 = k) || r.any _)
    rw [ih, decide_eq_decide.mpr ⟨fun z => inj _ _ z, fun z => by rw [z]⟩]
theorem putK_dct (inj : ∀ x y, km x = km y → x = y) (l : List (κ × β)) (k : κ) (b : β) : putK (dct km vm l) (km k) (vm b) = dct km vm (put l k b) := by
  unfold putK put
  rw [any_dct inj]
  split
  · unfold dct
    rw [List.map_map, List.map_map]
    refine List.map_congr_left fun p _ => ?_
    by_cases h : p.1 = k
    · simp [h]
    · have h2 : ¬ km p.1 = km k := fun z => h (inj _ _ z)
      simp [h, h2]
  · simp [dct]
theorem dropK_dct (inj : ∀ x y, km x = km y → x = y) (l : List (κ × β)) (k : κ) : dropK (dct km vm l) (km k) = dct km vm (drp l k) := by
  unfold dropK drp dct
  rw [List.filter_map]
  congr 1
  refine List.filter_congr fun p _ => ?_
  show decide (km p.1 ≠ km k) = decide (p.1 ≠ k)
  exact decide_eq_decide.mpr ⟨fun z e => z (by rw [e]), fun z e => z (inj _ _ e)⟩
end
def kS (x : Str) : Key := .inr x
def kN (n : Nat) : Key := .inl (n : Int)
theorem kS_inj : ∀ x y, kS x = kS y → x = y := fun _ _ h => Sum.inr.inj h
theorem kN_inj : ∀ x y, kN x = kN y → x = y := fun _ _ h => Int.ofNat.inj (Sum.inl.inj h)
def optV : Option Nat → V
  | none => .non
  | some n => .int n
/-! ### what changes -/
/-- only what stands at one of S changed, and no tuple; nothing is gone -/
structure Ch (S : List Addr) (H H' : Hp) : Prop where
  kp : Kp S H H'
  tu : ∀ b xs, H b = some (.tup xs) → H' b = some (.tup xs)
  al : ∀ b o, H b = some o → ∃ u, H' b = some u
theorem Ch.refl (S : List Addr) (H : Hp) : Ch S H H := ⟨Kp.refl S H, fun _ _ h => h, fun _ o h => ⟨o, h⟩⟩
theorem Ch.trans {S : List Addr} {H H1 H2 : Hp} (a : Ch S H H1) (b : Ch S H1 H2) : Ch S H H2 := ⟨a.kp.trans b.kp, fun c xs h => b.tu c xs (a.tu c xs h), fun c o h => let ⟨u, e⟩ := a.al c o h; b.al c u e⟩
theorem Ch.mono {S T : List Addr} {H H' : Hp} (a : Ch S H H') (h : ∀ b, b ∈ S → b ∈ T) : Ch T H H' := ⟨a.kp.mono h, a.tu, a.al⟩
theorem Ch.same {S : List Addr} {H H' : Hp} (s : Same H H') : Ch S H H' := ⟨Kp.same s, fun b xs h => s b _ h, fun b o h => ⟨o, s b o h⟩⟩
theorem Ch.new {S : List Addr} {p : Addr} {H H' : Hp} {o : HO} (a : Ch S H H') (h : H' p = none) : Ch S H (upd H' p o) := a.trans (Ch.same (Same.up h))
theorem Ch.put {S : List Addr} {p : Addr} {H H' : Hp} {o u : HO} (a : Ch S H H') (h : p ∈ S) (hp : H' p = some u) (nt : ∀ xs, u ≠ .tup xs) : Ch S H (upd H' p o) :=
  ⟨a.kp.put h, fun b xs e => by
    have z := a.tu b xs e
    have ne : b ≠ p := fun q => by
      rw [q, hp] at z
      exact nt xs (Option.some.inj z)
    rw [upd_ne ne]
    exact z, fun b o' e => by
    by_cases hb : b = p
    · rw [hb]
      exact ⟨_, upd_same⟩
    · obtain ⟨v, z⟩ := a.al b o' e
      exact ⟨v, by rw [upd_ne hb]; exact z⟩⟩
theorem Ch.free {S : List Addr} {H H' : Hp} {b : Addr} (a : Ch S H H') (h : H' b = none) : H b = none := by
  cases e : H b with
  | none => rfl
  | some o =>
    obtain ⟨u, z⟩ := a.al b o e
    rw [h] at z
    cases z
/-- what was not there at first need not be named -/
theorem Ch.less {S : List Addr} {p : Addr} {H H' : Hp} (a : Ch (p :: S) H H') (h : H p = none) : Ch S H H' := ⟨a.kp.fresh h, a.tu, a.al⟩
theorem Ch.lessS {S T : List Addr} {H H' : Hp} (a : Ch T H H') (h : ∀ b ∈ T, b ∈ S ∨ H b = none) : Ch S H H' :=
  ⟨fun b o n e => a.kp b o (fun z => (h b z).elim n fun q => by rw [q] at e; cases e) e, a.tu, a.al⟩
/-! ### the cells -/
structure PC where
  S : List (Str × Option Nat)
  F : List (List (Str × Nat × Bool))
  W : List (Nat × Str)
  ke : List Nat
  cl : List (Nat × Int)
structure CAd where
  C : Addr
  dC : Addr
  st : Addr
  fi : Addr
  wi : Addr
  ke : Addr
  cl : Addr
  fl : List Addr
def CAd.foot (a : CAd) : List Addr := [a.st, a.fi, a.wi, a.ke, a.cl] ++ a.fl
/-- a field's dict -/
def FdR (H : Hp) : List (Str × Nat × Bool) → List (Key × V) → Prop := Paired fun x y => y.1 = kS x.1 ∧ ∃ t, y.2 = .ref t ∧ H t = some (.tup [.int x.2.1, .bl x.2.2])
def FdAt (H : Hp) (q : Addr) (l : List (Str × Nat × Bool)) : Prop := ∃ kvs, H q = some (.dK kvs) ∧ FdR H l kvs
structure Sz (p : PC) (B : Nat) : Prop where
  S : p.S.length ≤ B
  F : p.F.length ≤ B
  f : ∀ l ∈ p.F, l.length ≤ B
  W : p.W.length ≤ B
  k : p.ke.length ≤ B
  c : p.cl.length ≤ B
  t : (p.F.map List.length).sum ≤ B
theorem Sz.mono {p : PC} {B B' : Nat} (h : Sz p B) (hb : B ≤ B') : Sz p B' :=
  ⟨Nat.le_trans h.S hb, Nat.le_trans h.F hb, fun l hl => Nat.le_trans (h.f l hl) hb, Nat.le_trans h.W hb, Nat.le_trans h.k hb, Nat.le_trans h.c hb, Nat.le_trans h.t hb⟩
structure Cel (CC : Addr) (H : Hp) (a : CAd) (p : PC) (B : Nat) : Prop where
  hC : H a.C = some (.ins CC a.dC [("stands", .ref a.st), ("fields", .ref a.fi), ("wishes", .ref a.wi), ("kept", .ref a.ke), ("cleared", .ref a.cl)])
  hst : H a.st = some (.dK (dct kS optV p.S))
  hfi : H a.fi = some (.lst (a.fl.map V.ref))
  hwi : H a.wi = some (.dK (dct kN V.str p.W))
  hke : H a.ke = some (.dK (dct kN (fun _ => V.bl true) (p.ke.map fun c => (c, ()))))
  hcl : H a.cl = some (.dK (dct kN V.int p.cl))
  hfl : Paired (FdAt H) a.fl p.F
  nd : a.foot.Nodup
  nC : a.C ∉ a.foot
  sz : Sz p B
theorem FdR.ch {S : List Addr} {H H' : Hp} {l : List (Str × Nat × Bool)} {kvs : List (Key × V)} (h : FdR H l kvs) (c : Ch S H H') : FdR H' l kvs := by
  induction h with
  | nil => exact .nil
  | cons h1 h2 ih =>
    obtain ⟨e, t, et, ht⟩ := h1
    exact .cons ⟨e, t, et, c.tu _ _ ht⟩ ih
theorem FdAt.ch {S : List Addr} {H H' : Hp} {q : Addr} {l : List (Str × Nat × Bool)} (h : FdAt H q l) (c : Ch S H H') (n : q ∉ S) : FdAt H' q l := by
  obtain ⟨kvs, hq, hr⟩ := h
  exact ⟨kvs, c.kp _ _ n hq, hr.ch c⟩
theorem flds_ch {S : List Addr} {H H' : Hp} (c : Ch S H H') : ∀ {fl : List Addr} {F : List (List (Str × Nat × Bool))}, Paired (FdAt H) fl F → (∀ q ∈ fl, q ∉ S) → Paired (FdAt H') fl F
  | _, _, .nil, _ => .nil
  | _, _, .cons h t, n => .cons (h.ch c (n _ (List.mem_cons_self ..))) (flds_ch c t fun q hq => n q (List.mem_cons_of_mem _ hq))
theorem Cel.ch {CC : Addr} {S : List Addr} {H H' : Hp} {a : CAd} {p : PC} {B : Nat} (h : Cel CC H a p B) (c : Ch S H H') (n : ∀ b ∈ S, b ∉ a.foot ∧ b ≠ a.C) : Cel CC H' a p B := by
  have nf : ∀ b ∈ a.foot, b ∉ S := fun b hb hs => (n b hs).1 hb
  have m : ∀ x ∈ [a.st, a.fi, a.wi, a.ke, a.cl], x ∉ S := fun x hx => nf x (List.mem_append_left _ hx)
  exact ⟨c.kp _ _ (fun z => (n _ z).2 rfl) h.hC, c.kp _ _ (m _ (by simp)) h.hst, c.kp _ _ (m _ (by simp)) h.hfi, c.kp _ _ (m _ (by simp)) h.hwi, c.kp _ _ (m _ (by simp)) h.hke, c.kp _ _ (m _ (by simp)) h.hcl,
    flds_ch c h.hfl fun q hq => nf q (List.mem_append_right _ hq), h.nd, h.nC, h.sz⟩
/-- no tuple stands at an address of the cells -/
theorem Cel.foot_nt {CC : Addr} {H : Hp} {a : CAd} {p : PC} {B : Nat} (h : Cel CC H a p B) : ∀ b ∈ a.foot, ∃ u, H b = some u ∧ ∀ xs, u ≠ .tup xs := by
  intro b hb
  have key : ∀ {fl : List Addr} {F : List (List (Str × Nat × Bool))}, Paired (FdAt H) fl F → b ∈ fl → ∃ kvs, H b = some (.dK kvs) := by
    intro fl F hp
    induction hp with
    | nil => intro z; cases z
    | cons h1 h2 ih =>
      intro z
      rcases List.mem_cons.mp z with z | z
      · obtain ⟨kvs, hq, _⟩ := h1
        exact ⟨kvs, by rw [z]; exact hq⟩
      · exact ih z
  rcases List.mem_append.mp hb with hb | hb
  · simp only [List.mem_cons, List.not_mem_nil, or_false] at hb
    rcases hb with rfl | rfl | rfl | rfl | rfl
    · exact ⟨_, h.hst, fun xs z => by cases z⟩
    · exact ⟨_, h.hfi, fun xs z => by cases z⟩
    · exact ⟨_, h.hwi, fun xs z => by cases z⟩
    · exact ⟨_, h.hke, fun xs z => by cases z⟩
    · exact ⟨_, h.hcl, fun xs z => by cases z⟩
  · obtain ⟨kvs, hq⟩ := key h.hfl hb
    exact ⟨_, hq, fun xs z => by cases z⟩
end G

set_option linter.all false
namespace G
open PySem PySem.Spec PyProof.Rows L2
def top (i : Nat) : Stmt := PySem.Challenge.pw_maybegone_k03_places_of_statements.main.body.getD i (.Pass ⟨0, 0, 0, 0⟩)
end G

set_option Elab.async false
set_option linter.all false
set_option maxRecDepth 100000
set_option maxHeartbeats 4000000
namespace G
open PySem PySem.Spec PyProof.Rows L2
/-! ### the deck's def -/
abbrev s__law_deck : Stmt := top 17
abbrev n__law_deck : List Str := ["_law_script", "_law_cell"]
theorem sc__law_deck : FnScope n__law_deck ["_law_script"] (defScope s__law_deck) := ⟨rfl, rfl, rfl, by decide +kernel, rfl, by decide +kernel, by decide +kernel⟩
def spDeck (K : PySem.W.Frag) : Sp := fun vs H Q _ => ∃ (a : Addr) (ns : List Int), vs = [.ref a] ∧ SqL K H a (ns.map V.int) ∧ ns.length ≤ 63 ∧ ∀ H' D L, Same H H' → Deck H' D L 0 → H D = none → H L = none → Q (.ref D) H'
section
variable {P : Program} {w : World} {K : PySem.W.Frag} {mg : Str → Option Value} {base : Heap}
theorem ok_deck {f : Addr} {fd : FuncData} {k : Nat} (F : Fun K "_law_deck" "_law_deck" s__law_deck f fd) (T : Bi mg) : FnOk P w K mg base CX0 (k + 1) f fd ["_law_script"] (spDeck K) := by
  refine F.ok sc__law_deck (fun vs H Q E h => ?_) (fun cdv A outer s H vs Q E hr h => ?_)
  · obtain ⟨a, ns, rfl, _⟩ := h
    rfl
  obtain ⟨a, ns, rfl, hS, hlen, q⟩ := h
  refine ⟨_, (pss_one (ps_ret (pe_lst (pa_cons (pe_lc (own := [("_law_cell", 1)]) (by rfl) sc__law_deck.nd (pi_list (pe_slice sl_list (pv 0) po_none (po_some pe_int))) (blkOk_by (N := n__law_deck) (sc := defScope s__law_deck) (by decide +kernel)) (fun _ _ _ _ _ => (pg_name (i := 1) sc__law_deck.nd rfl (.inl rfl))) (fun _ _ _ _ _ => pts_nil) (fun _ _ _ _ _ => (pe_callB call_abs (by rfl) T.z_abs (by decide +kernel) (pa_cons (pv 1) pa_nil)))) (pa_cons pe_int pa_nil))))), ?_⟩
  refine ⟨_, rfl, _, rfl, a, ns.map V.int, rfl, hS, fun c nc => ?_⟩
  refine ⟨c, rfl, ⟨_, SqL.of upd_same⟩, fun L nL => ?_⟩
  have ec : cutV (ns.map V.int) none (some 63) = ns.map V.int := cut_all (by rw [List.length_map]; exact hlen)
  rw [ec] at nL ⊢
  have sc : Same H (upd H c (.lst (ns.map V.int))) := (Kp.new (Kp.refl [] H) nc).toSame
  have ncL : c ≠ L := fun e => by rw [← e, upd_same] at nL; cases nL
  refine lc_list (K := K) (a := c) (xs := ns.map V.int) (fun i H' => Kp [L] (upd H c (.lst (ns.map V.int))) H' ∧ H' L = some (.lst (((ns.map iabs).take i).map V.int)))
    ⟨(Kp.refl _ _).new nL, upd_same⟩ (fun i H' _ h => SqL.of (h.1 c _ (by simpa using ncL) upd_same)) ?_ ?_
  · rintro i x H' hi ⟨sm, hL⟩
    obtain ⟨u, eu, rfl⟩ : ∃ u, ns[i]? = some u ∧ V.int u = x := by simpa using hi
    refine ⟨rfl, .int u, rfl, u, rfl, _, hL, ?_, sm.put (by simp), ?_⟩
    · rw [List.length_map, List.length_take]
      exact small1000 (by rw [List.length_map]; omega)
    · rw [upd_same, take_step (x := iabs u) (by simp [eu]), List.map_append]
      rfl
  · rintro H' ⟨sm, hL⟩
    have sm1 : Same (upd H c (.lst (ns.map V.int))) H' := (sm.fresh nL).toSame
    refine ⟨by show 2 ≤ sizeLine; exact line1000 (by decide), fun D nD => ?_⟩
    rw [List.length_map, List.take_of_length_le (by rw [List.length_map]; exact Nat.le_refl _)] at hL
    have neDL : D ≠ L := (ne_of_none hL nD).symm
    have s2 : Same H (upd H' D (.lst [.ref L, .int 0])) := (Kp.new (S := []) (Kp.same (sc.trans sm1)) nD).toSame
    refine q _ D L s2 ⟨neDL, 0, ns.map iabs, upd_same, by rw [upd_ne neDL.symm]; exact hL, Int.le_refl _, Int.le_refl _, by rw [List.length_map]; exact hlen, fun x hx => ?_⟩ ?_ (sc.free nL)
    · obtain ⟨y, _, rfl⟩ := List.mem_map.mp hx
      exact iabs_nonneg y
    · exact (sc.trans sm1).free nD

/-! ### a draw -/
abbrev s__law_draw : Stmt := top 18
abbrev n__law_draw : List Str := ["_law_deck_here", "_law_many", "_law_cell", "_law_at", "_law_mixed"]
theorem sc__law_draw : FnScope n__law_draw ["_law_deck_here", "_law_many"] (defScope s__law_draw) := ⟨rfl, rfl, rfl, by decide +kernel, rfl, by decide +kernel, by decide +kernel⟩
def spDraw : Sp := fun vs H Q _ => ∃ (D L : Addr) (n : Nat) (many : Int), vs = [.ref D, .int many] ∧ Deck H D L n ∧ n < 10 ^ 12 ∧ 1 ≤ many ∧ many < 1073741824 ∧
  ∀ H' r, Kp [D, L] H H' → Deck H' D L (n + 1) → 0 ≤ r → r < many → Q (.int r) H'
theorem ok_draw {f : Addr} {fd : FuncData} {k : Nat} (F : Fun K "_law_draw" "_law_draw" s__law_draw f fd) (T : Bi mg) : FnOk P w K mg base CX0 (k + 1) f fd ["_law_deck_here", "_law_many"] spDraw := by
  refine F.ok sc__law_draw (fun vs H Q E h => ?_) (fun cdv A outer s H vs Q E hr h => ?_)
  · obtain ⟨D, L, n, many, rfl, _⟩ := h
    rfl
  obtain ⟨D, L, n, many, rfl, hD, hn, hm1, hm2, q⟩ := h
  refine ⟨_, (pss_cons (ps_asg (pe_op op_add (pe_ix ix_list (pv 0) pe_int (fun _ _ => rfl)) pe_int) (pg_sub (pv 0) pe_int set_list))
      (pss_cons (ps_asg (pe_tup (pa_cons pe_int (pa_cons (pe_un un_neg pe_int) pa_nil))) (pg_tup rfl (pgs_cons (pg_name (i := 2) sc__law_draw.nd rfl (.inl rfl)) (pgs_cons (pg_name (i := 3) sc__law_draw.nd rfl (.inl rfl)) pgs_nil))))
      (pss_cons (ps_if (pt_cmpR op_gt (pe_callB call_len_seq (by rfl) T.z_len (by decide +kernel) (pa_cons (pe_ix ix_list (pv 0) pe_int (fun _ _ => rfl)) pa_nil)) pe_int (nomark _))
      (pss_cons (ps_set (i := 3) sc__law_draw.nd rfl (.inl rfl) (pe_op op_modN (pe_callTy call_int1 (by rfl) T.z_int (by decide +kernel) (pa_cons (pe_ix ix_list (pv 0) pe_int (fun _ _ => rfl)) pa_nil)) (pe_callB call_len_seq (by rfl) T.z_len (by decide +kernel) (pa_cons (pe_ix ix_list (pv 0) pe_int (fun _ _ => rfl)) pa_nil))))
      (pss_one (ps_set (i := 2) sc__law_draw.nd rfl (.inl rfl) (pe_ix ix_list (pe_ix ix_list (pv 0) pe_int (fun _ _ => rfl)) (pv 3) (fun _ _ => rfl)))))
      pss_nil)
      (pss_cons (ps_if (pt_cmpR op_ge (pv 2) (pe_op op_pow pe_int pe_int) (nomark _))
      (pss_cons (ps_asg (pe_op op_fdivN (pe_callTy call_int1 (by rfl) T.z_int (by decide +kernel) (pa_cons (pv 2) pa_nil)) (pv 1)) (pg_sub (pe_ix ix_list (pv 0) pe_int (fun _ _ => rfl)) (pv 3) set_list))
      (pss_one (ps_ret (pe_op op_modN (pe_callTy call_int1 (by rfl) T.z_int (by decide +kernel) (pa_cons (pv 2) pa_nil)) (pv 1)))))
      pss_nil)
      (pss_cons (ps_set (i := 4) sc__law_draw.nd rfl (.inl rfl) (pe_op op_add (pe_op op_add (pe_op op_modN (pe_callTy call_int1 (by rfl) T.z_int (by decide +kernel) (pa_cons (pv 2) pa_nil)) pe_int) (pe_op op_mul pe_int (pe_ix ix_list (pv 0) pe_int (fun _ _ => rfl)))) pe_int))
      (pss_one (ps_ret (pe_op op_modN (pe_callTy call_int1 (by rfl) T.z_int (by decide +kernel) (pa_cons (pe_op op_modN (pe_callTy call_int1 (by rfl) T.z_int (by decide +kernel) (pa_cons (pe_op op_pow (pv 4) pe_int) pa_nil)) pe_int) pa_nil)) (pv 1))))))))), ?_⟩
  obtain ⟨ne, m, ns, h1, h2, h3, h4, h5, h6⟩ := hD
  have a1 : ∀ (l : Addr) (x : V), atI [V.ref l, x] 1 = some x := fun l x => atI_nat (j := 1) rfl
  have a0 : ∀ (l : Addr) (x : V), atI [V.ref l, x] 0 = some (V.ref l) := fun l x => atI_nat (j := 0) rfl
  -- deck[1] = deck[1] + 1
  refine ⟨.ref D, rfl, D, _, 1, _, rfl, rfl, SqL.of h1, a1 _ _, m, 1, rfl, rfl, ?_⟩
  refine ⟨.ref D, rfl, D, _, 1, 1, rfl, rfl, h1, rfl, ?_⟩
  have e1 : ([V.ref L, V.int m].set 1 (V.int (m + 1))) = [V.ref L, V.int (m + 1)] := rfl
  rw [e1]
  obtain ⟨H1, hH1⟩ : ∃ H1, H1 = upd H D (.lst [V.ref L, V.int (m + 1)]) := ⟨_, rfl⟩
  rw [← hH1]
  have k1 : Kp [D, L] H H1 := by rw [hH1]; exact (Kp.refl _ _).put (by simp)
  have g1 : H1 D = some (.lst [V.ref L, V.int (m + 1)]) := by rw [hH1, upd_same]
  have g2 : H1 L = some (.lst (ns.map V.int)) := by rw [hH1, upd_ne ne.symm]; exact h2
  -- _law_cell, _law_at = (0, -1)
  refine ⟨1, rfl, by show 2 ≤ sizeLine; exact line1000 (by decide), fun p np => ?_⟩
  refine ⟨p, _, rfl, SqT.of upd_same, rfl, _, _, rfl, _, _, rfl, rfl, ?_⟩
  have npD : D ≠ p := ne_of_none g1 np
  have npL : L ≠ p := ne_of_none g2 np
  obtain ⟨H2, hH2⟩ : ∃ H2, H2 = upd H1 p (.tup [V.int 0, V.int (-1)]) := ⟨_, rfl⟩
  rw [← hH2]
  have k2 : Kp [D, L] H H2 := by rw [hH2]; exact k1.new np
  have f1 : H2 D = some (.lst [V.ref L, V.int (m + 1)]) := by rw [hH2, upd_ne npD]; exact g1
  have f2 : H2 L = some (.lst (ns.map V.int)) := by rw [hH2, upd_ne npL]; exact g2
  -- if len(deck[0]) > 0
  refine ⟨.ref D, rfl, D, _, 0, _, rfl, rfl, SqL.of f1, a0 _ _, L, _, rfl, .inl (SqL.of f2), _, _, rfl, rfl, _, rfl, ite2 (fun c => ?w1) (fun c => ?w2)⟩
  case' w1 =>
    have hpos : (0 : Int) < ((ns.map V.int).length : Int) := of_decide_eq_true c
    have hlen : (ns.map V.int).length = ns.length := List.length_map _
    refine ⟨.ref D, rfl, D, _, 1, _, rfl, rfl, SqL.of f1, a1 _ _, .inl ⟨_, rfl, .ref D, rfl, D, _, 0, _, rfl, rfl, SqL.of f1, a0 _ _, L, _, rfl, .inl (SqL.of f2), m + 1, _, rfl, rfl, by omega, ?_⟩⟩
    obtain ⟨at_, eat⟩ : ∃ at_, at_ = (m + 1).fmod ((ns.map V.int).length : Int) := ⟨_, rfl⟩
    dsimp only
    rw [← eat]
    rw [Int.fmod_eq_emod_of_nonneg _ (by omega)] at eat
    have b0 : 0 ≤ at_ := by rw [eat]; exact Int.emod_nonneg _ (by omega)
    have b1 : at_ < (ns.length : Int) := by rw [eat, hlen]; exact Int.emod_lt_of_pos _ (by omega)
    have b2 : at_.toNat < ns.length := by omega
    have hat : atI (ns.map V.int) at_ = some (.int ns[at_.toNat]) := by
      have z := atI_nat (xs := ns.map V.int) (j := at_.toNat) (v := .int ns[at_.toNat]) (by simp)
      rwa [show ((at_.toNat : Nat) : Int) = at_ by omega] at z
    refine ⟨.ref D, rfl, D, _, 0, _, rfl, rfl, SqL.of f1, a0 _ _, .int at_, rfl, L, _, at_, _, rfl, rfl, SqL.of f2, hat, ?_⟩
    have hc0 : 0 ≤ ns[at_.toNat] := h6 _ (List.getElem_mem b2)
    have hcat : 10 ^ 18 ≤ ns[at_.toNat] → 0 ≤ at_ ∧ at_.toNat < ns.length := fun _ => ⟨b0, b2⟩
    obtain ⟨cell, ecell⟩ : ∃ cell, cell = ns[at_.toNat] := ⟨_, rfl⟩
    rw [← ecell] at hc0 hcat ⊢
    clear c
  case' w2 =>
    obtain ⟨cell, ecell⟩ : ∃ cell : Int, cell = 0 := ⟨_, rfl⟩
    obtain ⟨at_, eat⟩ : ∃ at_ : Int, at_ = -1 := ⟨_, rfl⟩
    have hc0 : 0 ≤ cell := by omega
    have hcat : 10 ^ 18 ≤ cell → 0 ≤ at_ ∧ at_.toNat < ns.length := fun z => by omega
    clear c
    show tSeq _ _ _ [some (.ref D), some (.int many), some (.int 0), some (.int (-1)), none] H2
    rw [show (some (V.int 0) : Option V) = some (V.int cell) by rw [ecell], show (some (V.int (-1)) : Option V) = some (V.int at_) by rw [eat]]
  all_goals
    refine ⟨_, rfl, ⟨10, 18, rfl, rfl, ⟨by omega, by omega, by decide⟩, ?_⟩⟩
    refine ⟨_, _, rfl, rfl, _, rfl, ite2 (fun c => ?_) (fun c => ?_)⟩
    · have c18 : (10 : Int) ^ 18 ≤ cell := of_decide_eq_true c
      obtain ⟨b0, b2⟩ := hcat c18
      refine ⟨_, rfl, .inl ⟨cell, rfl, .int many, rfl, cell, many, rfl, rfl, ⟨by omega, by omega⟩, ?_⟩⟩
      refine ⟨.ref D, rfl, D, _, 0, _, rfl, rfl, SqL.of f1, a0 _ _, .int at_, rfl, L, _, at_, at_.toNat, rfl, rfl, f2, ?_, ?_⟩
      · unfold ixN
        rw [if_pos b0, if_pos (by rw [List.length_map]; omega)]
      · refine ⟨_, rfl, .inl ⟨cell, rfl, .int many, rfl, cell, many, rfl, rfl, by omega, ?_⟩⟩
        dsimp only
        rw [Int.fmod_eq_emod_of_nonneg _ (by omega), Int.fdiv_eq_ediv_of_nonneg _ (by omega)]
        refine q _ _ (k2.put (by simp)) ⟨ne, m + 1, ns.set at_.toNat (cell / many), by rw [upd_ne ne]; exact f1, by rw [upd_same, List.map_set], by omega, by omega, by rw [List.length_set]; exact h5, fun x hx => ?_⟩ (Int.emod_nonneg _ (by omega)) (Int.emod_lt_of_pos _ (by omega))
        rcases List.mem_or_eq_of_mem_set hx with hx | hx
        · exact h6 x hx
        · rw [hx]
          exact Int.ediv_nonneg hc0 (by omega)
    · refine ⟨_, rfl, .inl ⟨cell, rfl, cell, 2147483563, rfl, rfl, by omega, .ref D, rfl, D, _, 1, _, rfl, rfl, SqL.of f1, a1 _ _, 8117, m + 1, rfl, rfl, .inl ⟨by omega, by omega⟩, _, _, rfl, rfl, _, 3, rfl, rfl, ?_⟩⟩
      have t1 : cell.fmod 2147483563 = cell % 2147483563 := Int.fmod_eq_emod_of_nonneg _ (by omega)
      have z1 : 0 ≤ cell % 2147483563 := Int.emod_nonneg _ (by omega)
      have z2 : cell % 2147483563 < 2147483563 := Int.emod_lt_of_pos _ (by omega)
      dsimp only
      rw [t1]
      obtain ⟨mx, emx⟩ : ∃ mx, mx = cell % 2147483563 + 8117 * (m + 1) + 3 := ⟨_, rfl⟩
      rw [← emx]
      refine ⟨.int mx, rfl, mx, 5, rfl, rfl, ⟨by omega, by omega, by omega⟩, ?_⟩
      refine .inl ⟨_, rfl, _, 2147483629, rfl, rfl, by omega, .inl ⟨_, rfl, .int many, rfl, _, many, rfl, rfl, by omega, ?_⟩⟩
      dsimp only
      rw [Int.fmod_eq_emod_of_nonneg _ (by omega : (0 : Int) ≤ many)]
      exact q _ _ k2 ⟨ne, m + 1, ns, f1, f2, by omega, by omega, h5, h6⟩ (Int.emod_nonneg _ (by omega)) (Int.emod_lt_of_pos _ (by omega))
end
end G

set_option Elab.async false
set_option linter.all false
set_option maxRecDepth 100000
set_option maxHeartbeats 4000000
namespace G
open PySem PySem.Spec PyProof.Rows L2
abbrev s__law_one : Stmt := top 19
abbrev n__law_one : List Str := ["_law_deck_here", "_law_items"]
theorem sc__law_one : FnScope n__law_one ["_law_deck_here", "_law_items"] (defScope s__law_one) := ⟨rfl, rfl, rfl, by decide +kernel, rfl, by decide +kernel, by decide +kernel⟩
/-- one of the items of a list (that is no part of the deck), of a tuple, or one sign of a text -/
def spOne (K : PySem.W.Frag) : Sp := fun vs H Q _ => ∃ (D L : Addr) (n : Nat) (v : V), vs = [.ref D, v] ∧ Deck H D L n ∧ n < 10 ^ 12 ∧
  ((∃ (a : Addr) (xs : List V), v = .ref a ∧ ((SqL K H a xs ∧ a ∉ [D, L]) ∨ (SqT K H a xs ∧ a ∉ [D, L])) ∧ 0 < xs.length ∧ xs.length ≤ 1000 ∧ ∀ H' y, Kp [D, L] H H' → Deck H' D L (n + 1) → y ∈ xs → Q y H') ∨
   (∃ z : Str, v = .str z ∧ 0 < z.length ∧ z.length ≤ 1000 ∧ ∀ H' c, Kp [D, L] H H' → Deck H' D L (n + 1) → c ∈ z.cps.toList → Q (.str ⟨#[c]⟩) H'))
theorem Kp.seqT {K : PySem.W.Frag} {S : List Addr} {a : Addr} {H H' : Hp} {xs : List V} (k : Kp S H H') (d : a ∉ S) (h : SqT K H a xs) : SqT K H' a xs := by
  rcases h with (h | ⟨o, h⟩) | h
  · exact .inl (.inl (k _ _ d h))
  · exact .inl (.inr ⟨o, k _ _ d h⟩)
  · exact .inr h
theorem atI_in {α : Type} {xs : List α} {r : Int} (h0 : 0 ≤ r) (h1 : r < (xs.length : Int)) : ∃ y, atI xs r = some y ∧ y ∈ xs := by
  have b : r.toNat < xs.length := by omega
  refine ⟨xs[r.toNat], ?_, List.getElem_mem b⟩
  have z := atI_nat (xs := xs) (j := r.toNat) (v := xs[r.toNat]) (List.getElem?_eq_getElem b)
  rwa [show ((r.toNat : Nat) : Int) = r by omega] at z
section
variable {P : Program} {w : World} {K : PySem.W.Frag} {mg : Str → Option Value} {base : Heap}
theorem ok_one {f f1 : Addr} {fd fd1 : FuncData} {k : Nat} (F : Fun K "_law_one" "_law_one" s__law_one f fd) (T : Bi mg) (G1 : FnOk P w K mg base CX0 k f1 fd1 ["_law_deck_here", "_law_many"] spDraw) (k1 : PySem.W.keepIn K (.ref f1) = true)
    (b1 : Binds K fd1 ["_law_deck_here", "_law_many"] []) (m1 : mg "_law_draw" = some (.ref f1)) : FnOk P w K mg base CX0 (k + 1) f fd ["_law_deck_here", "_law_items"] (spOne K) := by
  refine F.ok sc__law_one (fun vs H Q E h => ?_) (fun cdv A outer s H vs Q E hr h => ?_)
  · obtain ⟨D, L, n, v, rfl, _⟩ := h
    rfl
  obtain ⟨D, L, n, v, rfl, hD, hn, h⟩ := h
  refine ⟨_, (pss_one (ps_ret (pe_ix ix_seq (pv 1) (pe_call G1 hr (by rfl) m1 k1 b1 .nil pass0 (pa_cons (pv 0) (pa_cons (pe_callB call_len (by rfl) T.z_len (by decide +kernel) (pa_cons (pv 1) pa_nil)) pa_nil))) (fun _ _ => rfl)))), ?_⟩
  rcases h with ⟨a, xs, rfl, h, h0, hz, q⟩ | ⟨z, rfl, h0, hz, q⟩
  · refine ⟨.ref a, rfl, .ref D, rfl, .ref a, rfl, .ref a, xs.length, rfl, ?_, D, L, n, _, rfl, hD, hn, by omega, by omega, fun H' r kp hD' r0 r1 => ?_⟩
    · rcases h with h | h
      · exact .inl ⟨xs, h.1, rfl⟩
      · exact .inr ⟨xs, h.1, rfl⟩
    · obtain ⟨y, ey, hy⟩ := atI_in r0 r1
      rcases h with h | h
      · exact .inl ⟨a, xs, r, y, rfl, rfl, kp.seq h.2 h.1, ey, q H' y kp hD' hy⟩
      · exact .inr (.inl ⟨a, xs, r, y, rfl, rfl, kp.seqT h.2 h.1, ey, q H' y kp hD' hy⟩)
  · refine ⟨.str z, rfl, .ref D, rfl, .str z, rfl, .str z, z.length, rfl, ⟨line1000 hz, rfl⟩, D, L, n, _, rfl, hD, hn, by omega, by omega, fun H' r kp hD' r0 r1 => ?_⟩
    obtain ⟨c, ec, hc⟩ := atI_in (xs := z.cps.toList) r0 (by rw [Array.length_toList]; exact r1)
    exact .inr (.inr ⟨z, r, c, rfl, rfl, line1000 hz, ec, q H' c kp hD' hc⟩)
end
end G

set_option Elab.async false
set_option linter.all false
set_option maxRecDepth 100000
set_option maxHeartbeats 4000000
/-! Programs as data, drawn: names, tests, statements. -/
namespace G
open PySem PySem.Spec PyProof.Rows L2
structure Df (K : PySem.W.Frag) (mg : Str → Option Value) (x : Str) (st : Stmt) (ps : List Str) (f : Addr) (fd : FuncData) : Prop where
  F : Fun K x x st f fd
  b : Binds K fd ps []
  m : mg x = some (.ref f)
mutual
inductive TD (H : Hp) : V → PyData → Prop
  | non : TD H .non .none
  | bl (b : Bool) : TD H (.bl b) (.bool b)
  | int (i : Int) : TD H (.int i) (.int i)
  | str (x : Str) : TD H (.str x) (.str x)
  | tup {a : Addr} {xs : List V} {ds : List PyData} : H a = some (.tup xs) → TDs H xs ds → TD H (.ref a) (.tuple ds)
inductive TDs (H : Hp) : List V → List PyData → Prop
  | nil : TDs H [] []
  | cons {v : V} {vs : List V} {d : PyData} {ds : List PyData} : TD H v d → TDs H vs ds → TDs H (v :: vs) (d :: ds)
end
mutual
theorem TD.ch {S : List Addr} {H H' : Hp} (c : Ch S H H') : ∀ (d : PyData) (v : V), TD H v d → TD H' v d
  | .none, _, h => by cases h; exact .non
  | .bool b, _, h => by cases h; exact .bl b
  | .int i, _, h => by cases h; exact .int i
  | .str x, _, h => by cases h; exact .str x
  | .list ds, _, h => nomatch h
  | .tuple ds, _, h => by
    cases h with
    | tup h1 h2 => exact .tup (c.tu _ _ h1) (TDs.ch c ds _ h2)
  | .dict _, _, h => nomatch h
theorem TDs.ch {S : List Addr} {H H' : Hp} (c : Ch S H H') : ∀ (ds : List PyData) (vs : List V), TDs H vs ds → TDs H' vs ds
  | [], _, h => by cases h; exact .nil
  | d :: ds, _, h => by
    cases h with
    | cons h1 h2 => exact .cons (TD.ch c d _ h1) (TDs.ch c ds _ h2)
end
theorem TDs.snoc {H : Hp} : ∀ {vs : List V} {ds : List PyData} {v : V} {d : PyData}, TDs H vs ds → TD H v d → TDs H (vs ++ [v]) (ds ++ [d])
  | _, _, _, _, .nil, h => .cons h .nil
  | _, _, _, _, .cons h1 h2, h => .cons h1 (h2.snoc h)
theorem TDs.append {H : Hp} : ∀ {a : List V} {da : List PyData} {b : List V} {db : List PyData}, TDs H a da → TDs H b db → TDs H (a ++ b) (da ++ db)
  | _, _, _, _, .nil, h => h
  | _, _, _, _, .cons h1 h2, h => .cons h1 (h2.append h)
theorem TDs.len {H : Hp} : ∀ {vs : List V} {ds : List PyData}, TDs H vs ds → vs.length = ds.length
  | _, _, .nil => rfl
  | _, _, .cons _ t => by rw [List.length_cons, List.length_cons, t.len]
theorem TDs.mem {H : Hp} : ∀ {vs : List V} {ds : List PyData}, TDs H vs ds → ∀ v ∈ vs, ∃ d ∈ ds, TD H v d
  | _, _, .nil, v, h => nomatch h
  | _, _, .cons h1 h2, v, h => by
    rcases List.mem_cons.mp h with rfl | h
    · exact ⟨_, List.mem_cons_self .., h1⟩
    · obtain ⟨d, hd, t⟩ := h2.mem v h
      exact ⟨d, List.mem_cons_of_mem _ hd, t⟩
/-! ### on paper -/
inductive Tst
  | given (i : Nat)
  | set (x : Str)
  | same (x y : Str)
  | full (x f : Str)
  | wished (w : Str)
  | not (t : Tst)
def Tst.depth : Tst → Nat
  | .not t => t.depth + 1
  | _ => 0
def Tst.data : Tst → PyData
  | .given i => .tuple [.str "given", .int i]
  | .set x => .tuple [.str "set", .str x]
  | .same x y => .tuple [.str "same", .str x, .str y]
  | .full x f => .tuple [.str "full", .str x, .str f]
  | .wished w => .tuple [.str "wished", .str w]
  | .not t => .tuple [.str "not", t.data]
inductive Act
  | make (x : Str)
  | wish (x w : Str)
  | keep (x : Str)
  | name (x y : Str)
  | drop (x : Str)
  | hold (x f y : Str)
  | weak (x f y : Str)
  | cut (x f : Str)
  | take (z x f : Str)
  | say (w : Str)
  | ask (t : Tst)
def Act.data : Act → PyData
  | .make x => .tuple [.str "make", .str x]
  | .wish x w => .tuple [.str "wish", .str x, .str w]
  | .keep x => .tuple [.str "keep", .str x]
  | .name x y => .tuple [.str "name", .str x, .str y]
  | .drop x => .tuple [.str "drop", .str x]
  | .hold x f y => .tuple [.str "hold", .str x, .str f, .str y]
  | .weak x f y => .tuple [.str "weak", .str x, .str f, .str y]
  | .cut x f => .tuple [.str "cut", .str x, .str f]
  | .take z x f => .tuple [.str "take", .str z, .str x, .str f]
  | .say w => .tuple [.str "say", .str w]
  | .ask t => .tuple [.str "ask", t.data]
inductive Sta
  | act (a : Act)
  | cond (t : Tst) (y n : List Sta)
  | rep (k : Nat) (b : List Sta)
mutual
def Sta.data : Sta → PyData
  | .act a => a.data
  | .cond t y n => .tuple [.str "if", t.data, .tuple (blkData y), .tuple (blkData n)]
  | .rep k b => .tuple [.str "repeat", .int k, .tuple (blkData b)]
def blkData : List Sta → List PyData
  | [] => []
  | s :: r => s.data :: blkData r
end
theorem blkData_eq : ∀ b : List Sta, blkData b = b.map Sta.data
  | [] => rfl
  | s :: r => by
    show s.data :: blkData r = _
    rw [blkData_eq r]
    rfl
mutual
def Sta.size : Sta → Nat
  | .act _ => 1
  | .cond _ y n => 1 + (sizeB y + sizeB n)
  | .rep _ b => 1 + sizeB b
def sizeB : List Sta → Nat
  | [] => 0
  | s :: r => s.size + sizeB r
end
theorem sizeB_snoc (s : Sta) : ∀ b : List Sta, sizeB (b ++ [s]) = sizeB b + s.size
  | [] => by show s.size + 0 = 0 + s.size; omega
  | x :: r => by
    show x.size + sizeB (r ++ [s]) = x.size + sizeB r + s.size
    rw [sizeB_snoc s r]; omega
/-- a drawn text: short, of Unicode's signs -/
def Nm (x : Str) : Prop := x.length ≤ 8 ∧ OkS x
def Tst.nm : Tst → Prop
  | .given i => i < 4
  | .set x => Nm x
  | .same x y => Nm x ∧ Nm y
  | .full x y => Nm x ∧ Nm y
  | .wished x => Nm x
  | .not t => t.nm
def Tst.ok (t : Tst) : Prop := t.nm ∧ t.depth ≤ 3
def Act.nm : Act → Prop
  | .make x => Nm x
  | .wish x w => Nm x ∧ Nm w
  | .keep x => Nm x
  | .name x y => Nm x ∧ Nm y
  | .drop x => Nm x
  | .hold x f y => Nm x ∧ Nm f ∧ Nm y
  | .weak x f y => Nm x ∧ Nm f ∧ Nm y
  | .cut x f => Nm x ∧ Nm f
  | .take z x f => Nm z ∧ Nm x ∧ Nm f
  | .say w => Nm w
  | .ask t => t.ok
/-- statements so deep at most -/
def StaOk : Nat → Sta → Prop
  | _, .act a => a.nm
  | 0, _ => False
  | d + 1, .cond t y n => t.ok ∧ (∀ s ∈ y, StaOk d s) ∧ ∀ s ∈ n, StaOk d s
  | d + 1, .rep k b => k < 13 ∧ ∀ s ∈ b, StaOk d s
/-! ### texts that grow -/
theorem join_len (ys : List Str) (B : Nat) (h : ∀ y ∈ ys, y.length ≤ B) : (Txt.join "" ys).length ≤ ys.length * B := by
  rw [TL.join_eq]
  induction ys with
  | nil => exact Nat.zero_le _
  | cons y r ih =>
    have ih := ih fun z hz => h z (List.mem_cons_of_mem _ hz)
    have hy := h y (List.mem_cons_self ..)
    cases r with
    | nil =>
      show y.length ≤ 1 * B
      omega
    | cons z r =>
      show (y ++ ("" : Str) ++ Str.join "" (z :: r)).length ≤ ((z :: r).length + 1) * B
      rw [strLen_append, strLen_append, Nat.add_mul, Nat.one_mul]
      have e0 : ("" : Str).length = 0 := rfl
      omega
theorem sum_le (ys : List Str) (B : Nat) (h : ∀ y ∈ ys, y.length ≤ B) : (ys.map (·.length)).sum ≤ ys.length * B := by
  induction ys with
  | nil => exact Nat.zero_le _
  | cons y r ih =>
    have ih := ih fun z hz => h z (List.mem_cons_of_mem _ hz)
    have hy := h y (List.mem_cons_self ..)
    rw [List.map_cons, List.sum_cons, List.length_cons, Nat.add_mul, Nat.one_mul]
    omega
theorem join0_ok (ys : List Str) (h : ∀ y ∈ ys, OkS y) : OkS (Txt.join "" ys) := by
  rw [TL.join_eq]
  induction ys with
  | nil => exact OkS.of ""
  | cons y r ih =>
    have ih := ih fun z hz => h z (List.mem_cons_of_mem _ hz)
    have hy := h y (List.mem_cons_self ..)
    cases r with
    | nil => exact hy
    | cons z r => exact (hy.app (OkS.of "")).app ih
theorem sign_ok {c : Nat} {s : String} (h : c ∈ (Str.ofString s).cps.toList) : OkS ⟨#[c]⟩ := fun x hx => by
  have e : x = c := by simpa using hx
  rw [e]
  exact OkS.of s c h
/-- a new list of texts grows at a, one a turn, each turn takes at most c numbers of the deck -/
def GrowS (D L a : Addr) (H1 : Hp) (m c B : Nat) (i : Nat) (H' : Hp) : Prop := ∃ ys : List Str, Ch [a, D, L] H1 H' ∧ Deck H' D L (m + i * c) ∧ H' a = some (.lst (ys.map V.str)) ∧ ys.length = i ∧ ∀ y ∈ ys, y.length ≤ B ∧ OkS y
theorem GrowS.start {D L a : Addr} {H1 : Hp} {m c B : Nat} (d : Deck H1 D L m) (na : H1 a = none) : GrowS D L a H1 m c B 0 (upd H1 a (.lst [])) :=
  ⟨[], (Ch.refl _ _).new na, (d.new na).mono (by omega), upd_same, rfl, fun _ z => nomatch z⟩
theorem GrowS.step {D L a : Addr} {H1 H' H4 : Hp} {m c B i : Nat} {y : Str} (g : GrowS D L a H1 m c B i H') (hi : i < 1000) (kp : Ch [D, L] H' H4) (d : Deck H4 D L (m + i * c + c)) (ne : a ∉ [D, L]) (hy : y.length ≤ B) (ho : OkS y) :
    ∃ acc, H4 a = some (.lst acc) ∧ acc.length < sizeLine ∧ GrowS D L a H1 m c B (i + 1) (upd H4 a (.lst (acc ++ [.str y]))) := by
  obtain ⟨ys, k0, d0, ha, hl, hb⟩ := g
  have ne1 : a ≠ D := fun z => ne (by simp [z])
  have ne2 : a ≠ L := fun z => ne (by simp [z])
  have ha4 := kp.kp _ _ ne ha
  refine ⟨_, ha4, by rw [List.length_map, hl]; exact small1000 (by omega), ys ++ [y], (k0.trans (kp.mono fun b hb => List.mem_cons_of_mem _ hb)).put (by simp) ha4 (fun xs z => by cases z), ?_, ?_, by rw [List.length_append, hl]; rfl, fun z hz => ?_⟩
  · refine Deck.mono (n := m + i * c + c) ?_ (by rw [Nat.add_mul]; omega)
    exact d.kp (S := [a]) ((Kp.refl _ _).put (by simp)) (by simpa using ne1.symm) (by simpa using ne2.symm)
  · rw [upd_same, List.map_append]
    rfl
  · rcases List.mem_append.mp hz with hz | hz
    · exact hb z hz
    · rw [List.mem_singleton.mp hz]
      exact ⟨hy, ho⟩
theorem deck_ch {H H' : Hp} {D L : Addr} {n n' : Nat} (d : Deck H D L n) (d' : Deck H' D L n') (k : Kp [D, L] H H') : Ch [D, L] H H' := by
  obtain ⟨ne, m, ns, h1, h2, _⟩ := d
  obtain ⟨_, m', ns', g1, g2, _⟩ := d'
  refine ⟨k, fun b xs e => ?_, fun b o e => ?_⟩
  · refine k _ _ (fun z => ?_) e
    rcases List.mem_cons.mp z with rfl | z
    · rw [h1] at e; cases e
    · rw [List.mem_singleton.mp z, h2] at e; cases e
  · by_cases z : b ∈ [D, L]
    · rcases List.mem_cons.mp z with rfl | z
      · exact ⟨_, g1⟩
      · rw [List.mem_singleton.mp z]; exact ⟨_, g2⟩
    · exact ⟨o, k _ _ z e⟩
def rAddE : R2 := fun x y H Q => ∃ i j, x = .int i ∧ y = .int j ∧ ∀ z, z = i + j → Q (.int z) H
theorem op_addE {X : Cx} : OpR X (binaryOp .Add) rAddE := by
  intro pins s σ H x y v u Q I rx ry h
  obtain ⟨i, j, rfl, rfl, q⟩ := h
  exact op_add pins s σ H _ _ v u Q I rx ry ⟨i, j, rfl, rfl, q _ rfl⟩
end G

set_option Elab.async false
set_option linter.all false
set_option maxRecDepth 100000
set_option maxHeartbeats 4000000
/-! _law_kept, _law_name, _law_word. -/
namespace G
open PySem PySem.Spec PyProof.Rows L2
theorem cut7 (z : Str) (h : OkS z) : (cutS z none (some 7)).length ≤ 7 ∧ OkS (cutS z none (some 7)) := by
  have e : HT.sIx z.length z.length (some 7) ≤ 7 := by
    have := HT.sIx_nat z.length z.length 7
    show HT.sIx z.length z.length (some ((7 : Nat) : Int)) ≤ 7
    rw [this]
    exact Nat.min_le_left _ _
  constructor
  · show ((List.take _ _).toArray).size ≤ 7
    rw [List.size_toArray, List.length_take]
    omega
  · intro c hc
    unfold cutS at hc
    rw [List.toList_toArray] at hc
    exact h c (List.mem_of_mem_drop (List.mem_of_mem_take hc))
section
variable {P : Program} {w : World} {K : PySem.W.Frag} {mg : Str → Option Value} {base : Heap}
abbrev s__law_kept : Stmt := top 20
abbrev n__law_kept : List Str := ["_law_words"]
theorem sc__law_kept : FnScope n__law_kept [] (defScope s__law_kept) := ⟨rfl, rfl, rfl, by decide +kernel, rfl, by decide +kernel, by decide +kernel⟩
def spKept : Sp := fun vs H Q _ => vs = [] ∧ ∀ H' a (ws : List Str), Same H H' → H' a = some (.lst (ws.map V.str)) → Q (.ref a) H'
theorem ok_kept {f : Addr} {fd : FuncData} {k : Nat} (F : Fun K "_law_kept" "_law_kept" s__law_kept f fd) : FnOk P w K mg base CX0 (k + 1) f fd [] spKept := by
  refine F.ok sc__law_kept (fun vs H Q E ⟨ev, _⟩ => by rw [ev]; rfl) (fun cdv A outer s H vs Q E hr ⟨ev, q⟩ => ?_)
  subst ev
  refine ⟨_, (pss_cons (ps_set (i := 0) sc__law_kept.nd rfl (.inl rfl) pe_str)
      (pss_one (ps_ret (pe_bm0 PySem.F.plainAttrs_str PySem.F.slot_str_split PySem.F.type_str_split mt_words (pv 0))))), ?_⟩
  refine ⟨_, rfl, rfl, _, rfl, rfl, line1000 (by decide +kernel), fun p np => ?_⟩
  exact q _ p _ (Same.up np) upd_same
abbrev s__law_name : Stmt := top 21
abbrev n__law_name : List Str := ["_law_deck_here", "_law_letters", "_law_name_here", "_law_k"]
theorem sc__law_name : FnScope n__law_name ["_law_deck_here"] (defScope s__law_name) := ⟨rfl, rfl, rfl, by decide +kernel, rfl, by decide +kernel, by decide +kernel⟩
def spName : Sp := fun vs H Q _ => ∃ (D L : Addr) (n : Nat), vs = [.ref D] ∧ Deck H D L n ∧ n < 10 ^ 11 ∧ ∀ H' x, Kp [D, L] H H' → Deck H' D L (n + 12) → Nm x → Q (.str x) H'
theorem ok_name {f f1 f2 f3 : Addr} {fd fd1 fd2 fd3 : FuncData} (F : Fun K "_law_name" "_law_name" s__law_name f fd) (T : Bi mg)
    (D1 : Df K mg "_law_draw" s__law_draw ["_law_deck_here", "_law_many"] f1 fd1) (G1 : FnOk P w K mg base CX0 1 f1 fd1 ["_law_deck_here", "_law_many"] spDraw)
    (D2 : Df K mg "_law_one" s__law_one ["_law_deck_here", "_law_items"] f2 fd2) (G2 : FnOk P w K mg base CX0 2 f2 fd2 ["_law_deck_here", "_law_items"] (spOne K))
    (D3 : Df K mg "_law_kept" s__law_kept [] f3 fd3) (G3 : FnOk P w K mg base CX0 1 f3 fd3 [] spKept) : FnOk P w K mg base CX0 3 f fd ["_law_deck_here"] spName := by
  refine F.ok sc__law_name (fun vs H Q E ⟨D, L, n, ev, _⟩ => by rw [ev]; rfl) (fun cdv A outer s H vs Q E hr ⟨D, L, n, ev, hD, hn, q⟩ => ?_)
  subst ev
  have hr1 : Room 1 _ := hr.mono (by decide)
  refine ⟨_, (pss_cons (ps_set (i := 1) sc__law_name.nd rfl (.inl rfl) pe_str)
      (pss_cons (ps_set (i := 2) sc__law_name.nd rfl (.inl rfl) (pe_call G2 hr (by rfl) D2.m D2.F.kp D2.b .nil pass0 (pa_cons (pv 0) (pa_cons (pv 1) pa_nil))))
      (pss_cons (ps_for PassesOwn.never rfl (pi_range1 (by rfl) T.z_range (pa_cons (pe_call G2 hr (by rfl) D2.m D2.F.kp D2.b .nil pass0 (pa_cons (pv 0) (pa_cons (pe_lst (pa_cons pe_int (pa_cons pe_int (pa_cons pe_int (pa_cons (pe_call G1 hr1 (by rfl) D1.m D1.F.kp D1.b .nil pass0 (pa_cons (pv 0) (pa_cons pe_int pa_nil))) pa_nil))))) pa_nil))) pa_nil)) (pg_name (i := 3) sc__law_name.nd rfl (.inl rfl))
      (pss_one (ps_set (i := 2) sc__law_name.nd rfl (.inl rfl) (pe_op op_add_str (pv 2) (pe_call G2 hr (by rfl) D2.m D2.F.kp D2.b .nil pass0 (pa_cons (pv 0) (pa_cons (pe_op op_add_str (pv 1) pe_str) pa_nil)))))))
      (pss_one (ps_ret (pe_ifExp (pt_cmpR op_notIn_seq (pv 2) (pe_call0 G3 hr1 (by rfl) D3.m D3.F.kp D3.b .nil pass0) (by rfl)) (pv 2) (pe_op op_add_str (pe_slice sl_str (pv 2) po_none (po_some pe_int)) pe_str))))))), ?_⟩
  have lt26 : ∀ (H2 : Hp) (m : Nat) (z : String), Deck H2 D L m → m < 10 ^ 12 → 0 < (Str.ofString z).length → (Str.ofString z).length ≤ 1000 → ∀ (Q' : VK), (∀ H' c, Kp [D, L] H2 H' → Deck H' D L (m + 1) → OkS ⟨#[c]⟩ → Q' (.str ⟨#[c]⟩) H') → spOne K [.ref D, .str (Str.ofString z)] H2 Q' E0 := fun H2 m z d hm z0 z1 Q' h =>
    ⟨D, L, m, _, rfl, d, hm, .inr ⟨_, rfl, z0, z1, fun H' c k' d' hc => h H' c k' d' (sign_ok hc)⟩⟩
  refine ⟨.ref D, rfl, _, rfl, lt26 H n "abcdefghijklmnopqrstuvwxyz" hD (by omega) (by decide +kernel) (by decide +kernel) _ fun H1 c k1 hD1 oc => ?_⟩
  have sgn : ∀ {z : Str} {c : Nat}, OkS z → c ∈ z.cps.toList → OkS ⟨#[c]⟩ := fun {z c} hz hc x hx => by
    have e : x = c := by simpa using hx
    rw [e]
    exact hz c hc
  refine ⟨.ref D, rfl, .ref D, rfl, D, L, _, 8, rfl, hD1, by omega, by decide, by decide, fun H2 r k2 hD2 r0 r1 => ⟨line1000 (Nat.le_of_ble_eq_true rfl), fun l nl => ?_⟩⟩
  have hl : l ∉ [D, L] := by simpa using hD2.neD nl
  have s3 := Same.up (o := HO.lst [V.int 0, V.int 1, V.int 7, V.int r]) nl
  have hD3 := hD2.kp (Kp.same (S := []) s3) (fun z => nomatch z) (fun z => nomatch z)
  refine ⟨D, L, _, .ref l, rfl, hD3, by omega, .inl ⟨l, _, rfl,   .inl ⟨SqL.of upd_same, hl⟩, Nat.le_of_ble_eq_true rfl, Nat.le_of_ble_eq_true rfl, fun H4 y k4 hD4 hy => ?_⟩⟩
  obtain ⟨m, rfl, m0, m7⟩ : ∃ m : Int, y = .int m ∧ 0 ≤ m ∧ m ≤ 7 := by
    simp only [List.mem_cons, List.not_mem_nil, or_false] at hy
    rcases hy with rfl | rfl | rfl | rfl
    · exact ⟨0, rfl, by decide, by decide⟩
    · exact ⟨1, rfl, by decide, by decide⟩
    · exact ⟨7, rfl, by decide, by decide⟩
    · exact ⟨r, rfl, r0, by omega⟩
  have k14 : Kp [D, L] H H4 := k1.trans (k2.trans ((Kp.same s3).trans k4))
  clear k1 k2 s3 k4 hD3 hD2 hD1 nl
  refine ⟨m, rfl, by omega, by omega, for_range (lo := 0) (n := m.toNat) (fun i σ H' => Kp [D, L] H4 H' ∧ Deck H' D L (n + 3 + i) ∧ ∃ (x : Str) (x3 : Option V), x.length = 1 + i ∧ OkS x ∧ σ = [some (.ref D), some (.str "abcdefghijklmnopqrstuvwxyz"), some (.str x), x3])
    ⟨Kp.refl _ _, hD4, _, _, rfl, oc, rfl⟩ ?_ ?_⟩
  · rintro i σ H' hi ⟨kk, hD', x, x3, lx, ox, rfl⟩
    have o36 : OkS (Str.ofString "abcdefghijklmnopqrstuvwxyz" ++ Str.ofString "0123456789") := (OkS.of _).app (OkS.of _)
    refine ⟨_, rfl, .ref D, rfl, _, rfl, _, _, rfl, rfl, line1000 (by decide +kernel), D, L, _, _, rfl, hD', by omega, .inr ⟨_, rfl, by decide +kernel, by decide +kernel, fun H5 c5 k5 hD5 hc => ⟨_, _, rfl, rfl, line1000 (by show x.length + 1 ≤ 1000; omega), kk.trans k5, hD5, _, _, ?_, ox.app (sgn o36 hc), rfl⟩⟩⟩
    rw [strLen_append, lx]
    show 1 + i + 1 = 1 + (i + 1)
    omega
  · rintro σ H' ⟨kk, hD', x, x3, lx, ox, rfl⟩
    refine ⟨_, rfl, rfl, fun H5 a5 ws s5 g5 => ⟨a5, _, rfl, .inl (SqL.of g5), rfl, ?_, _, rfl, ite2 (fun _ => ⟨_, rfl, ?_⟩) (fun _ => ?_)⟩⟩
    · rw [List.all_eq_true]
      intro y hy
      obtain ⟨z, _, rfl⟩ := List.mem_map.mp hy
      rfl
    · exact q H5 x (k14.trans (kk.trans (Kp.same s5))) ((hD'.kp (Kp.same (S := []) s5) (fun z => nomatch z) (fun z => nomatch z)).mono (by omega)) ⟨by omega, ox⟩
    · obtain ⟨c1, c2⟩ := cut7 x ox
      refine ⟨_, rfl, _, rfl, _, rfl, line1000 (by omega), _, _, rfl, rfl, line1000 (by show (cutS x none (some 7)).length + 1 ≤ 1000; omega), ?_⟩
      exact q H5 _ (k14.trans (kk.trans (Kp.same s5))) ((hD'.kp (Kp.same (S := []) s5) (fun z => nomatch z) (fun z => nomatch z)).mono (by omega)) ⟨by rw [strLen_append]; show (cutS x none (some 7)).length + 1 ≤ 8; omega, c2.app (OkS.of "0")⟩
abbrev s__law_word : Stmt := top 22
abbrev n__law_word : List Str := ["_law_deck_here", "_law_signs", "_law_k"]
theorem sc__law_word : FnScope n__law_word ["_law_deck_here"] (defScope s__law_word) := ⟨rfl, rfl, rfl, by decide +kernel, rfl, by decide +kernel, by decide +kernel⟩
theorem ok_word {f f1 f2 : Addr} {fd fd1 fd2 : FuncData} (F : Fun K "_law_word" "_law_word" s__law_word f fd) (T : Bi mg)
    (D1 : Df K mg "_law_draw" s__law_draw ["_law_deck_here", "_law_many"] f1 fd1) (G1 : FnOk P w K mg base CX0 1 f1 fd1 ["_law_deck_here", "_law_many"] spDraw)
    (D2 : Df K mg "_law_one" s__law_one ["_law_deck_here", "_law_items"] f2 fd2) (G2 : FnOk P w K mg base CX0 2 f2 fd2 ["_law_deck_here", "_law_items"] (spOne K)) : FnOk P w K mg base CX0 3 f fd ["_law_deck_here"] spName := by
  refine F.ok sc__law_word (fun vs H Q E ⟨D, L, n, ev, _⟩ => by rw [ev]; rfl) (fun cdv A outer s H vs Q E hr ⟨D, L, n, ev, hD, hn, q⟩ => ?_)
  subst ev
  have hr1 : Room 1 _ := hr.mono (by decide)
  refine ⟨_, (pss_cons (ps_set (i := 1) sc__law_word.nd rfl (.inr rfl) pe_str)
      (pss_one (ps_ret (pe_join pe_str (pe_lc (te := tCall (spOne K) [] E0 (tCons (tVar 0) (tCons (tVar 1) tNil))) (own := [("_law_k", 2)]) (by rfl) sc__law_word.nd (pi_range1 (by rfl) T.z_range (pa_cons (pe_call G2 hr (by rfl) D2.m D2.F.kp D2.b .nil pass0 (pa_cons (pv 0) (pa_cons (pe_lst (pa_cons pe_int (pa_cons pe_int (pa_cons pe_int (pa_cons (pe_op op_addE pe_int (pe_call G1 hr1 (by rfl) D1.m D1.F.kp D1.b .nil pass0 (pa_cons (pv 0) (pa_cons pe_int pa_nil)))) pa_nil))))) pa_nil))) pa_nil)) (blkOk_by (N := n__law_word) (sc := defScope s__law_word) (by decide +kernel)) (fun _ _ _ _ _ => (pg_name (i := 2) sc__law_word.nd rfl (.inl rfl))) (fun _ _ _ _ _ => pts_nil) (fun _ _ _ _ _ => (pe_call G2 hr (by rfl) D2.m D2.F.kp D2.b .nil pass0 (pa_cons (pv 0) (pa_cons (pv 1) pa_nil))))))))), ?_⟩
  refine ⟨⟨_, rfl⟩, .ref D, rfl, .ref D, rfl, D, L, _, 8, rfl, hD, by omega, by decide, by decide, fun H2 r k2 hD2 r0 r1 => ⟨_, _, rfl, rfl, fun r' er => ⟨line1000 (Nat.le_of_ble_eq_true rfl), fun l nl => ?_⟩⟩⟩
  have hl : l ∉ [D, L] := by simpa using hD2.neD nl
  have s3 := Same.up (o := HO.lst [V.int 1, V.int 2, V.int 8, V.int r']) nl
  have hD3 := hD2.kp (Kp.same (S := []) s3) (fun z => nomatch z) (fun z => nomatch z)
  refine ⟨D, L, _, .ref l, rfl, hD3, by omega, .inl ⟨l, _, rfl, .inl ⟨SqL.of upd_same, hl⟩, Nat.le_of_ble_eq_true rfl, Nat.le_of_ble_eq_true rfl, fun H4 y k4 hD4 hy => ?_⟩⟩
  obtain ⟨m, rfl, m0, m7⟩ : ∃ m : Int, y = .int m ∧ 0 ≤ m ∧ m ≤ 8 := by
    simp only [List.mem_cons, List.not_mem_nil, or_false] at hy
    rcases hy with rfl | rfl | rfl | rfl
    · exact ⟨1, rfl, by decide, by decide⟩
    · exact ⟨2, rfl, by decide, by decide⟩
    · exact ⟨8, rfl, by decide, by decide⟩
    · exact ⟨r', rfl, by omega, by omega⟩
  have k14 : Kp [D, L] H H4 := k2.trans ((Kp.same s3).trans k4)
  clear k2 s3 k4 hD3 hD2 nl
  refine ⟨m, rfl, by omega, by omega, fun a na => ?_⟩
  have na1 : a ∉ [D, L] := by simpa using hD4.neD na
  refine lc_range (lo := 0) (n := m.toNat) (GrowS D L a H4 (n + 2) 1 1) (GrowS.start hD4 na) ?_ ?_
  · rintro i H' hi g
    obtain ⟨_, _, hD', _⟩ := id g
    refine ⟨rfl, .ref D, rfl, _, rfl, D, L, _, _, rfl, hD', by omega, .inr ⟨_, rfl, by decide +kernel, by decide +kernel, fun H5 c k5 d5 hc => ?_⟩⟩
    exact g.step (by omega) (deck_ch hD' d5 k5) d5 na1 (Nat.le_refl _) (sign_ok (s := "0123456789abcdefghijklmnopqrstuvwxyz") hc)
  · rintro H5 ⟨ys, c5, hD5, ha, hl5, hy5⟩
    have hy : ∀ y ∈ ys, y.length ≤ 1 := fun y h => (hy5 y h).1
    have ojn := join0_ok ys fun y h => (hy5 y h).2
    have hjn := join_len ys 1 hy
    refine ⟨"", a, ys, rfl, rfl, .inl (SqL.of ha), ?_, ?_⟩
    · have z := sum_le ys 1 hy
      have e0 : ("" : Str).length = 0 := rfl
      rw [e0, Nat.mul_zero]
      omega
    · exact q H5 _ (k14.trans (c5.kp.fresh na)) (hD5.mono (by omega)) ⟨by omega, ojn⟩
/-! ### the pool -/
def Pool (H : Hp) (D L a : Addr) (g : Int) : Prop := ∃ (N Wd : Addr) (ns ws : List Str), H a = some (.lst [.ref N, .ref Wd, .int g]) ∧ H N = some (.lst (ns.map V.str)) ∧ H Wd = some (.lst (ws.map V.str)) ∧ (∀ x ∈ ns, Nm x) ∧ (∀ x ∈ ws, Nm x) ∧ (0 < ns.length ∧ ns.length ≤ 5) ∧ (0 < ws.length ∧ ws.length ≤ 5) ∧ (0 ≤ g ∧ g < 4) ∧ a ∉ [D, L] ∧ N ∉ [D, L] ∧ Wd ∉ [D, L]
theorem Pool.kp {H H' : Hp} {D L a : Addr} {g : Int} (p : Pool H D L a g) (k : Kp [D, L] H H') : Pool H' D L a g := by
  obtain ⟨N, Wd, ns, ws, h1, h2, h3, h4, h5, h6, h7, h8, n1, n2, n3⟩ := p
  exact ⟨N, Wd, ns, ws, k _ _ n1 h1, k _ _ n2 h2, k _ _ n3 h3, h4, h5, h6, h7, h8, n1, n2, n3⟩
abbrev s__law_pool : Stmt := top 23
abbrev n__law_pool : List Str := ["_law_deck_here", "_law_names", "_law_k"]
theorem sc__law_pool : FnScope n__law_pool ["_law_deck_here"] (defScope s__law_pool) := ⟨rfl, rfl, rfl, by decide +kernel, rfl, by decide +kernel, by decide +kernel⟩
def spPool : Sp := fun vs H Q _ => ∃ (D L : Addr) (n : Nat), vs = [.ref D] ∧ Deck H D L n ∧ n < 9 * 10 ^ 10 ∧ ∀ H' a g, Kp [D, L] H H' → Deck H' D L (n + 200) → Pool H' D L a g → Q (.ref a) H'
theorem ok_pool {f f1 f2 f3 : Addr} {fd fd1 fd2 fd3 : FuncData} (F : Fun K "_law_pool" "_law_pool" s__law_pool f fd) (T : Bi mg)
    (D1 : Df K mg "_law_draw" s__law_draw ["_law_deck_here", "_law_many"] f1 fd1) (G1 : FnOk P w K mg base CX0 1 f1 fd1 ["_law_deck_here", "_law_many"] spDraw)
    (D2 : Df K mg "_law_name" s__law_name ["_law_deck_here"] f2 fd2) (G2 : FnOk P w K mg base CX0 3 f2 fd2 ["_law_deck_here"] spName)
    (D3 : Df K mg "_law_word" s__law_word ["_law_deck_here"] f3 fd3) (G3 : FnOk P w K mg base CX0 3 f3 fd3 ["_law_deck_here"] spName) : FnOk P w K mg base CX0 4 f fd ["_law_deck_here"] spPool := by
  refine F.ok sc__law_pool (fun vs H Q E ⟨D, L, n, ev, _⟩ => by rw [ev]; rfl) (fun cdv A outer s H vs Q E hr ⟨D, L, n, ev, hD, hn, q⟩ => ?_)
  subst ev
  have hr1 : Room 1 _ := hr.mono (by decide)
  refine ⟨_, (pss_cons (ps_setLc (i := 1) (te := tCall spName [] E0 (tCons (tVar 0) tNil)) (own := [("_law_k", 2)]) (by rfl) sc__law_pool.nd rfl rfl (sw_true rfl rfl rfl (by decide +kernel)) (pi_range1 (by rfl) T.z_range (pa_cons (pe_op op_addE pe_int (pe_call G1 hr1 (by rfl) D1.m D1.F.kp D1.b .nil pass0 (pa_cons (pv 0) (pa_cons pe_int pa_nil)))) pa_nil)) (blkOk_by (N := n__law_pool) (sc := defScope s__law_pool) (by decide +kernel)) (fun _ _ _ _ _ => (pg_name (i := 2) sc__law_pool.nd rfl (.inl rfl))) (fun _ _ _ _ _ => pts_nil) (fun _ _ _ _ _ => (pe_call G2 hr (by rfl) D2.m D2.F.kp D2.b .nil pass0 (pa_cons (pv 0) pa_nil))))
      (pss_one (ps_ret (pe_lst (pa_cons (pv 1) (pa_cons (pe_lc (te := tCall spName [] E0 (tCons (tVar 0) tNil)) (own := [("_law_k", 2)]) (by rfl) sc__law_pool.nd (pi_range1 (by rfl) T.z_range (pa_cons (pe_op op_addE pe_int (pe_call G1 hr1 (by rfl) D1.m D1.F.kp D1.b .nil pass0 (pa_cons (pv 0) (pa_cons pe_int pa_nil)))) pa_nil)) (blkOk_by (N := n__law_pool) (sc := defScope s__law_pool) (by decide +kernel)) (fun _ _ _ _ _ => (pg_name (i := 2) sc__law_pool.nd rfl (.inl rfl))) (fun _ _ _ _ _ => pts_nil) (fun _ _ _ _ _ => (pe_call G3 hr (by rfl) D3.m D3.F.kp D3.b .nil pass0 (pa_cons (pv 0) pa_nil)))) (pa_cons (pe_call G1 hr1 (by rfl) D1.m D1.F.kp D1.b .nil pass0 (pa_cons (pv 0) (pa_cons pe_int pa_nil))) pa_nil))))))), ?_⟩
  refine ⟨.ref D, rfl, D, L, _, 5, rfl, hD, by omega, by decide, by decide, fun H1 r k1 hD1 r0 r1 => ⟨_, _, rfl, rfl, fun m em => ⟨m, rfl, by omega, by omega, fun N nN => ?_⟩⟩⟩
  have neN : N ∉ [D, L] := by simpa using hD1.neD nN
  refine lc_range (lo := 0) (n := m.toNat) (GrowS D L N H1 (n + 1) 12 8) (GrowS.start hD1 nN) ?_ ?_
  · rintro i H' hi g
    obtain ⟨_, _, hD', _⟩ := id g
    refine ⟨rfl, .ref D, rfl, D, L, _, rfl, hD', by omega, fun H5 x k5 d5 hx => ?_⟩
    exact g.step (by omega) (deck_ch hD' d5 k5) d5 neN hx.1 hx.2
  rintro H2 ⟨ns, c2, hD2, gN, lN, hN⟩
  have k02 : Kp [D, L] H H2 := k1.trans (c2.kp.fresh nN)
  refine ⟨_, rfl, .ref D, rfl, D, L, _, 4, rfl, hD2, by omega, by decide, by decide, fun H3 r3 k3 hD3 r30 r31 => ⟨_, _, rfl, rfl, fun m3 em3 => ⟨m3, rfl, by omega, by omega, fun Wd nW => ?_⟩⟩⟩
  have neW : Wd ∉ [D, L] := by simpa using hD3.neD nW
  have gN3 := k3 _ _ neN gN
  have neNW : N ≠ Wd := fun z => by rw [← z, gN3] at nW; cases nW
  refine lc_range (lo := 0) (n := m3.toNat) (GrowS D L Wd H3 (n + 1 + m.toNat * 12 + 1) 12 8) (GrowS.start hD3 nW) ?_ ?_
  · rintro i H' hi g
    obtain ⟨_, _, hD', _⟩ := id g
    refine ⟨rfl, .ref D, rfl, D, L, _, rfl, hD', by omega, fun H5 x k5 d5 hx => ?_⟩
    exact g.step (by omega) (deck_ch hD' d5 k5) d5 neW hx.1 hx.2
  rintro H4 ⟨ws, c4, hD4, gW, lW, hW⟩
  have gN4 := c4.kp _ _ (by simp at neN ⊢; exact ⟨neNW, neN.1, neN.2⟩) gN3
  refine ⟨.ref D, rfl, D, L, _, 4, rfl, hD4, by omega, by decide, by decide, fun H5 g k5 hD5 g0 g1 => ⟨line1000 (Nat.le_of_ble_eq_true rfl), fun a na => ?_⟩⟩
  have s6 := Same.up (o := HO.lst [V.ref N, V.ref Wd, V.int g]) na
  refine q _ a g (k02.trans (k3.trans ((c4.kp.fresh nW).trans (k5.trans (Kp.same s6))))) ((hD5.kp (Kp.same (S := []) s6) (fun z => nomatch z) (fun z => nomatch z)).mono (by omega)) ⟨N, Wd, ns, ws, upd_same, s6 _ _ (k5 _ _ neN gN4), s6 _ _ (k5 _ _ neW gW), fun x hx => hN x hx, fun x hx => hW x hx, by omega, by omega, ⟨g0, g1⟩, by simpa using hD5.neD na, neN, neW⟩
end
end G

set_option Elab.async false
set_option linter.all false
set_option maxRecDepth 100000
set_option maxHeartbeats 4000000
/-! Written data: what an expression of tuples, texts and names gives. -/
namespace G
open PySem PySem.Spec PyProof.Rows L2 StX
abbrev CT := L2.St → Hp → Prop
def Stable (C : CT) : Prop := ∀ σ H H', Same H H' → C σ H → C σ H'
def MkE (C : CT) (te : TE) (d : PyData) : Prop := ∀ σ H Q, C σ H → (∀ H' v, Same H H' → TD H' v d → Q v H') → te σ H Q
def MkA (C : CT) (t : TA) (ds : List PyData) : Prop := ∀ σ H Q, C σ H → (∀ H' vs, Same H H' → TDs H' vs ds → Q vs H') → t σ H Q
variable {C : CT}
theorem mkA_nil : MkA C tNil [] := fun _ H Q _ q => q H [] (Same.refl _) .nil
theorem mkA_cons {te : TE} {t : TA} {d : PyData} {ds : List PyData} (hC : Stable C) (h : MkE C te d) (ht : MkA C t ds) : MkA C (tCons te t) (d :: ds) := fun σ H Q c q =>
  h σ H _ c fun H1 v s1 td => ht σ H1 _ (hC _ _ _ s1 c) fun H2 vs s2 tds => q H2 (v :: vs) (Same.trans s1 s2) (.cons (TD.ch (Ch.same (S := []) s2) _ _ td) tds)
theorem mk_tup {t : TA} {ds : List PyData} (ht : MkA C t ds) (hl : ds.length ≤ 1000) : MkE C (tTup t) (.tuple ds) := fun σ H Q c q =>
  ht σ H _ c fun H1 vs s1 tds => ⟨by rw [tds.len]; exact line1000 hl, fun p np => q _ _ (Same.trans s1 (Same.up np)) (.tup upd_same (TDs.ch (Ch.same (S := []) (Same.up np)) _ _ tds))⟩
theorem mk_str (x : Str) : MkE C (tC (.str x)) (.str x) := fun σ H Q _ q => q H _ (Same.refl _) (.str x)
theorem mk_int (i : Int) : MkE C (tC (.int i)) (.int i) := fun σ H Q _ q => q H _ (Same.refl _) (.int i)
theorem mk_bl (b : Bool) : MkE C (tC (.bl b)) (.bool b) := fun σ H Q _ q => q H _ (Same.refl _) (.bl b)
theorem mk_var {i : Nat} {d : PyData} (h : ∀ σ H, C σ H → ∃ v, σ[i]? = some (some v) ∧ TD H v d) : MkE C (tVar i) d := fun σ H Q c q => let ⟨v, e, td⟩ := h σ H c; ⟨v, e, q H v (Same.refl _) td⟩
theorem mk_nix {K : PySem.W.Frag} {i : Nat} {k : Nat} {x : Str} (h : ∀ σ H, C σ H → ∃ N xs, σ[i]? = some (some (.ref N)) ∧ H N = some (.lst xs) ∧ xs[k]? = some (.str x)) : MkE C (tOp (rIxL K) (tVar i) (tC (.int (k : Nat)))) (.str x) := fun σ H Q c q => by
  obtain ⟨N, xs, e, hN, hx⟩ := h σ H c
  exact ⟨.ref N, e, N, xs, _, _, rfl, rfl, SqL.of hN, atI_nat hx, q H _ (Same.refl _) (.str x)⟩
theorem lst_read {C : CT} {t : TA} {ds : List PyData} (ht : MkA C t ds) (hl : ds.length ≤ 1000) (σ : L2.St) (H : Hp) (Q : VK) (c : C σ H) (q : ∀ H' F xs, Same H H' → H' F = some (.lst xs) → TDs H' xs ds → H F = none → Q (.ref F) H') : tLst t σ H Q :=
  ht σ H _ c fun H1 vs s1 tds => ⟨by rw [tds.len]; exact line1000 hl, fun p np => q _ p vs (Same.trans s1 (Same.up np)) upd_same (TDs.ch (Ch.same (S := []) (Same.up np)) _ _ tds) (by
    cases e : H p with
    | none => rfl
    | some o => rw [s1 _ _ e] at np; cases np)⟩
/-- a written list of data, the data by what was drawn -/
def tMkL {α : Type} (D : α → CT × List PyData) : TE := fun σ H Q => ∃ a, (D a).1 σ H ∧ ∀ H' F xs, Same H H' → H' F = some (.lst xs) → TDs H' xs (D a).2 → H F = none → Q (.ref F) H'
theorem pe_mkL {X : Cx} {es : List Expr} {t : TA} {pos : Pos} {α : Type} (D : α → CT × List PyData) (h : PA X es t) (m : ∀ a, MkA (D a).1 t (D a).2) (hl : ∀ a, (D a).2.length ≤ 1000) : PE X (.List es pos) (tMkL D) :=
  ⟨fun pins s σ H Q I ⟨a, c, q⟩ => (pe_lst h).run pins s σ H Q I (lst_read (m a) (hl a) σ H Q c q)⟩
/-- a written tuple -/
def tMkT {α : Type} (D : α → CT × PyData) : TE := fun σ H Q => ∃ a, (D a).1 σ H ∧ ∀ H' v, Same H H' → TD H' v (D a).2 → Q v H'
theorem pe_mkT {X : Cx} {e : Expr} {te : TE} {α : Type} (D : α → CT × PyData) (h : PE X e te) (m : ∀ a, MkE (D a).1 te (D a).2) : PE X e (tMkT D) :=
  ⟨fun pins s σ H Q I ⟨a, c, q⟩ => h.run pins s σ H Q I (m a σ H Q c q)⟩
/-! ### what is known where it is written -/
end G

set_option Elab.async false
set_option linter.all false
set_option maxRecDepth 100000
set_option maxHeartbeats 4000000
/-! _law_any_test, _law_row. -/
namespace G
open PySem PySem.Spec PyProof.Rows L2
theorem lt_line {n : Nat} (h : n < 1000010) : n < sizeLine := by rw [sizeLine_eq]; omega
theorem ps_weak {X : Cx} {st : Stmt} {t tw : TS} (h : PS X st t) (w : ∀ D σ H, tw D σ H → t D σ H) : PS X st tw := ⟨fun pins s σ H D I q => h.run pins s σ H D I (w D σ H q)⟩
theorem one_nm {K : PySem.W.Frag} {H2 : Hp} {D L A : Addr} {m : Nat} {ys : List Str} (d : Deck H2 D L m) (hm : m < 10 ^ 12) (g : H2 A = some (.lst (ys.map V.str))) (na : A ∉ [D, L]) (l0 : 0 < ys.length) (l1 : ys.length ≤ 5) (hn : ∀ x ∈ ys, Nm x) {Q' : VK} (h : ∀ H' x, Kp [D, L] H2 H' → Deck H' D L (m + 1) → Nm x → Q' (.str x) H') : spOne K [.ref D, .ref A] H2 Q' E0 := by
  refine ⟨D, L, m, _, rfl, d, hm, .inl ⟨A, _, rfl, .inl ⟨SqL.of g, na⟩, by rw [List.length_map]; exact l0, by rw [List.length_map]; omega, fun H' y k' d' hy => ?_⟩⟩
  obtain ⟨x, hx, rfl⟩ := List.mem_map.mp hy
  exact h H' x k' d' (hn x hx)
/-- one of a list of data -/
theorem one_td {K : PySem.W.Frag} {H2 : Hp} {D L A : Addr} {m : Nat} {xs : List V} {ds : List PyData} (d : Deck H2 D L m) (hm : m < 10 ^ 12) (g : H2 A = some (.lst xs)) (td : TDs H2 xs ds) (na : A ∉ [D, L]) (l0 : 0 < ds.length) (l1 : ds.length ≤ 1000) {Q' : VK} (h : ∀ H' y e, Kp [D, L] H2 H' → Deck H' D L (m + 1) → TD H' y e → e ∈ ds → Q' y H') : spOne K [.ref D, .ref A] H2 Q' E0 := by
  refine ⟨D, L, m, _, rfl, d, hm, .inl ⟨A, _, rfl, .inl ⟨SqL.of g, na⟩, by rw [td.len]; exact l0, by rw [td.len]; exact l1, fun H' y k' d' hy => ?_⟩⟩
  obtain ⟨e, he, t⟩ := (TDs.ch (deck_ch d d' k') _ _ td).mem y hy
  exact h H' y e k' d' t he
def CXn (l : List (Nat × Str)) : CT := fun σ _ => ∀ q ∈ l, σ[q.1]? = some (some (.str q.2))
theorem CXn.st {l : List (Nat × Str)} : Stable (CXn l) := fun _ _ _ _ h => h
theorem CXn.v {l : List (Nat × Str)} {i : Nat} {x : Str} (h : (i, x) ∈ l) : ∀ σ H, CXn l σ H → ∃ v, σ[i]? = some (some v) ∧ TD H v (.str x) := fun σ H c => ⟨_, c _ h, .str x⟩
section
variable {P : Program} {w : World} {K : PySem.W.Frag} {mg : Str → Option Value} {base : Heap}
abbrev s__law_any_test : Stmt := top 24
abbrev n__law_any_test : List Str := ["_law_deck_here", "_law_pool_here", "_law_x", "_law_y", "_law_word_here", "_law_some", "_law_test", "_law_k"]
theorem sc__law_any_test : FnScope n__law_any_test ["_law_deck_here", "_law_pool_here"] (defScope s__law_any_test) := ⟨rfl, rfl, rfl, by decide +kernel, rfl, by decide +kernel, by decide +kernel⟩
def t4 (z : Str × Str × Str) : List Tst := [.set z.1, .same z.1 z.2.1, .full z.1 z.2.1, .wished z.2.2]
def twGiven : TS := fun Dn σ H => ∃ (D L a F : Addr) (n : Nat) (g : Int) (xs : List V) (ts : List Tst), σ[0]? = some (some (.ref D)) ∧ σ[1]? = some (some (.ref a)) ∧ σ[5]? = some (some (.ref F)) ∧ Deck H D L n ∧ n < 10 ^ 11 + 100 ∧ Pool H D L a g ∧ H F = some (.lst xs) ∧ TDs H xs (ts.map Tst.data) ∧ (∀ t ∈ ts, t.nm ∧ t.depth = 0) ∧ ts.length = 4 ∧ F ∉ [D, L] ∧
  ∀ (H' : Hp) (xs' : List V) (ts' : List Tst), Ch [D, L, F] H H' → Deck H' D L (n + 1) → H' F = some (.lst xs') → TDs H' xs' (ts'.map Tst.data) → (∀ t ∈ ts', t.nm ∧ t.depth = 0) → (4 ≤ ts'.length ∧ ts'.length ≤ 5) → Dn.nx σ H'
def spTest : Sp := fun vs H Q _ => ∃ (D L a : Addr) (n : Nat) (g : Int), vs = [.ref D, .ref a] ∧ Deck H D L n ∧ n < 10 ^ 11 ∧ Pool H D L a g ∧ ∀ (H' : Hp) (v : V) (t : Tst), Kp [D, L] H H' → Deck H' D L (n + 10) → TD H' v t.data → t.ok → Q v H'
theorem ok_any_test {f f1 f2 : Addr} {fd fd1 fd2 : FuncData} (F : Fun K "_law_any_test" "_law_any_test" s__law_any_test f fd) (T : Bi mg)
    (D1 : Df K mg "_law_draw" s__law_draw ["_law_deck_here", "_law_many"] f1 fd1) (G1 : FnOk P w K mg base CX0 1 f1 fd1 ["_law_deck_here", "_law_many"] spDraw)
    (D2 : Df K mg "_law_one" s__law_one ["_law_deck_here", "_law_items"] f2 fd2) (G2 : FnOk P w K mg base CX0 2 f2 fd2 ["_law_deck_here", "_law_items"] (spOne K)) : FnOk P w K mg base CX0 3 f fd ["_law_deck_here", "_law_pool_here"] spTest := by
  refine F.ok sc__law_any_test (fun vs H Q E ⟨D, L, a, n, g, ev, _⟩ => by rw [ev]; rfl) (fun cdv A outer s H vs Q E hr ⟨D, L, a, n, g, ev, hD, hn, hp, q⟩ => ?_)
  subst ev
  have hr1 : Room 1 _ := hr.mono (by decide)
  refine ⟨_, (pss_cons (ps_par3 (i := 2) (j := 3) (l := 4) (by rfl) sc__law_any_test.nd rfl rfl rfl (by decide) (by decide) (by decide) rfl rfl rfl (pa_cons (pe_call G2 hr (by rfl) D2.m D2.F.kp D2.b .nil pass0 (pa_cons (pv 0) (pa_cons (pe_ix ix_list (pv 1) pe_int (fun _ _ => rfl)) pa_nil))) (pa_cons (pe_call G2 hr (by rfl) D2.m D2.F.kp D2.b .nil pass0 (pa_cons (pv 0) (pa_cons (pe_ix ix_list (pv 1) pe_int (fun _ _ => rfl)) pa_nil))) (pa_cons (pe_call G2 hr (by rfl) D2.m D2.F.kp D2.b .nil pass0 (pa_cons (pv 0) (pa_cons (pe_ix ix_list (pv 1) pe_int (fun _ _ => rfl)) pa_nil))) pa_nil))) (by rfl))
      (pss_cons (ps_set (i := 5) sc__law_any_test.nd rfl (.inl rfl) (pe_mkL (fun (z : Str × Str × Str) => (CXn [(2, z.1), (3, z.2.1), (4, z.2.2)], (t4 z).map Tst.data)) (pa_cons (pe_tup (pa_cons pe_str (pa_cons (pv 2) pa_nil))) (pa_cons (pe_tup (pa_cons pe_str (pa_cons (pv 2) (pa_cons (pv 3) pa_nil)))) (pa_cons (pe_tup (pa_cons pe_str (pa_cons (pv 2) (pa_cons (pv 3) pa_nil)))) (pa_cons (pe_tup (pa_cons pe_str (pa_cons (pv 4) pa_nil))) pa_nil))))
        (fun z => mkA_cons CXn.st (mk_tup (mkA_cons CXn.st (mk_str _) (mkA_cons CXn.st (mk_var (CXn.v (x := z.1) (by simp))) mkA_nil)) (Nat.le_of_ble_eq_true rfl)) (mkA_cons CXn.st (mk_tup (mkA_cons CXn.st (mk_str _) (mkA_cons CXn.st (mk_var (CXn.v (x := z.1) (by simp))) (mkA_cons CXn.st (mk_var (CXn.v (x := z.2.1) (by simp))) mkA_nil))) (Nat.le_of_ble_eq_true rfl)) (mkA_cons CXn.st (mk_tup (mkA_cons CXn.st (mk_str _) (mkA_cons CXn.st (mk_var (CXn.v (x := z.1) (by simp))) (mkA_cons CXn.st (mk_var (CXn.v (x := z.2.1) (by simp))) mkA_nil))) (Nat.le_of_ble_eq_true rfl)) (mkA_cons CXn.st (mk_tup (mkA_cons CXn.st (mk_str _) (mkA_cons CXn.st (mk_var (CXn.v (x := z.2.2) (by simp))) mkA_nil)) (Nat.le_of_ble_eq_true rfl)) mkA_nil)))) (fun _ => Nat.le_of_ble_eq_true rfl)))
      (pss_cons (ps_weak (tw := twGiven) (ps_if (pt_cmpR op_gt (pe_ix ix_list (pv 1) pe_int (fun _ _ => rfl)) pe_int (nomark _))
      (pss_one (ps_expr (pe_bm PySem.F.plainAttrs_list PySem.F.slot_list_append PySem.F.type_list_append mt_append (pv 5) (pa_cons (pe_tup (pa_cons pe_str (pa_cons (pe_call G1 hr1 (by rfl) D1.m D1.F.kp D1.b .nil pass0 (pa_cons (pv 0) (pa_cons (pe_ix ix_list (pv 1) pe_int (fun _ _ => rfl)) pa_nil))) pa_nil))) pa_nil))))
      pss_nil) (fun Dn σ H ⟨D, L, a, Fl, n, g, xs, ts, e0, e1, e5, hD, hn, hp, gF, td, ht, lt, nF, q⟩ => by
        obtain ⟨N, Wd, ns, ws, ga, gN, gW, hN, hW, lN, lW, ⟨g0, g4⟩, na, neN, neW⟩ := id hp
        refine ⟨_, e1, a, _, _, _, rfl, rfl, SqL.of ga, atI_nat (j := 2) rfl, _, _, rfl, rfl, _, rfl, ite2 (fun h => ?_) (fun _ => ?_)⟩
        · have h : 0 < g := of_decide_eq_true h
          refine ⟨_, e5, .inl ⟨rfl, _, SqL.of gF⟩, _, e0, _, e1, a, _, _, _, rfl, rfl, SqL.of ga, atI_nat (j := 2) rfl, D, L, n, g, rfl, hD, by omega, by omega, by omega, fun H1 r k1 hD1 r0 r1 => ⟨line1000 (Nat.le_of_ble_eq_true rfl), fun t nt => ?_⟩⟩
          have c1 := deck_ch hD hD1 k1
          have gF1 := k1 _ _ nF gF
          have sT := Same.up (o := HO.tup [V.str "given", V.int r]) nt
          have net : t ≠ Fl := fun z => by rw [z, gF1] at nt; cases nt
          have lx : xs.length = 4 := by rw [td.len, List.length_map]; exact lt
          have c2 : Ch [Fl] (upd H1 t (.tup [.str "given", .int r])) (upd (upd H1 t (.tup [.str "given", .int r])) Fl (.lst (xs ++ [.ref t]))) := (Ch.refl _ _).put (by simp) (sT _ _ gF1) (fun xs z => by cases z)
          have c3 : Ch [D, L, Fl] H (upd (upd H1 t (.tup [.str "given", .int r])) Fl (.lst (xs ++ [.ref t]))) := (c1.mono (fun b hb => by simp at hb; rcases hb with rfl | rfl <;> simp)).trans ((Ch.same sT).trans (c2.mono (fun b hb => by simp at hb; simp [hb])))
          have neF : D ∉ [Fl] ∧ L ∉ [Fl] := by simp at nF ⊢; exact ⟨Ne.symm nF.1, Ne.symm nF.2⟩
          refine ⟨Fl, _, _, rfl, rfl, sT _ _ gF1, lt_line (by omega), q _ _ (ts ++ [.given r.toNat]) c3 ((hD1.kp (Kp.same (S := []) sT) (fun z => nomatch z) (fun z => nomatch z)).kp c2.kp neF.1 neF.2) upd_same ?_ (fun t ht' => ?_) (by rw [List.length_append]; show 4 ≤ ts.length + 1 ∧ ts.length + 1 ≤ 5; omega)⟩
          · rw [List.map_append]
            refine (TDs.ch c3 _ _ td).snoc (.tup (by rw [upd_ne net, upd_same]) (.cons (.str _) (.cons ?_ .nil)))
            rw [show V.int r = V.int ((r.toNat : Nat) : Int) by rw [Int.toNat_of_nonneg r0]]
            exact .int _
          · rcases List.mem_append.mp ht' with h1 | h1
            · exact ht t h1
            · rw [List.mem_singleton.mp h1]
              exact ⟨by show r.toNat < 4; omega, rfl⟩
        · exact q H xs ts (Ch.refl _ _) (hD.mono (by omega)) gF td ht (by omega)))
      (pss_cons (ps_set (i := 6) sc__law_any_test.nd rfl (.inl rfl) (pe_call G2 hr (by rfl) D2.m D2.F.kp D2.b .nil pass0 (pa_cons (pv 0) (pa_cons (pv 5) pa_nil))))
      (pss_cons (ps_for PassesOwn.never rfl (pi_range1 (by rfl) T.z_range (pa_cons (pe_call G2 hr (by rfl) D2.m D2.F.kp D2.b .nil pass0 (pa_cons (pv 0) (pa_cons (pe_lst (pa_cons pe_int (pa_cons pe_int (pa_cons pe_int (pa_cons pe_int (pa_cons pe_int pa_nil)))))) pa_nil))) pa_nil)) (pg_name (i := 7) sc__law_any_test.nd rfl (.inl rfl))
      (pss_one (ps_set (i := 6) sc__law_any_test.nd rfl (.inl rfl) (pe_tup (pa_cons pe_str (pa_cons (pv 6) pa_nil))))))
      (pss_one (ps_ret (pv 6)))))))), ?_⟩
  obtain ⟨N, Wd, ns, ws, ga, gN, gW, hN, hW, lN, lW, ⟨g0, g4⟩, na, neN, neW⟩ := id hp
  refine ⟨.ref D, rfl, _, rfl, a, _, _, _, rfl, rfl, SqL.of ga, atI_nat (j := 0) rfl, one_nm hD (by omega) gN neN lN.1 lN.2 hN fun H1 x k1 hD1 hx => ?_⟩
  refine ⟨.ref D, rfl, _, rfl, a, _, _, _, rfl, rfl, SqL.of (k1 _ _ na ga), atI_nat (j := 0) rfl, one_nm hD1 (by omega) (k1 _ _ neN gN) neN lN.1 lN.2 hN fun H2 y k2 hD2 hy => ?_⟩
  have k02 := k1.trans k2
  refine ⟨.ref D, rfl, _, rfl, a, _, _, _, rfl, rfl, SqL.of (k02 _ _ na ga), atI_nat (j := 1) rfl, one_nm hD2 (by omega) (k02 _ _ neW gW) neW lW.1 lW.2 hW fun H3 wd k3 hD3 hw => ?_⟩
  have k03 := k02.trans k3
  refine ⟨_, _, _, rfl, (x, y, wd), (fun q hq => by simp at hq; rcases hq with rfl | rfl | rfl <;> rfl), fun H4 Fl xs s4 gF td nF => ?_⟩
  have hD4 := hD3.kp (Kp.same (S := []) s4) (fun z => nomatch z) (fun z => nomatch z)
  have k04 := k03.trans (Kp.same s4)
  have nF' : Fl ∉ [D, L] := by simpa using hD3.neD nF
  have nF0 : H Fl = none := k03.none_of nF nF'
  refine ⟨D, L, a, Fl, n + 3, g, xs, t4 (x, y, wd), rfl, rfl, rfl, hD4, by omega, hp.kp k04, gF, td, (fun t ht => by
    simp [t4] at ht
    rcases ht with rfl | rfl | rfl | rfl
    · exact ⟨hx, rfl⟩
    · exact ⟨⟨hx, hy⟩, rfl⟩
    · exact ⟨⟨hx, hy⟩, rfl⟩
    · exact ⟨hw, rfl⟩), rfl, nF', fun H5 xs5 ts5 c5 hD5 gF5 td5 ht5 lt5 => ?_⟩
  have k05 : Kp [D, L] H H5 := ((k04.mono (T := [Fl, D, L]) (fun b hb => List.mem_cons_of_mem _ hb)).trans (c5.kp.mono (fun b hb => by simp at hb ⊢; rcases hb with rfl | rfl | rfl <;> simp))).fresh nF0
  refine ⟨.ref D, rfl, _, rfl, one_td hD5 (by omega) gF5 td5 nF' (by rw [List.length_map]; omega) (by rw [List.length_map]; omega) fun H6 v e k6 hD6 tdv he => ?_⟩
  obtain ⟨t, ht, rfl⟩ := List.mem_map.mp he
  obtain ⟨tn, t0⟩ := ht5 t ht
  refine ⟨.ref D, rfl, line1000 (Nat.le_of_ble_eq_true rfl), fun l nl => ?_⟩
  have hl : l ∉ [D, L] := by simpa using hD6.neD nl
  have s7 := Same.up (o := HO.lst [V.int 0, V.int 0, V.int 1, V.int 2, V.int 3]) nl
  have hD7 := hD6.kp (Kp.same (S := []) s7) (fun z => nomatch z) (fun z => nomatch z)
  refine ⟨D, L, _, .ref l, rfl, hD7, by omega, .inl ⟨l, _, rfl, .inl ⟨SqL.of upd_same, hl⟩, Nat.le_of_ble_eq_true rfl, Nat.le_of_ble_eq_true rfl, fun H8 y8 k8 hD8 hy8 => ?_⟩⟩
  obtain ⟨m, rfl, m0, m3⟩ : ∃ m : Int, y8 = .int m ∧ 0 ≤ m ∧ m ≤ 3 := by
    simp only [List.mem_cons, List.not_mem_nil, or_false] at hy8
    rcases hy8 with rfl | rfl | rfl | rfl | rfl
    · exact ⟨0, rfl, by decide, by decide⟩
    · exact ⟨0, rfl, by decide, by decide⟩
    · exact ⟨1, rfl, by decide, by decide⟩
    · exact ⟨2, rfl, by decide, by decide⟩
    · exact ⟨3, rfl, by decide, by decide⟩
  have tdv8 := TD.ch ((Ch.same s7).trans (deck_ch hD7 hD8 k8)) _ _ tdv
  have k08 : Kp [D, L] H H8 := k05.trans (k6.trans ((Kp.same s7).trans k8))
  refine ⟨m, rfl, by omega, by omega, for_range (lo := 0) (n := m.toNat) (fun i σ H' => Same H8 H' ∧ ∃ (v : V) (t : Tst) (x7 : Option V), TD H' v t.data ∧ t.nm ∧ t.depth ≤ i ∧ σ = [some (.ref D), some (.ref a), some (.str x), some (.str y), some (.str wd), some (.ref Fl), some v, x7])
    ⟨Same.refl _, v, t, _, tdv8, tn, by omega, rfl⟩ ?_ ?_⟩
  · rintro i σ H' hi ⟨s9, v', t', x7, td', tn', td0, rfl⟩
    refine ⟨_, rfl, line1000 (Nat.le_of_ble_eq_true rfl), fun p np => ⟨Same.trans s9 (Same.up np), _, .not t', _, .tup upd_same (.cons (.str _) (.cons (TD.ch (Ch.same (S := []) (Same.up np)) _ _ td') .nil)), tn', by show t'.depth + 1 ≤ i + 1; omega, rfl⟩⟩
  · rintro σ H' ⟨s9, v', t', x7, td', tn', td0, rfl⟩
    exact ⟨_, rfl, q H' v' t' (k08.trans (Kp.same s9)) ((hD8.kp (Kp.same (S := []) s9) (fun z => nomatch z) (fun z => nomatch z)).mono (by omega)) td' ⟨tn', by omega⟩⟩
end
end G

set_option Elab.async false
set_option linter.all false
set_option maxRecDepth 100000
set_option maxHeartbeats 4000000
/-! _law_row. Written by mkU3.py. -/
namespace G
open PySem PySem.Spec PyProof.Rows L2
section
variable {P : Program} {w : World} {K : PySem.W.Frag} {mg : Str → Option Value} {base : Heap}
abbrev s__law_row : Stmt := top 25
abbrev n__law_row : List Str := ["_law_deck_here", "_law_pool_here", "_law_x", "_law_y", "_law_z", "_law_f", "_law_word_here", "_law_some"]
theorem sc__law_row : FnScope n__law_row ["_law_deck_here", "_law_pool_here"] (defScope s__law_row) := ⟨rfl, rfl, rfl, by decide +kernel, rfl, by decide +kernel, by decide +kernel⟩
def l6 (z : Str × Str × Str × Str × Str) : List Act := [.make z.1, .keep z.1, .drop z.1, .wish z.1 z.2.2.2.2, .name z.1 z.2.1, .hold z.1 z.2.2.2.1 z.2.1]
def l4 (z : Str × Str × Str × Str × Str) : List Act := [.weak z.1 z.2.2.2.1 z.2.1, .cut z.1 z.2.2.2.1, .take z.2.2.1 z.1 z.2.2.2.1, .say z.2.2.2.2]
def spRow : Sp := fun vs H Q _ => ∃ (D L a : Addr) (n : Nat) (g : Int), vs = [.ref D, .ref a] ∧ Deck H D L n ∧ n < 10 ^ 11 - 10 ∧ Pool H D L a g ∧ ∀ (H' : Hp) (v : V) (b : Act), Kp [D, L] H H' → Deck H' D L (n + 20) → TD H' v b.data → b.nm → Q v H'
theorem ok_row {f f2 f3 : Addr} {fd fd2 fd3 : FuncData} (F : Fun K "_law_row" "_law_row" s__law_row f fd)
    (D2 : Df K mg "_law_one" s__law_one ["_law_deck_here", "_law_items"] f2 fd2) (G2 : FnOk P w K mg base CX0 2 f2 fd2 ["_law_deck_here", "_law_items"] (spOne K))
    (D3 : Df K mg "_law_any_test" s__law_any_test ["_law_deck_here", "_law_pool_here"] f3 fd3) (G3 : FnOk P w K mg base CX0 3 f3 fd3 ["_law_deck_here", "_law_pool_here"] spTest) : FnOk P w K mg base CX0 4 f fd ["_law_deck_here", "_law_pool_here"] spRow := by
  refine F.ok sc__law_row (fun vs H Q E ⟨D, L, a, n, g, ev, _⟩ => by rw [ev]; rfl) (fun cdv A outer s H vs Q E hr ⟨D, L, a, n, g, ev, hD, hn, hp, q⟩ => ?_)
  subst ev
  have hr2 : Room 2 _ := hr.mono (by decide)
  refine ⟨_, (pss_cons (ps_par3 (i := 2) (j := 3) (l := 4) (by rfl) sc__law_row.nd rfl rfl rfl (by decide) (by decide) (by decide) rfl rfl rfl (pa_cons (pe_call G2 hr2 (by rfl) D2.m D2.F.kp D2.b .nil pass0 (pa_cons (pv 0) (pa_cons (pe_ix ix_list (pv 1) pe_int (fun _ _ => rfl)) pa_nil))) (pa_cons (pe_call G2 hr2 (by rfl) D2.m D2.F.kp D2.b .nil pass0 (pa_cons (pv 0) (pa_cons (pe_ix ix_list (pv 1) pe_int (fun _ _ => rfl)) pa_nil))) (pa_cons (pe_call G2 hr2 (by rfl) D2.m D2.F.kp D2.b .nil pass0 (pa_cons (pv 0) (pa_cons (pe_ix ix_list (pv 1) pe_int (fun _ _ => rfl)) pa_nil))) pa_nil))) (by rfl))
      (pss_cons (ps_par (i := 5) (j := 6) (by rfl) sc__law_row.nd rfl rfl (by decide) rfl rfl (pa_cons (pe_call G2 hr2 (by rfl) D2.m D2.F.kp D2.b .nil pass0 (pa_cons (pv 0) (pa_cons (pe_ix ix_list (pv 1) pe_int (fun _ _ => rfl)) pa_nil))) (pa_cons (pe_call G2 hr2 (by rfl) D2.m D2.F.kp D2.b .nil pass0 (pa_cons (pv 0) (pa_cons (pe_ix ix_list (pv 1) pe_int (fun _ _ => rfl)) pa_nil))) pa_nil)) (by rfl))
      (pss_cons (ps_set (i := 7) sc__law_row.nd rfl (.inl rfl) (pe_mkL (fun (z : Str × Str × Str × Str × Str) => (CXn [(2, z.1), (3, z.2.1), (4, z.2.2.1), (5, z.2.2.2.1), (6, z.2.2.2.2)], (l6 z).map Act.data)) (pa_cons (pe_tup (pa_cons pe_str (pa_cons (pv 2) pa_nil))) (pa_cons (pe_tup (pa_cons pe_str (pa_cons (pv 2) pa_nil))) (pa_cons (pe_tup (pa_cons pe_str (pa_cons (pv 2) pa_nil))) (pa_cons (pe_tup (pa_cons pe_str (pa_cons (pv 2) (pa_cons (pv 6) pa_nil)))) (pa_cons (pe_tup (pa_cons pe_str (pa_cons (pv 2) (pa_cons (pv 3) pa_nil)))) (pa_cons (pe_tup (pa_cons pe_str (pa_cons (pv 2) (pa_cons (pv 5) (pa_cons (pv 3) pa_nil))))) pa_nil)))))) (fun z => (mkA_cons CXn.st (mk_tup (mkA_cons CXn.st (mk_str _) (mkA_cons CXn.st (mk_var (CXn.v (i := 2) (x := z.1) (by simp))) mkA_nil)) (Nat.le_of_ble_eq_true rfl)) (mkA_cons CXn.st (mk_tup (mkA_cons CXn.st (mk_str _) (mkA_cons CXn.st (mk_var (CXn.v (i := 2) (x := z.1) (by simp))) mkA_nil)) (Nat.le_of_ble_eq_true rfl)) (mkA_cons CXn.st (mk_tup (mkA_cons CXn.st (mk_str _) (mkA_cons CXn.st (mk_var (CXn.v (i := 2) (x := z.1) (by simp))) mkA_nil)) (Nat.le_of_ble_eq_true rfl)) (mkA_cons CXn.st (mk_tup (mkA_cons CXn.st (mk_str _) (mkA_cons CXn.st (mk_var (CXn.v (i := 2) (x := z.1) (by simp))) (mkA_cons CXn.st (mk_var (CXn.v (i := 6) (x := z.2.2.2.2) (by simp))) mkA_nil))) (Nat.le_of_ble_eq_true rfl)) (mkA_cons CXn.st (mk_tup (mkA_cons CXn.st (mk_str _) (mkA_cons CXn.st (mk_var (CXn.v (i := 2) (x := z.1) (by simp))) (mkA_cons CXn.st (mk_var (CXn.v (i := 3) (x := z.2.1) (by simp))) mkA_nil))) (Nat.le_of_ble_eq_true rfl)) (mkA_cons CXn.st (mk_tup (mkA_cons CXn.st (mk_str _) (mkA_cons CXn.st (mk_var (CXn.v (i := 2) (x := z.1) (by simp))) (mkA_cons CXn.st (mk_var (CXn.v (i := 5) (x := z.2.2.2.1) (by simp))) (mkA_cons CXn.st (mk_var (CXn.v (i := 3) (x := z.2.1) (by simp))) mkA_nil)))) (Nat.le_of_ble_eq_true rfl)) mkA_nil))))))) (fun _ => Nat.le_of_ble_eq_true rfl)))
      (pss_cons (ps_set (i := 7) sc__law_row.nd rfl (.inl rfl) (pe_op op_cat (pv 7) (pe_mkL (fun (z : Str × Str × Str × Str × Str) => (CXn [(2, z.1), (3, z.2.1), (4, z.2.2.1), (5, z.2.2.2.1), (6, z.2.2.2.2)], (l4 z).map Act.data)) (pa_cons (pe_tup (pa_cons pe_str (pa_cons (pv 2) (pa_cons (pv 5) (pa_cons (pv 3) pa_nil))))) (pa_cons (pe_tup (pa_cons pe_str (pa_cons (pv 2) (pa_cons (pv 5) pa_nil)))) (pa_cons (pe_tup (pa_cons pe_str (pa_cons (pv 4) (pa_cons (pv 2) (pa_cons (pv 5) pa_nil))))) (pa_cons (pe_tup (pa_cons pe_str (pa_cons (pv 6) pa_nil))) pa_nil)))) (fun z => (mkA_cons CXn.st (mk_tup (mkA_cons CXn.st (mk_str _) (mkA_cons CXn.st (mk_var (CXn.v (i := 2) (x := z.1) (by simp))) (mkA_cons CXn.st (mk_var (CXn.v (i := 5) (x := z.2.2.2.1) (by simp))) (mkA_cons CXn.st (mk_var (CXn.v (i := 3) (x := z.2.1) (by simp))) mkA_nil)))) (Nat.le_of_ble_eq_true rfl)) (mkA_cons CXn.st (mk_tup (mkA_cons CXn.st (mk_str _) (mkA_cons CXn.st (mk_var (CXn.v (i := 2) (x := z.1) (by simp))) (mkA_cons CXn.st (mk_var (CXn.v (i := 5) (x := z.2.2.2.1) (by simp))) mkA_nil))) (Nat.le_of_ble_eq_true rfl)) (mkA_cons CXn.st (mk_tup (mkA_cons CXn.st (mk_str _) (mkA_cons CXn.st (mk_var (CXn.v (i := 4) (x := z.2.2.1) (by simp))) (mkA_cons CXn.st (mk_var (CXn.v (i := 2) (x := z.1) (by simp))) (mkA_cons CXn.st (mk_var (CXn.v (i := 5) (x := z.2.2.2.1) (by simp))) mkA_nil)))) (Nat.le_of_ble_eq_true rfl)) (mkA_cons CXn.st (mk_tup (mkA_cons CXn.st (mk_str _) (mkA_cons CXn.st (mk_var (CXn.v (i := 6) (x := z.2.2.2.2) (by simp))) mkA_nil)) (Nat.le_of_ble_eq_true rfl)) mkA_nil))))) (fun _ => Nat.le_of_ble_eq_true rfl))))
      (pss_one (ps_ret (pe_call G2 hr2 (by rfl) D2.m D2.F.kp D2.b .nil pass0 (pa_cons (pv 0) (pa_cons (pe_op op_cat (pv 7) (pe_lst (pa_cons (pe_tup (pa_cons pe_str (pa_cons (pe_call G3 hr (by rfl) D3.m D3.F.kp D3.b .nil pass0 (pa_cons (pv 0) (pa_cons (pv 1) pa_nil))) pa_nil))) pa_nil))) pa_nil))))))))), ?_⟩
  obtain ⟨N, Wd, ns, ws, ga, gN, gW, hN, hW, lN, lW, ⟨g0, g4⟩, na, neN, neW⟩ := id hp
  refine ⟨.ref D, rfl, _, rfl, a, _, _, _, rfl, rfl, SqL.of ga, atI_nat (j := 0) rfl, one_nm hD (by omega) gN neN lN.1 lN.2 hN fun H1 x k1 hD1 hx => ?_⟩
  refine ⟨.ref D, rfl, _, rfl, a, _, _, _, rfl, rfl, SqL.of (k1 _ _ na ga), atI_nat (j := 0) rfl, one_nm hD1 (by omega) (k1 _ _ neN gN) neN lN.1 lN.2 hN fun H2 y k2 hD2 hy => ?_⟩
  have k02 := k1.trans k2
  refine ⟨.ref D, rfl, _, rfl, a, _, _, _, rfl, rfl, SqL.of (k02 _ _ na ga), atI_nat (j := 0) rfl, one_nm hD2 (by omega) (k02 _ _ neN gN) neN lN.1 lN.2 hN fun H3 z k3 hD3 hz => ?_⟩
  have k03 := k02.trans k3
  refine ⟨_, _, _, rfl, ?_⟩
  refine ⟨.ref D, rfl, _, rfl, a, _, _, _, rfl, rfl, SqL.of (k03 _ _ na ga), atI_nat (j := 0) rfl, one_nm hD3 (by omega) (k03 _ _ neN gN) neN lN.1 lN.2 hN fun H4 fl k4 hD4 hf => ?_⟩
  have k04 := k03.trans k4
  refine ⟨.ref D, rfl, _, rfl, a, _, _, _, rfl, rfl, SqL.of (k04 _ _ na ga), atI_nat (j := 1) rfl, one_nm hD4 (by omega) (k04 _ _ neW gW) neW lW.1 lW.2 hW fun H5 wd k5 hD5 hw => ?_⟩
  have k05 := k04.trans k5
  have ctx : ∀ {σ : L2.St} {x2 x3 x4 x5 x6 : Str}, σ[2]? = some (some (.str x2)) → σ[3]? = some (some (.str x3)) → σ[4]? = some (some (.str x4)) → σ[5]? = some (some (.str x5)) → σ[6]? = some (some (.str x6)) → ∀ q ∈ [(2, x2), (3, x3), (4, x4), (5, x5), (6, x6)], σ[q.1]? = some (some (.str q.2)) := fun e2 e3 e4 e5 e6 q hq => by
    simp at hq
    rcases hq with rfl | rfl | rfl | rfl | rfl
    · exact e2
    · exact e3
    · exact e4
    · exact e5
    · exact e6
  refine ⟨_, _, rfl, (x, y, z, fl, wd), ctx rfl rfl rfl rfl rfl, fun H6 F1 xs s6 g6 td6 nF1 => ?_⟩
  refine ⟨_, rfl, (x, y, z, fl, wd), ctx rfl rfl rfl rfl rfl, fun H7 F2 xs2 s7 g7 td7 nF2 => ?_⟩
  have l6' : xs.length = 6 := by rw [td6.len, List.length_map]; rfl
  have l4' : xs2.length = 4 := by rw [td7.len, List.length_map]; rfl
  refine ⟨F1, F2, _, _, rfl, rfl, s7 _ _ g6, g7, Nat.le_of_lt (lt_line (by omega)), fun F3 nF3 => ?_⟩
  have s8 := Same.up (o := HO.lst (xs ++ xs2)) nF3
  have g8 : upd H7 F3 (HO.lst (xs ++ xs2)) F3 = some (.lst (xs ++ xs2)) := upd_same
  have s58 := Same.trans s6 (Same.trans s7 s8)
  have td8 : TDs (upd H7 F3 (HO.lst (xs ++ xs2))) (xs ++ xs2) ((l6 (x, y, z, fl, wd) ++ l4 (x, y, z, fl, wd)).map Act.data) := by
    rw [List.map_append]
    exact (TDs.ch (Ch.same (S := []) (Same.trans s7 s8)) _ _ td6).append (TDs.ch (Ch.same (S := []) s8) _ _ td7)
  have hD8 := hD5.kp (Kp.same (S := []) s58) (fun z => nomatch z) (fun z => nomatch z)
  have nF3' : F3 ∉ [D, L] := by simpa using (hD5.kp (Kp.same (S := []) (Same.trans s6 s7)) (fun z => nomatch z) (fun z => nomatch z)).neD nF3
  generalize upd H7 F3 (HO.lst (xs ++ xs2)) = H8 at s8 g8 s58 td8 hD8 ⊢
  have k08 := k05.trans (Kp.same s58)
  refine ⟨.ref D, rfl, _, rfl, .ref D, rfl, _, rfl, D, L, a, _, g, rfl, hD8, by omega, hp.kp k08, fun H9 v t k9 hD9 tdv tok => ⟨line1000 (Nat.le_of_ble_eq_true rfl), fun t1 n1 => ⟨line1000 (Nat.le_of_ble_eq_true rfl), fun l nl => ?_⟩⟩⟩
  have sA := Same.up (o := HO.tup [V.str "ask", v]) n1
  have sB := Same.up (o := HO.lst [V.ref t1]) nl
  have c9 := deck_ch hD8 hD9 k9
  refine ⟨F3, l, _, _, rfl, rfl, sB _ _ (sA _ _ (k9 _ _ nF3' g8)), upd_same, Nat.le_of_lt (lt_line (by rw [List.length_append, l6', l4']; show 6 + 4 + 1 < _; omega)), fun p np => ?_⟩
  have sC := Same.up (o := HO.lst (xs ++ xs2 ++ [V.ref t1])) np
  have sBC := Same.trans sB sC
  have tdE : TDs (upd (upd (upd H9 t1 (HO.tup [V.str "ask", v])) l (HO.lst [V.ref t1])) p (HO.lst (xs ++ xs2 ++ [V.ref t1]))) (xs ++ xs2 ++ [V.ref t1]) ((l6 (x, y, z, fl, wd) ++ l4 (x, y, z, fl, wd) ++ [Act.ask t]).map Act.data) := by
    rw [List.map_append]
    exact (TDs.ch (c9.trans (Ch.same (Same.trans sA sBC))) _ _ td8).append (.cons (.tup (sBC _ _ upd_same) (.cons (.str _) (.cons (TD.ch (Ch.same (S := []) (Same.trans sA sBC)) _ _ tdv) .nil))) .nil)
  have hDE := hD9.kp (Kp.same (S := []) (Same.trans sA sBC)) (fun z => nomatch z) (fun z => nomatch z)
  have np' : p ∉ [D, L] := by simpa using (hD9.kp (Kp.same (S := []) (Same.trans sA sB)) (fun z => nomatch z) (fun z => nomatch z)).neD np
  refine one_td hDE (by omega) upd_same tdE np' (by rw [List.length_map, List.length_append]; show 0 < _ + 1; omega) (by rw [List.length_map]; exact Nat.le_of_ble_eq_true rfl) fun H10 y10 e k10 hD10 td10 he => ?_
  obtain ⟨b, hb, rfl⟩ := List.mem_map.mp he
  refine q H10 y10 b (k08.trans (k9.trans ((Kp.same (Same.trans sA sBC)).trans k10))) (hD10.mono (by omega)) td10 ?_
  rcases List.mem_append.mp hb with hb | hb
  · rcases List.mem_append.mp hb with hb | hb
    · simp [l6] at hb
      rcases hb with rfl | rfl | rfl | rfl | rfl | rfl
      · exact hx
      · exact hx
      · exact hx
      · exact ⟨hx, hw⟩
      · exact ⟨hx, hy⟩
      · exact ⟨hx, hf, hy⟩
    · simp [l4] at hb
      rcases hb with rfl | rfl | rfl | rfl
      · exact ⟨hx, hf, hy⟩
      · exact ⟨hx, hf⟩
      · exact ⟨hz, hx, hf⟩
      · exact hw
  · rw [List.mem_singleton.mp hb]
    exact tok
end
end G

set_option Elab.async false
set_option linter.all false
set_option maxRecDepth 100000
set_option maxHeartbeats 4000000
/-! _law_rows, _law_inner. -/
namespace G
open PySem PySem.Spec PyProof.Rows L2
theorem pe_cons {X : Cx} {e : Expr} {te tw : TE} (h : PE X e te) (w : ∀ σ H Q, tw σ H Q → te σ H Q) : PE X e tw := ⟨fun pins s σ H Q I q => h.run pins s σ H Q I (w σ H Q q)⟩
def tFalse : TE := fun _ _ _ => False
theorem pe_never {X : Cx} {e : Expr} : PE X e tFalse := ⟨fun _ _ _ _ _ _ h => h.elim⟩
theorem Pool.kpL {H H' : Hp} {D L a Lf : Addr} {g l0 l1 : Int} (p : Pool H D L a g) (gL : H Lf = some (.lst [.int l0, .int l1])) (k : Kp [D, L, Lf] H H') : Pool H' D L a g := by
  obtain ⟨N, Wd, ns, ws, h1, h2, h3, h4, h5, h6, h7, h8, n1, n2, n3⟩ := p
  have e1 : a ≠ Lf := fun z => by rw [z, gL] at h1; cases h1
  have key : ∀ {A : Addr} {l : List Str}, H A = some (.lst (l.map V.str)) → 0 < l.length → A ≠ Lf := fun {A l} h hl z => by
    rw [z, gL] at h
    cases l with
    | nil => exact absurd hl (Nat.lt_irrefl 0)
    | cons x r => cases h
  have e2 := key h2 h6.1
  have e3 := key h3 h7.1
  have up : ∀ {A : Addr}, A ∉ [D, L] → A ≠ Lf → A ∉ [D, L, Lf] := fun {A} h z y => by
    simp at h y
    rcases y with y | y | y
    · exact h.1 y
    · exact h.2 y
    · exact z y
  exact ⟨N, Wd, ns, ws, k _ _ (up n1 e1) h1, k _ _ (up n2 e2) h2, k _ _ (up n3 e3) h3, h4, h5, h6, h7, h8, n1, n2, n3⟩
def cI : Nat → Nat
  | 0 => 0
  | r + 1 => 633 + 60 * cI r
theorem blk_snoc (b : List Sta) (s : Sta) : blkData (b ++ [s]) = blkData b ++ [s.data] := by
  rw [blkData_eq, blkData_eq, List.map_append]
  rfl
/-- a drawn block -/
def spBl (dp : Int) (c d : Nat) : Sp := fun vs H Q _ => ∃ (D L a Lf : Addr) (n : Nat) (g l0 l1 times : Int), vs = [.ref D, .ref a, .ref Lf, .int dp, .int times] ∧ Deck H D L n ∧ n + c < 10 ^ 11 - 100 ∧ Pool H D L a g ∧ H Lf = some (.lst [.int l0, .int l1]) ∧ Lf ∉ [D, L] ∧ (0 ≤ l0 ∧ l0 ≤ 31) ∧ (0 ≤ l1 ∧ l1 ≤ 200) ∧ (0 ≤ times ∧ times ≤ 2400) ∧
  ∀ (H' : Hp) (t : Addr) (blk : List Sta) (l0' l1' : Int), Ch [D, L, Lf] H H' → Deck H' D L (n + c) → H' Lf = some (.lst [.int l0', .int l1']) → TD H' (.ref t) (.tuple (blkData blk)) → (∀ s ∈ blk, StaOk d s) → ((sizeB blk : Nat) : Int) + l0' ≤ l0 → 0 ≤ l0' → (0 ≤ l1' ∧ l1' ≤ 200) → Q (.ref t) H'
def rSubE : R2 := fun x y H Q => ∃ i j, x = .int i ∧ y = .int j ∧ ∀ z, z = i - j → Q (.int z) H
theorem op_subE {X : Cx} : OpR X (binaryOp .Sub) rSubE := by
  intro pins s σ H x y v u Q I rx ry h
  obtain ⟨i, j, rfl, rfl, q⟩ := h
  exact op_sub pins s σ H _ _ v u Q I rx ry ⟨i, j, rfl, rfl, q _ rfl⟩
def twMany : TE := fun σ H Q => ∃ (D L : Addr) (n : Nat) (dp : Int), σ[0]? = some (some (.ref D)) ∧ σ[3]? = some (some (.int dp)) ∧ Deck H D L n ∧ n < 10 ^ 11 ∧ ∀ (H' : Hp) (v : Int), Kp [D, L] H H' → Deck H' D L (n + 2) → 0 ≤ v → v < 31 → Q (.int v) H'
section
variable {P : Program} {w : World} {K : PySem.W.Frag} {mg : Str → Option Value} {base : Heap}
abbrev s__law_inner : Stmt := top 27
abbrev p__law_rows : List Str := ["_law_deck_here", "_law_pool_here", "_law_left", "_law_depth", "_law_times"]
abbrev n__law_inner : List Str := ["_law_deck_here", "_law_pool_here", "_law_left", "_law_depth", "_law_times"]
theorem sc__law_inner : FnScope n__law_inner p__law_rows (defScope s__law_inner) := ⟨rfl, rfl, rfl, by decide +kernel, rfl, by decide +kernel, by decide +kernel⟩
theorem ok_inner0 {f : Addr} {fd : FuncData} (F : Fun K "_law_inner" "_law_inner" s__law_inner f fd) : FnOk P w K mg base CX0 5 f fd p__law_rows (spBl 4 (cI 0) 0) := by
  refine F.ok sc__law_inner (fun vs H Q E ⟨D, L, a, Lf, n, g, l0, l1, times, ev, _⟩ => by rw [ev]; rfl) (fun cdv A outer s H vs Q E hr ⟨D, L, a, Lf, n, g, l0, l1, times, ev, hD, hn, hp, gL, nL, b0, b1, b2, q⟩ => ?_)
  subst ev
  refine ⟨_, (pss_one (ps_ret (pe_ifExp (pt_cmpR op_lt (pv 3) pe_int (nomark _)) pe_never (pe_tup pa_nil)))), ?_⟩
  refine ⟨_, rfl, _, _, rfl, rfl, _, rfl, ite2 (fun h => absurd h (by decide)) (fun _ => ⟨Nat.zero_le _, fun t nt => ?_⟩)⟩
  exact q _ t [] l0 l1 (Ch.same (Same.up nt)) ((hD.kp (Kp.same (S := []) (Same.up nt)) (fun z => nomatch z) (fun z => nomatch z)).mono (by omega)) (Same.up nt _ _ gL) (.tup upd_same .nil) (fun _ z => nomatch z) (by show ((0 : Nat) : Int) + l0 ≤ l0; omega) b0.1 b1
theorem ok_innerS {f fR : Addr} {fd dR : FuncData} {r k : Nat} (hr4 : r < 4) (F : Fun K "_law_inner" "_law_inner" s__law_inner f fd) (mR : mg "_law_rows" = some (.ref fR)) (kR : PySem.W.keepIn K (.ref fR) = true) (bR : Binds K dR p__law_rows [])
    (GR : FnOk P w K mg base CX0 k fR dR p__law_rows (spBl (4 - (r : Int)) (cI (r + 1)) (r + 1))) : FnOk P w K mg base CX0 (k + 1) f fd p__law_rows (spBl (4 - ((r + 1 : Nat) : Int)) (cI (r + 1)) (r + 1)) := by
  refine F.ok sc__law_inner (fun vs H Q E ⟨D, L, a, Lf, n, g, l0, l1, times, ev, _⟩ => by rw [ev]; rfl) (fun cdv A outer s H vs Q E hr ⟨D, L, a, Lf, n, g, l0, l1, times, ev, hD, hn, hp, gL, nL, b0, b1, b2, q⟩ => ?_)
  subst ev
  refine ⟨_, (pss_one (ps_ret (pe_ifExp (pt_cmpR op_lt (pv 3) pe_int (nomark _)) (pe_call GR hr (by rfl) mR kR bR .nil pass0 (pa_cons (pv 0) (pa_cons (pv 1) (pa_cons (pv 2) (pa_cons (pe_op op_addE (pv 3) pe_int) (pa_cons (pv 4) pa_nil)))))) pe_never))), ?_⟩
  refine ⟨_, rfl, _, _, rfl, rfl, _, rfl, ite2 (fun _ => ?_) (fun h => absurd (decide_eq_true (by omega)) h)⟩
  refine ⟨_, rfl, _, rfl, _, rfl, _, rfl, _, _, rfl, rfl, fun z ez => ⟨_, rfl, D, L, a, Lf, n, g, l0, l1, times, ?_, hD, hn, hp, gL, nL, b0, b1, b2, q⟩⟩
  have e : z = 4 - (r : Int) := by rw [ez]; push_cast; omega
  rw [e]
  rfl
abbrev s__law_rows : Stmt := top 26
abbrev n__law_rows : List Str := ["_law_deck_here", "_law_pool_here", "_law_left", "_law_depth", "_law_times", "_law_rows_here", "_law_k", "_law_way", "_law_count", "_law_test", "_law_yes"]
theorem sc__law_rows : FnScope n__law_rows p__law_rows (defScope s__law_rows) := ⟨rfl, rfl, rfl, by decide +kernel, rfl, by decide +kernel, by decide +kernel⟩
theorem ok_rows {f f1 f2 f3 f4 fI : Addr} {fd fd1 fd2 fd3 fd4 dI : FuncData} {r k : Nat} (hr4 : r ≤ 4) (F : Fun K "_law_rows" "_law_rows" s__law_rows f fd) (T : Bi mg) (z_tuple : mg "tuple" = none)
    (D1 : Df K mg "_law_draw" s__law_draw ["_law_deck_here", "_law_many"] f1 fd1) (G1 : FnOk P w K mg base CX0 1 f1 fd1 ["_law_deck_here", "_law_many"] spDraw)
    (D2 : Df K mg "_law_one" s__law_one ["_law_deck_here", "_law_items"] f2 fd2) (G2 : FnOk P w K mg base CX0 2 f2 fd2 ["_law_deck_here", "_law_items"] (spOne K))
    (D3 : Df K mg "_law_any_test" s__law_any_test ["_law_deck_here", "_law_pool_here"] f3 fd3) (G3 : FnOk P w K mg base CX0 3 f3 fd3 ["_law_deck_here", "_law_pool_here"] spTest)
    (D4 : Df K mg "_law_row" s__law_row ["_law_deck_here", "_law_pool_here"] f4 fd4) (G4 : FnOk P w K mg base CX0 4 f4 fd4 ["_law_deck_here", "_law_pool_here"] spRow)
    (mI : mg "_law_inner" = some (.ref fI)) (kI : PySem.W.keepIn K (.ref fI) = true) (bI : Binds K dI p__law_rows []) (hk : 5 ≤ k) (GI : FnOk P w K mg base CX0 k fI dI p__law_rows (spBl (4 - (r : Int)) (cI r) r)) : FnOk P w K mg base CX0 (k + 1) f fd p__law_rows (spBl (4 - (r : Int)) (cI (r + 1)) (r + 1)) := by
  refine F.ok sc__law_rows (fun vs H Q E ⟨D, L, a, Lf, n, g, l0, l1, times, ev, _⟩ => by rw [ev]; rfl) (fun cdv A outer s H vs Q E hr ⟨D, L, a, Lf, n, g, l0, l1, times, ev, hD, hn, hp, gL, nL, b0, b1, b2, q⟩ => ?_)
  subst ev
  have hr1 : Room 1 _ := hr.mono (by omega)
  have hr2 : Room 2 _ := hr.mono (by omega)
  have hr3 : Room 3 _ := hr.mono (by omega)
  have hr4' : Room 4 _ := hr.mono (by omega)
  refine ⟨_, (pss_cons (ps_set (i := 5) sc__law_rows.nd rfl (.inl rfl) (pe_lst pa_nil))
      (pss_cons (ps_for PassesOwn.never rfl (pi_range1 (by rfl) T.z_range (pa_cons (pe_cons (tw := twMany) (pe_call G1 hr1 (by rfl) D1.m D1.F.kp D1.b .nil pass0 (pa_cons (pv 0) (pa_cons (pe_ifExp (pt_cmpR op_eq (pv 3) pe_int (nomark _)) (pe_call G2 hr2 (by rfl) D2.m D2.F.kp D2.b .nil pass0 (pa_cons (pv 0) (pa_cons (pe_lst (pa_cons pe_int (pa_cons pe_int (pa_cons pe_int pa_nil)))) pa_nil))) pe_int) pa_nil))) (fun σ H Q ⟨D, L, n, dp, e0, e3, hD, hn, q⟩ => by
        refine ⟨_, e0, _, e3, rfl, _, rfl, ite2 (fun _ => ?_) (fun _ => ?_)⟩
        · refine ⟨_, e0, line1000 (Nat.le_of_ble_eq_true rfl), fun l nl => ?_⟩
          have hl : l ∉ [D, L] := by simpa using hD.neD nl
          have s7 := Same.up (o := HO.lst [V.int 3, V.int 6, V.int 31]) nl
          have hD7 := hD.kp (Kp.same (S := []) s7) (fun z => nomatch z) (fun z => nomatch z)
          refine ⟨D, L, _, .ref l, rfl, hD7, by omega, .inl ⟨l, _, rfl, .inl ⟨SqL.of upd_same, hl⟩, Nat.le_of_ble_eq_true rfl, Nat.le_of_ble_eq_true rfl, fun H8 y8 k8 hD8 hy8 => ?_⟩⟩
          obtain ⟨m, rfl, m0, m3⟩ : ∃ m : Int, y8 = .int m ∧ 3 ≤ m ∧ m ≤ 31 := by
            simp only [List.mem_cons, List.not_mem_nil, or_false] at hy8
            rcases hy8 with rfl | rfl | rfl
            · exact ⟨3, rfl, by decide, by decide⟩
            · exact ⟨6, rfl, by decide, by decide⟩
            · exact ⟨31, rfl, by decide, by decide⟩
          exact ⟨D, L, _, m, rfl, hD8, by omega, by omega, by omega, fun H9 r k9 hD9 r0 r1 => q H9 r ((Kp.same s7).trans (k8.trans k9)) hD9 r0 (by omega)⟩
        · exact ⟨D, L, n, 4, rfl, hD, by omega, by decide, by decide, fun H9 r k9 hD9 r0 r1 => q H9 r k9 (hD9.mono (by omega)) r0 (by omega)⟩)) pa_nil)) (pg_name (i := 6) sc__law_rows.nd rfl (.inl rfl))
      (pss_cons (ps_set (i := 7) sc__law_rows.nd rfl (.inl rfl) (pe_call G1 hr1 (by rfl) D1.m D1.F.kp D1.b .nil pass0 (pa_cons (pv 0) (pa_cons pe_int pa_nil))))
      (pss_one (ps_if (PW.pt (pw_and (pt_cmpR op_gt (pe_ix ix_list (pv 2) pe_int (fun _ _ => rfl)) pe_int (nomark _)) (pw_and1 (pt_cmpR op_ge (pe_ix ix_list (pv 2) pe_int (fun _ _ => rfl)) (pv 4) (nomark _)))))
      (pss_cons (ps_asg (pe_tup (pa_cons (pe_op op_subE (pe_ix ix_list (pv 2) pe_int (fun _ _ => rfl)) pe_int) (pa_cons (pe_op op_subE (pe_ix ix_list (pv 2) pe_int (fun _ _ => rfl)) (pv 4)) pa_nil))) (pg_tup rfl (pgs_cons (pg_sub (pv 2) pe_int set_list) (pgs_cons (pg_sub (pv 2) pe_int set_list) pgs_nil))))
      (pss_one (ps_if (pt_cmpR op_lt (pv 7) pe_int (nomark _))
      (pss_one (ps_expr (pe_bm PySem.F.plainAttrs_list PySem.F.slot_list_append PySem.F.type_list_append mt_append (pv 5) (pa_cons (pe_call G4 hr4' (by rfl) D4.m D4.F.kp D4.b .nil pass0 (pa_cons (pv 0) (pa_cons (pv 1) pa_nil))) pa_nil))))
      (pss_one (ps_if (pt_cmpR op_eq (pv 7) pe_int (nomark _))
      (pss_cons (ps_set (i := 8) sc__law_rows.nd rfl (.inl rfl) (pe_call G1 hr1 (by rfl) D1.m D1.F.kp D1.b .nil pass0 (pa_cons (pv 0) (pa_cons pe_int pa_nil))))
      (pss_one (ps_expr (pe_bm PySem.F.plainAttrs_list PySem.F.slot_list_append PySem.F.type_list_append mt_append (pv 5) (pa_cons (pe_tup (pa_cons pe_str (pa_cons (pv 8) (pa_cons (pe_call GI hr (by rfl) mI kI bI .nil pass0 (pa_cons (pv 0) (pa_cons (pv 1) (pa_cons (pv 2) (pa_cons (pv 3) (pa_cons (pe_op op_mul (pv 4) (pv 8)) pa_nil)))))) pa_nil)))) pa_nil)))))
      (pss_cons (ps_par (i := 9) (j := 10) (by rfl) sc__law_rows.nd rfl rfl (by decide) rfl rfl (pa_cons (pe_call G3 hr3 (by rfl) D3.m D3.F.kp D3.b .nil pass0 (pa_cons (pv 0) (pa_cons (pv 1) pa_nil))) (pa_cons (pe_call GI hr (by rfl) mI kI bI .nil pass0 (pa_cons (pv 0) (pa_cons (pv 1) (pa_cons (pv 2) (pa_cons (pv 3) (pa_cons (pv 4) pa_nil)))))) pa_nil)) (by rfl))
      (pss_one (ps_expr (pe_bm PySem.F.plainAttrs_list PySem.F.slot_list_append PySem.F.type_list_append mt_append (pv 5) (pa_cons (pe_tup (pa_cons pe_str (pa_cons (pv 9) (pa_cons (pv 10) (pa_cons (pe_call GI hr (by rfl) mI kI bI .nil pass0 (pa_cons (pv 0) (pa_cons (pv 1) (pa_cons (pv 2) (pa_cons (pv 3) (pa_cons (pv 4) pa_nil)))))) pa_nil))))) pa_nil))))))))))
      pss_nil))))
      (pss_one (ps_ret (pe_callTy call_tuple_of (by rfl) z_tuple (by decide +kernel) (pa_cons (pv 5) pa_nil)))))), ?_⟩
  have ec : cI (r + 1) = 633 + 60 * cI r := rfl
  rw [ec] at hn q
  obtain ⟨C, eC⟩ : ∃ C, C = 21 + 2 * cI r := ⟨_, rfl⟩
  refine ⟨Nat.zero_le _, fun R nR => ?_⟩
  have s1 := Same.up (o := HO.lst []) nR
  have gR1 : upd H R (HO.lst []) R = some (.lst []) := upd_same
  have nR' : R ∉ [D, L] := by simpa using hD.neD nR
  have nRL : Lf ≠ R := fun z => by rw [z, nR] at gL; cases gL
  have hD1 := hD.kp (Kp.same (S := []) s1) (fun z => nomatch z) (fun z => nomatch z)
  have gL1 := s1 _ _ gL
  generalize upd H R (HO.lst []) = H1 at s1 gR1 hD1 gL1 ⊢
  refine ⟨D, L, n, 4 - (r : Int), rfl, rfl, hD1, by omega, fun H2 m k2 hD2 m0 m1 => ⟨m, rfl, by omega, by omega, for_range (lo := 0) (n := m.toNat) (fun j σ H' => Ch [D, L, Lf, R] H1 H' ∧ Deck H' D L (n + 2 + j * C) ∧ ∃ (acc : List V) (blk : List Sta) (l0' l1' : Int) (x6 x7 x8 x9 x10 : Option V), H' R = some (.lst acc) ∧ TDs H' acc (blkData blk) ∧ H' Lf = some (.lst [.int l0', .int l1']) ∧ (∀ s ∈ blk, StaOk (r + 1) s) ∧ ((sizeB blk : Nat) : Int) + l0' ≤ l0 ∧ 0 ≤ l0' ∧ (0 ≤ l1' ∧ l1' ≤ 200) ∧ blk.length ≤ j ∧
      σ = [some (.ref D), some (.ref a), some (.ref Lf), some (.int (4 - (r : Int))), some (.int times), some (.ref R), x6, x7, x8, x9, x10])
    ⟨(deck_ch hD1 hD2 k2).mono (fun b hb => by simp at hb; rcases hb with rfl | rfl <;> simp), hD2.mono (by omega), [], [], l0, l1, none, none, none, none, none, k2 _ _ nR' gR1, .nil, k2 _ _ nL gL1, (fun _ z => nomatch z), (by show ((0 : Nat) : Int) + l0 ≤ l0; omega), b0.1, b1, Nat.zero_le _, rfl⟩ ?_ ?_⟩⟩
  · rintro j σ H' hj ⟨ch, hD', acc, blk, l0', l1', x6, x7, x8, x9, x10, gR, td, gL', hb, hs, c0, c1, lb, rfl⟩
    have hj30 : j < 30 := by omega
    have hC : (j + 1) * C ≤ 30 * C := Nat.mul_le_mul_right C hj30
    rw [Nat.succ_mul] at hC
    refine ⟨.ref D, rfl, D, L, _, 6, rfl, hD', by omega, by decide, by decide, fun Ha way ka hDa w0 w1 => ?_⟩
    have ca := deck_ch hD' hDa ka
    have gRa := ka _ _ nR' gR
    have gLa := ka _ _ nL gL'
    have tda := TDs.ch ca _ _ td
    have cha : Ch [D, L, Lf, R] H1 Ha := ch.trans (ca.mono (fun b hb => by simp at hb; rcases hb with rfl | rfl <;> simp))
    have la : acc.length ≤ 30 := by rw [td.len, blkData_eq, List.length_map]; omega
    have e1 : (j + 1) * C = j * C + C := Nat.succ_mul _ _
    have no : ∀ (H'' : Hp), H'' = Ha → Ch [D, L, Lf, R] H1 H'' ∧ Deck H'' D L (n + 2 + (j + 1) * C) ∧ ∃ (acc : List V) (blk : List Sta) (l0' l1' : Int) (y6 y7 y8 y9 y10 : Option V), H'' R = some (.lst acc) ∧ TDs H'' acc (blkData blk) ∧ H'' Lf = some (.lst [.int l0', .int l1']) ∧ (∀ s ∈ blk, StaOk (r + 1) s) ∧ ((sizeB blk : Nat) : Int) + l0' ≤ l0 ∧ 0 ≤ l0' ∧ (0 ≤ l1' ∧ l1' ≤ 200) ∧ blk.length ≤ j + 1 ∧
        [some (.ref D), some (.ref a), some (.ref Lf), some (.int (4 - (r : Int))), some (.int times), some (.ref R), some (.int (0 + (j : Int))), some (.int way), x8, x9, x10] = [some (.ref D), some (.ref a), some (.ref Lf), some (.int (4 - (r : Int))), some (.int times), some (.ref R), y6, y7, y8, y9, y10] := fun H'' e => by
      rw [e]
      exact ⟨cha, hDa.mono (by omega), acc, blk, l0', l1', _, _, _, _, _, gRa, tda, gLa, hb, hs, c0, c1, by omega, rfl⟩
    refine ⟨_, rfl, Lf, _, _, _, rfl, rfl, SqL.of gLa, atI_nat (j := 0) rfl, _, _, rfl, rfl, _, rfl, ite2 (fun h0 => ?_) (fun _ => iteF (no _ rfl))⟩
    have h0 : 0 < l0' := of_decide_eq_true h0
    refine ⟨_, rfl, Lf, _, _, _, rfl, rfl, SqL.of gLa, atI_nat (j := 1) rfl, _, rfl, _, _, rfl, rfl, _, rfl, ite2 (fun h1 => ?_) (fun _ => no _ rfl)⟩
    have h1 : times ≤ l1' := of_decide_eq_true h1
    refine ⟨_, rfl, Lf, _, _, _, rfl, rfl, SqL.of gLa, atI_nat (j := 0) rfl, _, _, rfl, rfl, fun z0 ez0 => ⟨_, rfl, Lf, _, _, _, rfl, rfl, SqL.of gLa, atI_nat (j := 1) rfl, _, rfl, _, _, rfl, rfl, fun z1 ez1 => ⟨line1000 (Nat.le_of_ble_eq_true rfl), fun tt ntt => ?_⟩⟩⟩
    have sT := Same.up (o := HO.tup [V.int z0, V.int z1]) ntt
    refine ⟨tt, _, rfl, SqT.of upd_same, rfl, _, _, rfl, _, rfl, Lf, _, _, _, rfl, rfl, sT _ _ gLa, rfl, _, _, rfl, _, rfl, Lf, _, _, _, rfl, rfl, upd_same, rfl, rfl, ?_⟩
    generalize hHb : upd (upd (upd Ha tt _) Lf _) Lf _ = Hb
    have gLb : Hb Lf = some (.lst [.int z0, .int z1]) := by rw [← hHb]; exact upd_same
    have cb : Ch [Lf] Ha Hb := by
      rw [← hHb]
      exact ((Ch.same sT).put (by simp) (sT _ _ gLa) (fun xs z => by cases z)).put (by simp) upd_same (fun xs z => by cases z)
    clear hHb
    have nR3 : R ∉ [D, L, Lf] := by simp at nR' ⊢; exact ⟨nR'.1, nR'.2, Ne.symm nRL⟩
    have gRb := cb.kp _ _ (by simpa using Ne.symm nRL) gRa
    have hDb := hDa.kp cb.kp (by simp at nL ⊢; exact Ne.symm nL.1) (by simp at nL ⊢; exact Ne.symm nL.2)
    have tdb := TDs.ch cb _ _ tda
    have chb : Ch [D, L, Lf, R] H1 Hb := cha.trans (cb.mono (fun b hb => by simp at hb; simp [hb]))
    have poolb : Pool Hb D L a g := by
      refine hp.kpL gL (Kp.fresh (p := R) ?_ nR)
      exact (Kp.same s1).trans (chb.kp.mono (fun b hb => by simp at hb ⊢; rcases hb with rfl | rfl | rfl | rfl <;> simp))
    have fin : ∀ (Hd : Hp) (v : V) (sta : Sta) (l0'' l1'' : Int), Ch [D, L, Lf] Hb Hd → Deck Hd D L (n + 2 + (j + 1) * C) → Hd Lf = some (.lst [.int l0'', .int l1'']) → TD Hd v sta.data → StaOk (r + 1) sta → ((sta.size : Nat) : Int) + l0'' ≤ l0' → 0 ≤ l0'' → (0 ≤ l1'' ∧ l1'' ≤ 200) → ∀ x8 x9 x10 : Option V,
        Ch [D, L, Lf, R] H1 (upd Hd R (.lst (acc ++ [v]))) ∧ Deck (upd Hd R (.lst (acc ++ [v]))) D L (n + 2 + (j + 1) * C) ∧ ∃ (acc' : List V) (blk : List Sta) (l0' l1' : Int) (y6 y7 y8 y9 y10 : Option V), upd Hd R (.lst (acc ++ [v])) R = some (.lst acc') ∧ TDs (upd Hd R (.lst (acc ++ [v]))) acc' (blkData blk) ∧ upd Hd R (.lst (acc ++ [v])) Lf = some (.lst [.int l0', .int l1']) ∧ (∀ s ∈ blk, StaOk (r + 1) s) ∧ ((sizeB blk : Nat) : Int) + l0' ≤ l0 ∧ 0 ≤ l0' ∧ (0 ≤ l1' ∧ l1' ≤ 200) ∧ blk.length ≤ j + 1 ∧
        [some (.ref D), some (.ref a), some (.ref Lf), some (.int (4 - (r : Int))), some (.int times), some (.ref R), some (.int (0 + (j : Int))), some (.int way), x8, x9, x10] = [some (.ref D), some (.ref a), some (.ref Lf), some (.int (4 - (r : Int))), some (.int times), some (.ref R), y6, y7, y8, y9, y10] := fun Hd v sta l0'' l1'' cd hDd gLd tdv ok hsz e0 e1 x8 x9 x10 => by
      have gRd := cd.kp _ _ nR3 gRb
      have c5 : Ch [R] Hd (upd Hd R (.lst (acc ++ [v]))) := (Ch.refl _ _).put (by simp) gRd (fun xs z => by cases z)
      refine ⟨chb.trans ((cd.mono (fun b hb => by simp at hb; rcases hb with rfl | rfl | rfl <;> simp)).trans (c5.mono (fun b hb => by simp at hb; simp [hb]))), hDd.kp c5.kp (by simp at nR' ⊢; exact Ne.symm nR'.1) (by simp at nR' ⊢; exact Ne.symm nR'.2), _, blk ++ [sta], l0'', l1'', _, _, _, _, _, upd_same, ?_, ?_, ?_, ?_, e0, e1, by rw [List.length_append]; exact Nat.succ_le_succ lb, rfl⟩
      · rw [blk_snoc]
        exact (TDs.ch c5 _ _ (TDs.ch cd _ _ tdb)).snoc (TD.ch c5 _ _ tdv)
      · rw [upd_ne nRL]
        exact gLd
      · intro s hs
        rcases List.mem_append.mp hs with hs | hs
        · exact hb s hs
        · rw [List.mem_singleton.mp hs]
          exact ok
      · rw [sizeB_snoc]
        push_cast
        omega
    clear no
    refine ⟨_, rfl, _, _, rfl, rfl, _, rfl, ite2 (fun hw => ?_) (fun hw => ?_)⟩
    · refine ⟨_, rfl, .inl ⟨rfl, _, SqL.of gRb⟩, .ref D, rfl, .ref a, rfl, D, L, a, _, g, rfl, hDb, by omega, poolb, fun Hc v b kc hDc tdv bn => ?_⟩
      have cc := deck_ch hDb hDc kc
      exact ⟨R, acc, _, rfl, rfl, kc _ _ nR' gRb, lt_line (by omega), fin Hc v (.act b) z0 z1 (cc.mono (fun b hb => by simp at hb; rcases hb with rfl | rfl <;> simp)) (hDc.mono (by omega)) (kc _ _ nL gLb) tdv (by cases b <;> exact bn) (by show ((1 : Nat) : Int) + z0 ≤ l0'; omega) (by omega) (by omega) _ _ _⟩
    refine ⟨_, rfl, rfl, _, rfl, ite2 (fun hw4 => ?_) (fun hw4 => ?_)⟩
    · refine ⟨.ref D, rfl, D, L, _, 13, rfl, hDb, by omega, by decide, by decide, fun Hc cnt kc hDc r0 r1 => ?_⟩
      have cc := deck_ch hDb hDc kc
      have gRc := kc _ _ nR' gRb
      have hmul : 0 ≤ times * cnt ∧ times * cnt ≤ 2400 := by
        have h2 : times * cnt ≤ 200 * 12 := Int.mul_le_mul (by omega) (by omega) r0 (by decide)
        exact ⟨Int.mul_nonneg b2.1 r0, by omega⟩
      refine ⟨_, rfl, .inl ⟨rfl, _, SqL.of gRc⟩, _, rfl, .ref D, rfl, .ref a, rfl, .ref Lf, rfl, _, rfl, _, rfl, _, rfl, _, _, rfl, rfl, .inl ⟨by omega, by omega⟩, D, L, a, Lf, _, g, z0, z1, times * cnt, rfl, hDc, by omega, poolb.kp kc, kc _ _ nL gLb, nL, ⟨by omega, by omega⟩, ⟨by omega, by omega⟩, hmul, fun Hd t blk' l0'' l1'' cd hDd gLd tdt hbk hsz e0 e1 => ⟨line1000 (Nat.le_of_ble_eq_true rfl), fun t3 n3 => ?_⟩⟩
      have s3 := Same.up (o := HO.tup [V.str "repeat", V.int cnt, V.ref t]) n3
      have cbd : Ch [D, L, Lf] Hb (upd Hd t3 (.tup [.str "repeat", .int cnt, .ref t])) := (cc.mono (fun b hb => by simp at hb; rcases hb with rfl | rfl <;> simp)).trans (cd.trans (Ch.same s3))
      have hDe := hDd.kp (Kp.same (S := []) s3) (fun z => nomatch z) (fun z => nomatch z)
      have tdv : TD (upd Hd t3 (.tup [.str "repeat", .int cnt, .ref t])) (.ref t3) (Sta.rep cnt.toNat blk').data := by
        refine .tup upd_same (.cons (.str _) (.cons ?_ (.cons (TD.ch (Ch.same (S := []) s3) _ _ tdt) .nil)))
        rw [show V.int cnt = V.int ((cnt.toNat : Nat) : Int) by rw [Int.toNat_of_nonneg r0]]
        exact .int _
      exact ⟨R, acc, _, rfl, rfl, cbd.kp _ _ nR3 gRb, lt_line (by omega), fin _ _ (.rep cnt.toNat blk') l0'' l1'' cbd (hDe.mono (by omega)) (s3 _ _ gLd) tdv ⟨by omega, hbk⟩ (by show ((1 + sizeB blk' : Nat) : Int) + l0'' ≤ l0'; push_cast; omega) e0 e1 _ _ _⟩
    · refine ⟨.ref D, rfl, .ref a, rfl, D, L, a, _, g, rfl, hDb, by omega, poolb, fun Hc v t kc hDc tdv tok => ?_⟩
      have cc := deck_ch hDb hDc kc
      refine ⟨.ref D, rfl, .ref a, rfl, .ref Lf, rfl, _, rfl, _, rfl, D, L, a, Lf, _, g, z0, z1, times, rfl, hDc, by omega, poolb.kp kc, kc _ _ nL gLb, nL, ⟨by omega, by omega⟩, ⟨by omega, by omega⟩, b2, fun Hd ty by1 y0 y1 cd hDd gLd tdy hby hszy f0 f1 => ?_⟩
      have cbd : Ch [D, L, Lf] Hb Hd := (cc.mono (fun b hb => by simp at hb; rcases hb with rfl | rfl <;> simp)).trans cd
      have gRd := cbd.kp _ _ nR3 gRb
      have poold : Pool Hd D L a g := poolb.kpL gLb cbd.kp
      refine ⟨_, _, rfl, _, rfl, .inl ⟨rfl, _, SqL.of gRd⟩, _, rfl, _, rfl, .ref D, rfl, .ref a, rfl, .ref Lf, rfl, _, rfl, _, rfl, D, L, a, Lf, _, g, y0, y1, times, rfl, hDd, by omega, poold, gLd, nL, ⟨by omega, by omega⟩, f1, b2, fun He tn bn x0 x1 ce hDe gLe tdn hbn hszn h0' h1' => ⟨line1000 (Nat.le_of_ble_eq_true rfl), fun t3 n3 => ?_⟩⟩
      have s3 := Same.up (o := HO.tup [V.str "if", v, V.ref ty, V.ref tn]) n3
      have cbe : Ch [D, L, Lf] Hb (upd He t3 (.tup [.str "if", v, .ref ty, .ref tn])) := cbd.trans (ce.trans (Ch.same s3))
      have hDf := hDe.kp (Kp.same (S := []) s3) (fun z => nomatch z) (fun z => nomatch z)
      have cde : Ch [D, L, Lf] Hd (upd He t3 (.tup [.str "if", v, .ref ty, .ref tn])) := ce.trans (Ch.same s3)
      have tdv' : TD (upd He t3 (.tup [.str "if", v, .ref ty, .ref tn])) (.ref t3) (Sta.cond t by1 bn).data :=
        .tup upd_same (.cons (.str _) (.cons (TD.ch cde _ _ (TD.ch cd _ _ tdv)) (.cons (TD.ch cde _ _ tdy) (.cons (TD.ch (Ch.same (S := []) s3) _ _ tdn) .nil))))
      exact ⟨R, acc, _, rfl, rfl, cbe.kp _ _ nR3 gRb, lt_line (by omega), fin _ _ (.cond t by1 bn) x0 x1 cbe (hDf.mono (by omega)) (s3 _ _ gLe) tdv' ⟨tok, hby, hbn⟩ (by show ((1 + (sizeB by1 + sizeB bn) : Nat) : Int) + x0 ≤ l0'; push_cast; omega) h0' h1' _ _ _⟩
  · rintro σ H' ⟨ch, hD', acc, blk, l0', l1', x6, x7, x8, x9, x10, gR, td, gL', hb, hs, c0, c1, lb, rfl⟩
    have hm30 : m.toNat * C ≤ 30 * C := Nat.mul_le_mul_right C (by omega)
    refine ⟨_, rfl, R, _, rfl, .inl ⟨SqL.of gR, fun t nt => ?_⟩⟩
    have sE := Same.up (o := HO.tup acc) nt
    have cE : Ch [D, L, Lf] H (upd H' t (.tup acc)) := by
      have c : Ch [D, L, Lf, R] H (upd H' t (.tup acc)) := (Ch.same s1).trans (ch.trans (Ch.same sE))
      exact c.lessS fun b hb => by
        simp at hb
        rcases hb with rfl | rfl | rfl | rfl
        · exact .inl (by simp)
        · exact .inl (by simp)
        · exact .inl (by simp)
        · exact .inr nR
    exact q _ t blk l0' l1' cE ((hD'.kp (Kp.same (S := []) sE) (fun z => nomatch z) (fun z => nomatch z)).mono (by omega)) (sE _ _ gL') (.tup upd_same (TDs.ch (Ch.same (S := []) sE) _ _ td)) hb hs c0 c1
end
end G

set_option Elab.async false
set_option linter.all false
set_option maxRecDepth 100000
set_option maxHeartbeats 4000000
/-! _law_free. -/
namespace G
open PySem PySem.Spec PyProof.Rows L2
section
variable {P : Program} {w : World} {K : PySem.W.Frag} {mg : Str → Option Value} {base : Heap}
/-- the rows at depth 0, from the other defs -/
theorem rows_all {f1 f2 f3 f4 fR fI : Addr} {fd1 fd2 fd3 fd4 dR dI : FuncData} (T : Bi mg) (z_tuple : mg "tuple" = none)
    (D1 : Df K mg "_law_draw" s__law_draw ["_law_deck_here", "_law_many"] f1 fd1) (G1 : FnOk P w K mg base CX0 1 f1 fd1 ["_law_deck_here", "_law_many"] spDraw)
    (D2 : Df K mg "_law_one" s__law_one ["_law_deck_here", "_law_items"] f2 fd2) (G2 : FnOk P w K mg base CX0 2 f2 fd2 ["_law_deck_here", "_law_items"] (spOne K))
    (D3 : Df K mg "_law_any_test" s__law_any_test ["_law_deck_here", "_law_pool_here"] f3 fd3) (G3 : FnOk P w K mg base CX0 3 f3 fd3 ["_law_deck_here", "_law_pool_here"] spTest)
    (D4 : Df K mg "_law_row" s__law_row ["_law_deck_here", "_law_pool_here"] f4 fd4) (G4 : FnOk P w K mg base CX0 4 f4 fd4 ["_law_deck_here", "_law_pool_here"] spRow)
    (DR : Df K mg "_law_rows" s__law_rows p__law_rows fR dR) (DI : Df K mg "_law_inner" s__law_inner p__law_rows fI dI) : FnOk P w K mg base CX0 14 fR dR p__law_rows (spBl 0 (cI 5) 5) := by
  have I0 := ok_inner0 (P := P) (w := w) (mg := mg) (base := base) DI.F
  have R0 := ok_rows (r := 0) (by decide) DR.F T z_tuple D1 G1 D2 G2 D3 G3 D4 G4 DI.m DI.F.kp DI.b (by decide) I0
  have I1 := ok_innerS (r := 0) (by decide) DI.F DR.m DR.F.kp DR.b R0
  have R1 := ok_rows (r := 1) (by decide) DR.F T z_tuple D1 G1 D2 G2 D3 G3 D4 G4 DI.m DI.F.kp DI.b (by decide) I1
  have I2 := ok_innerS (r := 1) (by decide) DI.F DR.m DR.F.kp DR.b R1
  have R2 := ok_rows (r := 2) (by decide) DR.F T z_tuple D1 G1 D2 G2 D3 G3 D4 G4 DI.m DI.F.kp DI.b (by decide) I2
  have I3 := ok_innerS (r := 2) (by decide) DI.F DR.m DR.F.kp DR.b R2
  have R3 := ok_rows (r := 3) (by decide) DR.F T z_tuple D1 G1 D2 G2 D3 G3 D4 G4 DI.m DI.F.kp DI.b (by decide) I3
  have I4 := ok_innerS (r := 3) (by decide) DI.F DR.m DR.F.kp DR.b R3
  exact ok_rows (r := 4) (by decide) DR.F T z_tuple D1 G1 D2 G2 D3 G3 D4 G4 DI.m DI.F.kp DI.b (by decide) I4
abbrev s__law_free : Stmt := top 28
abbrev n__law_free : List Str := ["_law_deck_here", "_law_most", "_law_pool_here"]
theorem sc__law_free : FnScope n__law_free ["_law_deck_here", "_law_most"] (defScope s__law_free) := ⟨rfl, rfl, rfl, by decide +kernel, rfl, by decide +kernel, by decide +kernel⟩
/-- a program and its pool -/
def spFree : Sp := fun vs H Q _ => ∃ (D L : Addr) (n : Nat) (most : Int), vs = [.ref D, .int most] ∧ Deck H D L n ∧ n < 8 * 10 ^ 10 ∧ (0 ≤ most ∧ most ≤ 31) ∧
  ∀ (H' : Hp) (t p a : Addr) (g : Int) (blk : List Sta), Kp [D, L] H H' → Deck H' D L (n + 9 * 10 ^ 9) → H' t = some (.tup [.ref p, .ref a]) → TD H' (.ref p) (.tuple [.int g, .tuple (blkData blk)]) → (0 ≤ g ∧ g < 4) → (∀ s ∈ blk, StaOk 5 s) → ((sizeB blk : Nat) : Int) ≤ most → Pool H' D L a g → Q (.ref t) H'
theorem ok_free {f fP fR : Addr} {fd dP dR : FuncData} (F : Fun K "_law_free" "_law_free" s__law_free f fd)
    (DP : Df K mg "_law_pool" s__law_pool ["_law_deck_here"] fP dP) (GP : FnOk P w K mg base CX0 4 fP dP ["_law_deck_here"] spPool)
    (DR : Df K mg "_law_rows" s__law_rows p__law_rows fR dR) (GR : FnOk P w K mg base CX0 14 fR dR p__law_rows (spBl 0 (cI 5) 5)) : FnOk P w K mg base CX0 15 f fd ["_law_deck_here", "_law_most"] spFree := by
  refine F.ok sc__law_free (fun vs H Q E ⟨D, L, n, most, ev, _⟩ => by rw [ev]; rfl) (fun cdv A outer s H vs Q E hr ⟨D, L, n, most, ev, hD, hn, hm, q⟩ => ?_)
  subst ev
  have hr4 : Room 4 _ := hr.mono (by decide)
  refine ⟨_, (pss_cons (ps_set (i := 2) sc__law_free.nd rfl (.inl rfl) (pe_call GP hr4 (by rfl) DP.m DP.F.kp DP.b .nil pass0 (pa_cons (pv 0) pa_nil)))
      (pss_one (ps_ret (pe_tup (pa_cons (pe_tup (pa_cons (pe_ix ix_list (pv 2) pe_int (fun _ _ => rfl)) (pa_cons (pe_call GR hr (by rfl) DR.m DR.F.kp DR.b .nil pass0 (pa_cons (pv 0) (pa_cons (pv 2) (pa_cons (pe_lst (pa_cons (pv 1) (pa_cons pe_int pa_nil))) (pa_cons pe_int (pa_cons pe_int pa_nil)))))) pa_nil))) (pa_cons (pv 2) pa_nil)))))), ?_⟩
  have e5 : cI 5 = 8342725413 := by decide
  refine ⟨.ref D, rfl, D, L, n, rfl, hD, by omega, fun H1 a g k1 hD1 hp => ?_⟩
  obtain ⟨N, Wd, ns, ws, ga, gN, gW, hN, hW, lN, lW, hg, na, neN, neW⟩ := id hp
  refine ⟨_, rfl, a, _, _, _, rfl, rfl, SqL.of ga, atI_nat (j := 2) rfl, ?_⟩
  refine ⟨.ref D, rfl, .ref a, rfl, _, rfl, line1000 (Nat.le_of_ble_eq_true rfl), fun l nl => ?_⟩
  have s2 := Same.up (o := HO.lst [V.int most, V.int 200]) nl
  have gl : upd H1 l (HO.lst [V.int most, V.int 200]) l = some (.lst [V.int most, V.int 200]) := upd_same
  have nl' : l ∉ [D, L] := by simpa using hD1.neD nl
  have hD2 := hD1.kp (Kp.same (S := []) s2) (fun z => nomatch z) (fun z => nomatch z)
  have hp2 := hp.kp (Kp.same s2)
  generalize upd H1 l (HO.lst [V.int most, V.int 200]) = H2 at s2 gl hD2 hp2 ⊢
  refine ⟨D, L, a, l, _, g, most, 200, 1, rfl, hD2, by rw [e5]; omega, hp2, gl, nl', hm, ⟨by decide, by decide⟩, ⟨by decide, by decide⟩, fun H3 t blk l0' l1' c3 hD3 gl3 tdt hok hsz h0 h1 => ⟨line1000 (Nat.le_of_ble_eq_true rfl), fun p np => ⟨_, rfl, line1000 (Nat.le_of_ble_eq_true rfl), fun tt ntt => ?_⟩⟩⟩
  have sP := Same.up (o := HO.tup [V.int g, V.ref t]) np
  have sT := Same.up (o := HO.tup [V.ref p, V.ref a]) ntt
  have sPT := Same.trans sP sT
  have hp3 : Pool H3 D L a g := hp2.kpL gl c3.kp
  have nlH : H l = none := k1.none_of nl nl'
  have k13 : Kp [D, L] H H3 := Kp.fresh (p := l) ((k1.mono (T := [l, D, L]) (fun b hb => List.mem_cons_of_mem _ hb)).trans ((Kp.same s2).trans (c3.kp.mono (fun b hb => by simp at hb ⊢; rcases hb with rfl | rfl | rfl <;> simp)))) nlH
  refine q _ tt p a g blk (k13.trans (Kp.same sPT)) ((hD3.kp (Kp.same (S := []) sPT) (fun z => nomatch z) (fun z => nomatch z)).mono (by rw [e5]; omega)) upd_same (.tup (sT _ _ upd_same) (.cons (.int g) (.cons (TD.ch (Ch.same (S := []) sPT) _ _ tdt) .nil))) hg hok (by omega) (hp3.kp (Kp.same sPT))
end
end G

set_option Elab.async false
set_option linter.all false
set_option maxRecDepth 100000
set_option maxHeartbeats 4000000
/-! A generator def whose body is one loop that yields once a turn; its consumer may do more than fill a list. -/
namespace G
open PySem PySem.Spec PyProof.Rows L2 GenW
/-- while the generator sleeps: of what stood before, the consumer's own objects alone may change -/
structure Rested (Cs : List Addr) (s s' : Shared) : Prop where
  os : s'.os = s.os
  bare : AllBare s'.gens
  keep : ∀ b o, b ∉ Cs → s.heap.get? b = some o → s'.heap.get? b = some o
  own : ∀ b ∈ Cs, ∃ o, s'.heap.get? b = some o ∧ ∀ v, o.data ≠ .cell v
structure Aloof (X : Cx) (Cs : List Addr) : Prop where
  young : ∀ b ∈ Cs, X.s_0.heap.objs.size ≤ b
  loc : ∀ b ∈ Cs, b ≠ X.env.locals
  cel : ∀ b ∈ Cs, ∀ x c, X.env.cells.lookup x = some c → c ≠ b
  pn : ∀ p ∈ X.pn, p.1 ∉ Cs
theorem wake {X : Cx} {Cs : List Addr} {ip : List (Addr × Obj)} {σ : L2.St} {H : Hp} {s₀ s s' : Shared} (L : Aloof X Cs) (hip : ∀ p ∈ ip, p.1 ∉ Cs) (I : Inv X (ip ++ pinsAt Cs s₀.heap) σ H s) (hs : ∀ b ∈ Cs, ∃ o, s₀.heap.get? b = some o) (R : Rested Cs s s') : Inv X (ip ++ pinsAt Cs s'.heap) σ H s' := by
  have pinned : ∀ b ∈ Cs, H b = none ∧ b ∉ X.fs := fun b hb => by
    obtain ⟨o, e⟩ := hs b hb
    have z := I.pin (b, o) (List.mem_append_right _ (List.mem_append_right _ (mem_pinsAt hb e)))
    exact ⟨z.2.1, z.2.2.2.1⟩
  have I0 : Inv X ip σ H s := I.unpinned
  have apart : ∀ b ∈ Cs, ∀ p ∈ X.pn ++ ip, p.1 ≠ b := fun b hb p hp z => by
    rcases List.mem_append.mp hp with q | q
    · exact L.pn p q (z ▸ hb)
    · exact hip p q (z ▸ hb)
  have off : ∀ {b : Addr} {u : HO}, H b = some u → b ∉ Cs := fun e hb => by
    rw [(pinned _ hb).1] at e
    cases e
  obtain ⟨w1, w2, w3, w4⟩ := R
  obtain ⟨hh, g, d, t, o⟩ := s'
  have eo : o = s.os := w1
  subst eo
  have J : Inv X ip σ H { s with heap := hh, gens := g, drawn := d, toks := t } := I0.step (ch := Cs)
    (fun b hb => ⟨.inr (L.young b hb), L.loc b hb, L.cel b hb, apart b hb⟩)
    (fun b ob _ _ hc e _ => w3 b ob hc e) (fun b ob _ _ hc e _ => ⟨ob.slots, w3 b ob hc e⟩) (fun _ _ _ _ n => n) (fun b ob hc e => ⟨ob, w3 b ob hc e⟩)
    (fun _ _ e => e) (fun _ _ _ e => e) (fun b ps e => ⟨#[], by rw [e]; simp⟩)
    (fun m ⟨ob, es, ep, e, r⟩ => ⟨ob, es, ep, w3 _ ob (fun hb => L.loc _ hb rfl) e, r⟩)
    (fun b u e => (I0.hok b u e).stay (fun c v hc q => w3 c v (by
      rcases hc with z | z
      · rw [z]; exact off e
      · exact off z) q) (fun _ z => z) fun _ _ z => z) w2
  exact J.pinned (fun b hb => ⟨(pinned b hb).1, L.loc b hb, (pinned b hb).2, .inr (L.young b hb), L.cel b hb, apart b hb⟩) w4
/-! ### a for statement in a generator's code -/
section
variable {prog : Program} {w : World} {A : Around} {R : GenEnd} {Y : Protocol} {n : Nat} {s₀ : Shared} {fs : List Frame} {s : Shared} {env : Env}
theorem nofail {α : Type} {t : Sem α} {Q : α → Shared → Prop} {M : Model} {B : Around} {E : Value → Shared → Prop} {s : Shared} (h : wpAny M B t Q (fun _ _ => False) s) : wpAny M B t Q E s := wpAny_mono h (fun _ _ z => z) fun _ _ z => z.elim
theorem seg_turn {tg : Expr} {it : Value} {body : List Stmt} {Kx : Flow → Sem PySem.Fin} (hK : ∀ f, Kx f = (match f with
      | .next | .cont => .pure (.again (.forLoop tg it body [] env))
      | .brk => .pure (.done .next)
      | .ret v => .pure (.done (.ret v))))
    (h : wpAny (model prog w) (A.over (.forLoop tg it body [] env) fs) (pyNext it) (fun r s1 => match r with
      | none => Seg (model prog w) A R Y n s₀ (.block [] env) ((model prog w).den (.block [] env)) fs s1
      | some v => wpAny (model prog w) (A.over (.forLoop tg it body [] env) fs) (letOwnedTupleGo tg it v) (fun _ s2 => wpAny (model prog w) (A.over (.forLoop tg it body [] env) fs) (assign tg env v) (fun _ s3 =>
          ∀ (Hx : Value → Sem PySem.Fin), Seg (model prog w) A R Y n s₀ (.forLoop tg it body [] env) ((execs body env).wrap Kx Hx id id) fs s3) (fun _ _ => False) s2) (fun _ _ => False) s1) (fun _ _ => False) s) :
    Seg (model prog w) A R Y n s₀ (.forLoop tg it body [] env) ((model prog w).den (.forLoop tg it body [] env)) fs s := by
  show Seg _ A R Y n s₀ _ ((forTurn tg it body [] env).onRaise (fun x => do noteFrame x env; theTreesLotGoes x)) fs s
  unfold forTurn
  rw [Sem.onRaise_eq_wrap, Sem.bind_eq_wrap', Sem.wrap_wrap]
  refine seg_wrap (wpAny_standAt ?_)
  rw [Sem.bind_eq_wrap', Sem.wrap_wrap]
  refine seg_wrap (nofail (wpAny_onRaise (wpAny_mono h (fun r s1 h1 => ?_) fun _ _ z => z.elim)))
  cases r with
  | none => exact seg_again rfl h1
  | some v =>
    show Seg _ A R Y n s₀ _ (Sem.wrap _ _ _ _ (letOwnedTupleGo tg it v >>= _)) fs s1
    rw [Sem.bind_eq_wrap', Sem.wrap_wrap]
    refine seg_wrap (nofail (wpAny_mono h1 (fun _ s2 h2 => ?_) fun _ _ z => z))
    rw [Sem.bind_eq_wrap', Sem.wrap_wrap]
    refine seg_wrap (nofail (wpAny_mono h2 (fun _ s3 h3 => ?_) fun _ _ z => z))
    rw [Sem.bind_eq_wrap', Sem.wrap_wrap]
    rw [Sem.wrap_congr (execs body env) _ _ (K' := Kx) (fun f => (by rw [hK f]; cases f <;> rfl)) (fun _ => rfl)]
    exact h3 _
theorem seg_forStmt {M : Model} {c : Code} {K : Flow → Sem PySem.Fin} {Jx : Value → Sem PySem.Fin} {gd : Bool → Bool} {lv : List Value → List Value} {tg iter : Expr} {body : List Stmt} {pos : Pos} (hf : ∀ x, foldedSetIterable iter env x = pure x)
    (h : wpAny M (A.over c fs) (eval iter env) (fun x s1 => wpAny M (A.over c fs) (pyIter x) (fun itv s2 => ∀ p Fx, Seg M A R Y n s₀ (.forLoop tg itv body [] env) (M.den (.forLoop tg itv body [] env))
        (.ret (fun r => ((match r with | .ok f => (.pure f : Sem Flow) | .error e => .raise e).onRaise Fx).wrap K Jx gd lv) none (gd false) (lv []) c p [] :: fs) s2) (fun _ _ => False) s1) (fun _ _ => False) s) :
    Seg M A R Y n s₀ c ((exec (.For tg iter body [] pos) env).wrap K Jx gd lv) fs s := by
  rw [exec_For]
  rw [Sem.bind_eq_wrap', Sem.wrap_wrap]
  refine seg_wrap (wpAny_standAt ?_)
  rw [Sem.bind_eq_wrap', Sem.wrap_wrap]
  refine seg_wrap (nofail (wpAny_mono h (fun x s1 h1 => ?_) fun _ _ z => z))
  rw [hf x]
  rw [Sem.bind_eq_wrap', Sem.wrap_wrap]
  refine seg_wrap (wpAny_pure ?_)
  rw [Sem.bind_eq_wrap', Sem.wrap_wrap]
  refine seg_wrap (wpAny_standAt ?_)
  rw [Sem.bind_eq_wrap', Sem.wrap_wrap]
  refine seg_wrap (nofail (wpAny_holding (wpAny_mono h1 (fun itv s2 h2 => ?_) fun _ _ z => z)))
  exact seg_call fun p => h2 p _
end
end G

set_option Elab.async false
set_option linter.all false
set_option maxRecDepth 100000
set_option maxHeartbeats 4000000
/-! The run of such a generator. -/
namespace G
open PySem PySem.Spec PyProof.Rows L2 GenW
def YG (X : Cx) (Cs : List Addr) (top n : Nat) (R : Nat → V → Hp → Prop) : Protocol := fun m s₀ v s kap => ∃ (i : Nat) (y : V) (σ : L2.St) (H : Hp) (ip : List (Addr × Obj)), m + 1 + i = top ∧ i < n ∧ RelV y v ∧ (∀ p ∈ ip, p.1 ∉ Cs) ∧
  (∀ b ∈ Cs, ∃ o, s₀.heap.get? b = some o) ∧ Inv X (ip ++ pinsAt Cs s₀.heap) σ H s ∧ R i y H ∧ ∀ s', Rested Cs s s' → kap (.send .none) s'
def GD (X : Cx) (Cs : List Addr) (top n : Nat) (Ed : Hp → Prop) : GenEnd := fun m s₀ r s => r = .ok (.ret .none) ∧ ∃ (σ : L2.St) (H : Hp) (ip : List (Addr × Obj)), m + n = top ∧ (∀ b ∈ Cs, ∃ o, s₀.heap.get? b = some o) ∧ Inv X (ip ++ pinsAt Cs s₀.heap) σ H s ∧ Ed H
section
variable {X : Cx} {Cs : List Addr} {A : Around} {top n : Nat} {R : Nat → V → Hp → Prop} {Ed : Hp → Prop}
theorem gen_loop {tg e : Expr} {yp ypos : Pos} {g : TG} {te : TE} {J : It} {it : Addr} {fp : List Addr} {tn : Nat → Heap → Prop} {ip : List (Addr × Obj)} {p0 : Pos} {Fx : Value → Sem Unit} {Ws : Nat → L2.St → Hp → Prop} {K0 : Flow → Sem PySem.Fin} {Jx : Value → Sem PySem.Fin} {bd : List Stmt}
    (hK0 : K0 .next = .pure (.done (.ret .none)))
    (hxe : ∀ e s, ¬ X.xe e s) (hc : X.calm = true) (T : Turn X.prog X.w X.K tg J fp it tn) (hg : PG X tg g) (he : PE X e te) (L : Aloof X Cs) (hip : ∀ p ∈ ip, p.1 ∉ Cs)
    (hA : A.deeper X.env = X.A) (hco : X.env.scope.isCoroutine = false) (hin : interactive X.env = false)
    (hfp : ∀ b ∈ fp, b ≠ X.env.locals ∧ b ∉ X.fs ∧ (b ∈ X.ex ∨ X.s_0.heap.objs.size ≤ b) ∧ (∀ x c, X.env.cells.lookup x = some c → c ≠ b) ∧ (∀ p ∈ X.pn ++ ip, p.1 ≠ b) ∧ b ∉ Cs) (hnt : n ≤ top)
    (step : ∀ i σ H, Ws i σ H → (i = n ∧ J.stop i H ∧ Ed H) ∨ (i < n ∧ J.go i H ∧ ∀ x H', J.yld i H x H' → g x σ H' fun σ2 H2 => te σ2 H2 fun y H3 => R i y H3 ∧ Ws (i + 1) σ2 H3)) :
    ∀ (k i m : Nat) (s₀ s : Shared) (σ : L2.St) (H : Hp), k + i = n → m + i = top → Ws i σ H → Inv X (ip ++ pinsAt Cs s₀.heap) σ H s → tn i s.heap → (∀ b ∈ fp, H b = none) → (∀ b ∈ Cs, ∃ o, s₀.heap.get? b = some o) →
      Seg (model X.prog X.w) A (GD X Cs top n Ed) (YG X Cs top n R) m s₀ (.forLoop tg (.ref it) [.Expr (.Yield (some e) yp) ypos] [] X.env) ((model X.prog X.w).den (.forLoop tg (.ref it) [.Expr (.Yield (some e) yp) ypos] [] X.env))
        [.ret (fun r => ((match r with | .ok f => (.pure f : Sem Flow) | .error e => .raise e).onRaise Fx).wrap K0 Jx id id) none (id false) (id []) (.func bd X.env) p0 []] s := by
  intro k
  have ov : ∀ {kk : Result → Sem PySem.Fin} {c' : Code}, c'.weight = 0 → c'.cUnits = 0 → A.over c' [.ret kk none (id false) (id []) (.func bd X.env) p0 []] = X.A := fun hw hu => (over_loop hw hu).trans (over_func.trans hA)
  have stat : ∀ {s₀ : Shared} {H : Hp}, (∀ b ∈ fp, H b = none) → ∀ b ∈ fp, FpOk X (ip ++ pinsAt Cs s₀.heap) H b := fun {s₀ H} hn b hb => by
    obtain ⟨f1, f2, f3, f4, f5, f6⟩ := hfp b hb
    refine ⟨hn b hb, f1, f2, f3, f4, fun p hp => ?_⟩
    rcases List.mem_append.mp hp with q | q
    · exact f5 p (List.mem_append_left _ q)
    · rcases List.mem_append.mp q with q | q
      · exact f5 p (List.mem_append_right _ q)
      · exact fun z => f6 (z ▸ (of_pinsAt q).1)
  induction k with
  | zero =>
    intro i m s₀ s σ H hi hm hW I st fr hex
    rcases step i σ H hW with ⟨ei, stop, ed⟩ | ⟨lt, _⟩
    · refine seg_turn (Kx := _) (fun f => rfl) ?_
      rw [ov rfl rfl]
      refine nofail (wpAny_mono (T.done X rfl rfl rfl hc i _ s σ H (fun _ _ => False) I (stat fr) st stop) (fun r s1 ⟨hr, I1⟩ => ?_) fun _ _ z => z)
      subst hr
      refine seg_leaf (.ok .next) ?_
      show Seg _ _ _ _ _ _ _ (K0 .next) _ _
      rw [hK0]
      exact seg_end (.ok (.ret .none)) ⟨rfl, σ, H, ip, by omega, hex, I1, ed⟩
    · omega
  | succ k ih =>
    intro i m s₀ s σ H hi hm hW I st fr hex
    rcases step i σ H hW with ⟨ei, _⟩ | ⟨lt, go, nxt⟩
    · omega
    obtain ⟨m, rfl⟩ : ∃ m', m = m' + 1 := ⟨m - 1, by omega⟩
    refine seg_turn (Kx := _) (fun f => rfl) ?_
    rw [ov rfl rfl]
    refine nofail (wpAny_mono (T.item X rfl rfl rfl hc i _ s σ H (fun _ _ => False) I (stat fr) st go) (fun r s1 ⟨u, hr, h1⟩ => ?_) fun _ _ z => z)
    subst hr
    refine nofail (wpAny_mono h1 (fun _ s2 ⟨x, H2, I2, r2, y2, st2, fr2⟩ => ?_) fun _ _ z => z)
    have I2' := I2.pinned (stat fr2) (T.obj _ _ st2)
    refine wpAny_mono (hg.run _ s2 σ H2 x u _ I2' r2 (nxt x H2 y2)) (fun _ s3 ⟨σ3, H3, I3, q3⟩ => ?_) fun e s z => hxe e s z
    intro Hx
    refine seg_execs_cons ?_
    refine seg_Expr_Yield rfl rfl rfl ?_ hco hin
    rw [ov rfl rfl]
    refine wpAny_mono (he.run _ s3 σ3 H3 _ I3 q3) (fun v s4 ⟨y, H4, I4, r4, q4, w4⟩ => ?_) fun e s z => (hxe e s z).elim
    intro kap hk
    have I4' : Inv X ((ip ++ pinsAt fp s2.heap) ++ pinsAt Cs s₀.heap) σ3 H4 s4 := I4.pins_of fun p hp => I4.pin p (List.mem_append_right _ (by
      rcases List.mem_append.mp hp with q | q
      · rcases List.mem_append.mp q with q | q
        · exact List.mem_append_left _ (List.mem_append_left _ q)
        · exact List.mem_append_right _ q
      · exact List.mem_append_left _ (List.mem_append_right _ q)))
    have hip' : ∀ p ∈ ip ++ pinsAt fp s2.heap, p.1 ∉ Cs := fun p hp => by
      rcases List.mem_append.mp hp with q | q
      · exact hip p q
      · exact (hfp _ (of_pinsAt q).1).2.2.2.2.2
    refine ⟨i, y, σ3, H4, _, hm, lt, r4, hip', hex, I4', q4, fun s5 rs => hk .none s5 ?_⟩
    have I5 := wake L hip' I4' hex rs
    have pin5 : ∀ b ∈ fp, ∀ o, s2.heap.get? b = some o → s5.heap.get? b = some o ∧ H4 b = none := fun b hb o eo =>
      let z := I5.pin (b, o) (List.mem_append_right _ (List.mem_append_left _ (List.mem_append_right _ (mem_pinsAt hb eo))))
      ⟨z.1, z.2.1⟩
    refine seg_again rfl (ih (i + 1) m s5 s5 σ3 H4 (by omega) (by omega) w4 (I5.pins_of fun p hp => I5.pin p (List.mem_append_right _ ?_)) (T.keep _ _ _ st2 fun b hb o eo => (pin5 b hb o eo).1) (fun b hb => ?_) fun b hb => ?_)
    · rcases List.mem_append.mp hp with q | q
      · exact List.mem_append_left _ (List.mem_append_left _ q)
      · exact List.mem_append_right _ q
    · obtain ⟨o, eo, _⟩ := T.obj _ _ st2 b hb
      exact (pin5 b hb o eo).2
    · obtain ⟨o, eo, _⟩ := rs.own b hb
      exact ⟨o, eo⟩
end
end G

set_option Elab.async false
set_option linter.all false
set_option maxRecDepth 100000
set_option maxHeartbeats 4000000
/-! Such a generator def's promise. -/
namespace G
open PySem PySem.Spec PyProof.Rows L2 GenW
/-- the context of its body; no exception leaves; pn: the generator's own object -/
def gx (P : Program) (w : World) (K : PySem.W.Frag) (mg : Str → Option Value) (base : Heap) (N : List Str) (qual : Str) (scope : Scope) (f : Addr) (cd : Value) (A : Around) (outer : List Env) (s : Shared) (H : Hp) (pn : List (Addr × Obj)) : Cx :=
  { gcxOf P w K mg base N qual scope f cd A outer s H E0 pn with xe := fun _ _ => False }
theorem gx_inv {P : Program} {w : World} {K : PySem.W.Frag} {mg : Str → Option Value} {base : Heap} {N : List Str} {qual : Str} {scope : Scope} {f : Addr} {cd : Value} {A : Around} {outer : List Env} {s s1 : Shared} {H H' : Hp} {E : XK} {pn pins : List (Addr × Obj)} {σ : L2.St}
    (I : Inv (gcxOf P w K mg base N qual scope f cd A outer s H E []) [] σ H' s1) (h : ∀ p ∈ pn ++ pins, s1.heap.get? p.1 = some p.2 ∧ H' p.1 = none ∧ p.1 ≠ s.heap.objs.size ∧ p.1 ∉ frs outer ∧ ∀ v, p.2.data ≠ .cell v) : Inv (gx P w K mg base N qual scope f cd A outer s H pn) pins σ H' s1 where
  ok := { mod := I.ok.mod, kind := I.ok.kind, glob := I.ok.glob, blt := I.ok.blt, above := I.ok.above, inj := I.ok.inj, has := I.ok.has, cab := I.ok.cab, hd := I.ok.hd, frames := I.ok.frames, stk := I.ok.stk, exf := I.ok.exf, bs := I.ok.bs, bsz := I.ok.bsz, noex := I.ok.noex, exfs := I.ok.exfs, funs := I.ok.funs, frf := I.ok.frf }
  os := I.os
  bare := I.bare
  base := I.base
  loc := I.loc
  cell := I.cell
  free := I.free
  freeC := I.freeC
  pin := h
  hok := I.hok
  len := I.len
/-- an item comes -/
def YItm (P : Program) (w : World) (outer : List Env) (H : Hp) (s : Shared) (Cs : List Addr) (a : Addr) (g n : Nat) (R : Nat → V → Hp → Prop) : Protocol := fun m s₀ v s1 kap => ∃ (i : Nat) (y : V) (H' : Hp), m + 1 + i = n ∧ i < n ∧ RelV y v ∧ R i y H' ∧ s1.os = s.os ∧ AllBare s1.gens ∧ s1.heap.NoLimit ∧ s1.heap.IsGen a g ∧
  Un (frs outer) [] H H' s.heap s1.heap ∧ HOk P w H' s1.heap ∧ (∀ b ∈ Cs, H' b = none ∧ s1.heap.get? b = s₀.heap.get? b) ∧ ∀ s', Rested Cs s1 s' → kap (.send .none) s'
/-- the end comes -/
def YEnd (P : Program) (w : World) (outer : List Env) (H : Hp) (s : Shared) (Cs : List Addr) (n : Nat) (Ed : Hp → Prop) (m : Nat) (s₀ s1 : Shared) : Prop := m + n = n ∧ ∃ H' : Hp, s1.os = s.os ∧ AllBare s1.gens ∧ Un (frs outer) [] H H' s.heap s1.heap ∧ HOk P w H' s1.heap ∧ (∀ b ∈ Cs, H' b = none ∧ s1.heap.get? b = s₀.heap.get? b) ∧ Ed H'
def REn (P : Program) (w : World) (outer : List Env) (H : Hp) (s : Shared) (Cs : List Addr) (n : Nat) (Ed : Hp → Prop) : GenEnd := fun m s₀ r s1 => ((r = .ok (.ret .none) ∨ r = .ok .next) ∧ YEnd P w outer H s Cs n Ed m s₀ s1) ∨ ∃ e, r = .error e ∧ False
/-- a call of it gives a generator that has not begun -/
def Mkd (P : Program) (w : World) (k : Nat) (outer : List Env) (H : Hp) (s : Shared) (n : Nat) (R : Nat → V → Hp → Prop) (Ed : Hp → Prop) (u : Value) (s' : Shared) : Prop :=
  ∃ (a : Addr) (g : Nat) (c : Code), u = .ref a ∧ s.heap.objs.size ≤ a ∧ a < s'.heap.objs.size ∧ s'.heap.IsGen a g ∧ s'.gens[g]? = some (.fresh c) ∧ s'.os = s.os ∧ AllBare s'.gens ∧ s'.heap.NoLimit ∧ (∀ b o, s.heap.get? b = some o → s'.heap.get? b = some o) ∧
    ∀ (A : Around) (Cs : List Addr) (s2 : Shared), Room k A → A.frames = some outer → (∀ b ∈ Cs, s'.heap.objs.size ≤ b) → (∀ b o, s'.heap.get? b = some o → s2.heap.get? b = some o) → (∀ b ∈ Cs, ∃ o, s2.heap.get? b = some o ∧ ∀ v, o.data ≠ .cell v) → s2.os = s.os → AllBare s2.gens →
      Seg (model P w) A (REn P w outer H s Cs n Ed) (YItm P w outer H s Cs a g n R) n s2 c ((model P w).den c) [] s2
abbrev SpY := List V → Hp → Nat → (Nat → V → Hp → Prop) → (Hp → Prop) → Prop
structure GnOk (P : Program) (w : World) (K : PySem.W.Frag) (mg : Str → Option Value) (base : Heap) (k : Nat) (f : Addr) (fd : FuncData) (ps : List Str) (sp : SpY) : Prop where
  len : ∀ vs H n R Ed, sp vs H n R Ed → vs.length = ps.length
  run : ∀ (A : Around) (outer : List Env) (s : Shared) (H : Hp) (args : Args) (us : List Value) (vs : List V) (n : Nat) (R : Nat → V → Hp → Prop) (Ed : Hp → Prop), Room k A → Env0 P w K mg base A outer s H → BindsTo s fd args (ps.zip us) → Vals vs us → sp vs H n R Ed →
    codeAny (model P w) A (.call (.ref f) args) (fun r s' => match r with | .ok (.ret u) => Mkd P w k outer H s n R Ed u s' | _ => False) s
/-- what the body is: one loop, one yield a turn -/
def OneLoop (X : Cx) (bd : List Stmt) (σ0 : L2.St) (H : Hp) (n : Nat) (R : Nat → V → Hp → Prop) (Ed : Hp → Prop) : Prop := ∃ (tg iter e : Expr) (yp ypos pos : Pos) (wi : TI) (g : TG) (te : TE), bd = [.For tg iter [.Expr (.Yield (some e) yp) ypos] [] pos] ∧
  PI X tg iter wi ∧ PG X tg g ∧ PE X e te ∧ (∀ x, foldedSetIterable iter X.env x = pure x) ∧ wi σ0 H fun J H1 => ∃ Ws : Nat → L2.St → Hp → Prop, Ws 0 σ0 H1 ∧
    ∀ i σ H, Ws i σ H → (i = n ∧ J.stop i H ∧ Ed H) ∨ (i < n ∧ J.go i H ∧ ∀ x H', J.yld i H x H' → g x σ H' fun σ2 H2 => te σ2 H2 fun y H3 => R i y H3 ∧ Ws (i + 1) σ2 H3)
theorem gen_def {P : Program} {w : World} {K : PySem.W.Frag} {mg : Str → Option Value} {base : Heap} {x qual : Str} {st : Stmt} {f : Addr} {fd : FuncData} {N ps : List Str} {k : Nat} {sp : SpY} (F : Fun K x qual st f fd) (S : GScope N ps (defScope st))
    (len : ∀ vs H n R Ed, sp vs H n R Ed → vs.length = ps.length)
    (body : ∀ (cdv : Value) (A : Around) (outer : List Env) (s : Shared) (H : Hp) (vs : List V) (n : Nat) (R : Nat → V → Hp → Prop) (Ed : Hp → Prop) (pn : List (Addr × Obj)), Room k (A.deeper (envOfC qual (defScope st) s.heap.objs.size f cdv)) → sp vs H n R Ed →
      OneLoop (gx P w K mg base N qual (defScope st) f cdv A outer s H pn) (defBody st) (start N vs) H n R Ed) : GnOk P w K mg base (k + 1) f fd ps sp := by
  obtain ⟨oc, od, kV, doc, pm, an, cdv, ct, osl, rfl, lk, hcd⟩ := F.ex
  refine ⟨len, fun A outer s H args us vs n R Ed hr e0 hb r hsp => ?_⟩
  have nvs := len _ _ _ _ _ hsp
  have old : ∀ b o, base.get? b = some o → s.heap.get? b = some o := fun b o e => (e0.bs b o e).1
  have kin : K.In s.heap := e0.mod.kin.keeps old
  have nol : s.heap.NoLimit := e0.mod.nolimit.keeps old
  have kinds : ∀ y ∈ ps.zip us, (defScope st).names.lookup y.1 = some .local ∨ ((defScope st).names.lookup y.1 = some .cell ∧
      ((cellsFrom (s.heap.objs.size + 1) (defScope st).names []).lookup y.1).isSome = true) := by
    rintro ⟨z, v⟩ hy
    have hm := (List.of_mem_zip hy).1
    cases S.par z hm with
    | inl q => exact Or.inl q
    | inr q => exact Or.inr ⟨q, PySem.W.cellsFrom_some _ _ _ (Or.inl q)⟩
  refine codeAny_call_generator hr.depth (kin _ _ lk) rfl S.co S.gen rfl (PySem.W.codeRec_of kin hcd) (hb _ _ _ _ ?_)
  refine wpAny_newFunctionEnv_cells S.kind kinds fun env he s1 x1 => ?_
  subst he
  refine ⟨nol.keeps x1.toInCall.keep, ?_⟩
  have grow : ∀ b o, s.heap.get? b = some o → s1.heap.get? b = some o := x1.toInCall.keep
  have above : s.heap.objs.size < s1.heap.objs.size := x1.toInCall.ns.lt
  obtain ⟨os1, gens1⟩ : s1.os = s.os ∧ s1.gens = s.gens := by
    obtain ⟨_, _, z, _⟩ := x1.done
    rw [z]
    exact ⟨rfl, rfl⟩
  have made : ∀ (og : Obj) (v1 v2 : Value) (tt : Nat), og.cls = .type "generator" → og.data = .fields #[.int s1.gens.size 0, v1, v2] → og.slots = #[] → (∀ hp : Heap, (hp.push og).get? hp.objs.size = some og) →
      Mkd P w (k + 1) outer H s n R Ed (.ref s1.heap.objs.size) { s1 with gens := s1.gens.push (.fresh (.func (defBody st) (envOfC qual (defScope st) s.heap.objs.size f cdv))), toks := tt, heap := s1.heap.push og } := by
    intro og v1 v2 tt c1 c2 c3 c4
    have is : ∀ {hp : Heap}, hp.get? s1.heap.objs.size = some og → hp.IsGen s1.heap.objs.size s1.gens.size := fun {hp} e => ⟨og, v1, v2, e, c1, c2, c3⟩
    refine ⟨_, _, _, rfl, Nat.le_of_lt above, ?_, is (c4 _), Array.getElem?_push_size .., os1, AllBare.push (by rw [gens1]; exact e0.bare) rfl, (nol.keeps grow).keeps fun b o e => Heap.get?_push_of_some _ e, fun b o e => Heap.get?_push_of_some _ (grow b o e), ?_⟩
    · show _ < (s1.heap.push og).objs.size
      rw [Heap.size_push]
      exact Nat.lt_succ_self _
    intro B Cs s2 roomB framesB youngC keep2 objC os2 bare2
    have e0B : Env0 P w K mg base B outer s H := { frames := framesB, mod := e0.mod, bs := e0.bs, bsz := e0.bsz, funs := e0.funs, frf := e0.frf, hok := e0.hok, bare := e0.bare }
    have Ia := inv_startG (E := E0) S roomB.hd e0B nvs r x1
    have at2 : s2.heap.get? s1.heap.objs.size = some og := keep2 _ _ (c4 _)
    have Ib := Ia.call' (s' := s2) (ch := []) (os2.trans os1.symm) (Un.kept fun b o e => keep2 b o (Heap.get?_push_of_some _ e)) (Ia.hok.kept fun b o e => keep2 b o (Heap.get?_push_of_some _ e)) bare2 (fun b z => nomatch z)
    have fresh1 : ∀ b, s1.heap.objs.size ≤ b → H b = none ∧ b ≠ s.heap.objs.size ∧ b ∉ frs outer ∧ s.heap.objs.size ≤ b ∧ ∀ y c, (cellsFrom (s.heap.objs.size + 1) (defScope st).names []).lookup y = some c → c ≠ b := fun b hb =>
      ⟨Ia.hok.fresh hb, Nat.ne_of_gt (Nat.lt_of_lt_of_le above hb), Ia.nofs hb, Nat.le_trans (Nat.le_of_lt above) hb, fun y c e z => by
        obtain ⟨vv, ob, ho, _⟩ := Ia.cell y c e
        exact absurd (Nat.lt_of_lt_of_le (Heap.lt_size ho) (z ▸ hb)) (Nat.lt_irrefl _)⟩
    have up : ∀ b ∈ Cs, s1.heap.objs.size + 1 ≤ b := fun b hb => by
      have q : (s1.heap.push og).objs.size ≤ b := youngC b hb
      rw [Heap.size_push] at q
      exact q
    have I : Inv (gx P w K mg base N qual (defScope st) f cdv B outer s H [(s1.heap.objs.size, og)]) ([] ++ pinsAt Cs s2.heap) (start N vs) H s2 := gx_inv Ib fun p hp => by
      rcases List.mem_append.mp hp with q | q
      · rw [List.mem_singleton.mp q]
        obtain ⟨y1, y2, y3, _⟩ := fresh1 _ (Nat.le_refl s1.heap.objs.size)
        exact ⟨at2, y1, y2, y3, fun v z => by rw [c2] at z; cases z⟩
      · obtain ⟨hb, e⟩ := of_pinsAt (show p ∈ pinsAt Cs s2.heap from q)
        obtain ⟨y1, y2, y3, _⟩ := fresh1 p.1 (Nat.le_of_succ_le (up _ hb))
        obtain ⟨o, eo, no⟩ := objC _ hb
        rw [e] at eo
        cases eo
        exact ⟨e, y1, y2, y3, no⟩
    have L : Aloof (gx P w K mg base N qual (defScope st) f cdv B outer s H [(s1.heap.objs.size, og)]) Cs := by
      refine ⟨fun b hb => (fresh1 b (Nat.le_of_succ_le (up _ hb))).2.2.2.1, fun b hb => (fresh1 b (Nat.le_of_succ_le (up _ hb))).2.1, fun b hb => (fresh1 b (Nat.le_of_succ_le (up _ hb))).2.2.2.2, fun p hp hb => ?_⟩
      have e : p = (s1.heap.objs.size, og) := List.mem_singleton.mp hp
      have q := up _ hb
      rw [e] at q
      exact absurd q (Nat.not_succ_le_self _)
    obtain ⟨tg, iter, e, yp, ypos, pos, wi, g, te, eb, hi, hg, he, hf, hw⟩ := body cdv B outer s H vs n R Ed [(s1.heap.objs.size, og)] (roomB.deeper _) hsp
    have told : ∀ {s₀ : Shared} {σ' : L2.St} {H' : Hp} {ip : List (Addr × Obj)} {s' : Shared}, (∀ b ∈ Cs, ∃ o, s₀.heap.get? b = some o) → Inv (gx P w K mg base N qual (defScope st) f cdv B outer s H [(s1.heap.objs.size, og)]) (ip ++ pinsAt Cs s₀.heap) σ' H' s' → ∀ b ∈ Cs, H' b = none ∧ s'.heap.get? b = s₀.heap.get? b := fun hex J b hb => by
      obtain ⟨o, eo⟩ := hex b hb
      have z := J.pin (b, o) (List.mem_append_right _ (List.mem_append_right _ (mem_pinsAt hb eo)))
      exact ⟨z.2.1, z.1.trans eo.symm⟩
    refine seg_imp (R := GD (gx P w K mg base N qual (defScope st) f cdv B outer s H [(s1.heap.objs.size, og)]) Cs n n Ed) (Y := YG (gx P w K mg base N qual (defScope st) f cdv B outer s H [(s1.heap.objs.size, og)]) Cs n n R) (fun m s₀ rr sx ⟨er, σ', H', ip, hm, hex, J, ed⟩ => ?_) (fun m s₀ v sx kap kap' up' ⟨i, y, σ', H', ip, hm, lt, rv, hip, hex, J, ri, kp⟩ => ?_) n ?_
    · rw [eb]
      refine seg_func (seg_execs_cons (seg_forStmt hf ?_))
      rw [over_func]
      refine wpAny_mono (hi.run _ s2 (start N vs) H _ I hw) (fun xv s3 h3 => wpAny_mono h3 (fun itv s4 h4 => ?_) fun _ _ q => q) fun _ _ q => q
      obtain ⟨it, fp, tn, J, H4, ei, I4, T, st4, f4, Ws, w0, step⟩ := h4
      subst ei
      intro p0 Fx
      refine gen_loop (ip := []) rfl (fun _ _ q => q) rfl T hg he L (fun p hp => nomatch hp) rfl S.co (by show ((defScope st).kind == .module && _) = false; rw [S.kind]; rfl) (fun b hb => ?_) (Nat.le_refl _) step n 0 n s2 s4 _ H4 (Nat.add_zero _) (Nat.add_zero _) w0 I4 st4 (fun b hb => (f4 b hb).1) (fun b hb => ?_)
      · obtain ⟨f0, f1, f2, f3, f5, f6⟩ := f4 b hb
        refine ⟨f1, f2, f3, f5, fun p hp => f6 p ?_, fun hm => ?_⟩
        · rcases List.mem_append.mp hp with q | q
          · exact List.mem_append_left _ q
          · exact nomatch q
        · obtain ⟨o, eo, _⟩ := objC b hm
          exact f6 (b, o) (List.mem_append_right _ (List.mem_append_right _ (mem_pinsAt hm eo))) rfl
      · obtain ⟨o, eo, _⟩ := objC b hb
        exact ⟨o, eo⟩
    · exact .inl ⟨.inl er, hm, H', J.os, J.bare, J.base, J.hok, told hex J, ed⟩
    · have z := J.pin (s1.heap.objs.size, og) (List.mem_append_left _ (List.mem_singleton.mpr rfl))
      exact ⟨i, y, H', hm, lt, rv, ri, J.os, J.bare, J.nolimit, is z.1, J.base, J.hok, told hex J, fun s' rs => up' _ _ (kp s' rs)⟩
  exact made _ _ _ _ rfl rfl rfl fun hp => Heap.get?_push_size _ rfl
end G

set_option Elab.async false
set_option linter.all false
set_option maxRecDepth 100000
set_option maxHeartbeats 4000000
/-! Quiet expressions: they change nothing that stood before, no generator turns. -/
namespace G
open PySem PySem.Spec PyProof.Rows L2 GenW
structure Qui (Cs : List Addr) (s s' : Shared) : Prop where
  os : s'.os = s.os
  gens : s'.gens = s.gens
  keep : ∀ b o, b ∉ Cs → s.heap.get? b = some o → s'.heap.get? b = some o
  there : ∀ b o, s.heap.get? b = some o → ∃ o', s'.heap.get? b = some o'
theorem Qui.refl {Cs : List Addr} (s : Shared) : Qui Cs s s := ⟨rfl, rfl, fun _ _ _ e => e, fun _ o e => ⟨o, e⟩⟩
theorem Qui.trans {Cs : List Addr} {s s' s'' : Shared} (a : Qui Cs s s') (b : Qui Cs s' s'') : Qui Cs s s'' :=
  ⟨b.os.trans a.os, b.gens.trans a.gens, fun c o h e => b.keep c o h (a.keep c o h e), fun c o e => let ⟨o', e'⟩ := a.there c o e; b.there c o' e'⟩
theorem Qui.mono {Cs Ds : List Addr} {s s' : Shared} (a : Qui Cs s s') (h : ∀ b ∈ Cs, b ∈ Ds) : Qui Ds s s' := ⟨a.os, a.gens, fun c o n e => a.keep c o (fun z => n (h c z)) e, a.there⟩
structure QE (X : Cx) (e : Expr) (t : TE) : Prop where
  run : ∀ (pins : List (Addr × Obj)) (s : Shared) (σ : L2.St) (H : Hp) (Q : VK), Inv X pins σ H s → t σ H Q → wpAny (model X.prog X.w) X.A (eval e X.env) (fun u s' => EP X pins σ Q u s' ∧ Qui [] s s') (fun _ _ => False) s
structure QT (X : Cx) (e : Expr) (t : TT) : Prop where
  run : ∀ (pins : List (Addr × Obj)) (s : Shared) (σ : L2.St) (H : Hp) (Q : Bool → Hp → Prop), Inv X pins σ H s → t σ H Q → wpAny (model X.prog X.w) X.A (isTrue e X.env (eval e X.env)) (fun b s' => TP X pins σ Q b s' ∧ Qui [] s s') (fun _ _ => False) s
structure QG (X : Cx) (tg : Expr) (t : TG) : Prop where
  run : ∀ (pins : List (Addr × Obj)) (s : Shared) (σ : L2.St) (H : Hp) (v : V) (u : Value) (Q : L2.St → Hp → Prop), Inv X pins σ H s → RelV v u → t v σ H Q →
    wpAny (model X.prog X.w) X.A (assign tg X.env u) (fun _ s' => (∃ σ' H', Inv X pins σ' H' s' ∧ Q σ' H') ∧ Qui [X.env.locals] s s') (fun _ _ => False) s
structure QGs (X : Cx) (ts : List Expr) (t : TGs) : Prop where
  run : ∀ (pins : List (Addr × Obj)) (s : Shared) (σ : L2.St) (H : Hp) (vs : List V) (us : List Value) (Q : L2.St → Hp → Prop), Inv X pins σ H s → Vals vs us → t vs σ H Q →
    wpAny (model X.prog X.w) X.A (assignInOrder ((assignEach ts X.env).map (·.2)) us) (fun _ s' => (∃ σ' H', Inv X pins σ' H' s' ∧ Q σ' H') ∧ Qui [X.env.locals] s s') (fun _ _ => False) s
section
variable {X : Cx} {a b e : Expr} {ta tb : TE} {pos : Pos}
theorem qe_var (i : Nat) {x : Str} (hN : X.N[i]? = some x) (hv : Vis X.env.scope x) (hd : (x == ("__debug__" : Str)) = false := by decide) (hcd : (x == ("__classdict__" : Str)) = false := by decide) : QE X (.Name x pos) (tVar i) := by
  refine ⟨fun pins s σ H Q I h => ?_⟩
  obtain ⟨v, ev, q⟩ := h
  obtain ⟨m, ns, look⟩ := I.loc
  obtain ⟨u, rv, hl⟩ := look i x v hN ev hv
  have done : EP X pins σ Q u s ∧ Qui [] s s := ⟨⟨v, H, I, rv, q⟩, Qui.refl s⟩
  refine wpAny_Name ?_ hd
  rcases hl with ⟨kd, em⟩ | ⟨kd | kd, c, ec, ic⟩
  · exact wpAny_loadName_local I.ok.kind kd ns em done
  · exact wpAny_loadName_cell I.ok.kind kd ec ic done
  · exact wpAny_loadName_free I.ok.kind kd ec ic done hcd
theorem qe_int {i : Int} {j : Nat} : QE X (.Constant (.int i) j pos) (tC (.int i)) := ⟨fun _ s _ H _ I h => wpAny_Constant_int ⟨⟨.int i, H, I.tok _, ⟨_, rfl⟩, h⟩, rfl, rfl, fun _ _ _ z => z, fun _ o z => ⟨o, z⟩⟩⟩
theorem qe_str {x : Str} {j : Nat} : QE X (.Constant (.str x) j pos) (tC (.str x)) := ⟨fun _ s _ H _ I h => Calls.Constant_str ⟨⟨.str x, H, I.tok _, ⟨_, rfl⟩, h⟩, rfl, rfl, fun _ _ _ z => z, fun _ o z => ⟨o, z⟩⟩⟩
theorem qe_ix (ha : QE X a ta) (hb : QE X b tb) (hp : PlainIx b) : QE X (.Subscript a b pos) (tOp (rIxT X.K) ta tb) := by
  refine ⟨fun pins s σ H Q I h => Subscript_ (wpAny_mono (ha.run pins s σ H _ I h) (fun v s1 ⟨⟨x, H1, I1, r1, q1⟩, k1⟩ => wpAny_mono (hb.run pins s1 σ H1 _ I1 q1) (fun u s2 ⟨⟨y, H2, I2, r2, q2⟩, k2⟩ => ?_) fun _ _ z => z) fun _ _ z => z)⟩
  obtain ⟨p, xs, i, z, rfl, rfl, hq, hat, q⟩ := q2
  obtain rfl : v = Value.ref p := r1
  obtain ⟨t, rfl⟩ := r2
  obtain ⟨its, rr, pl, hz⟩ := I2.tuple hq
  obtain ⟨j, h1, h2, h3, h4, h5⟩ := atI_get hat
  obtain ⟨vw, ew, rw'⟩ := rr.get h2
  have hl := rr.length
  have hn := line63
  exact subscriptTail_builtinR (x := vw) pl.typeIs slot_tuple_getitem.lookup
    (getItem_tuple (j := j) (Q := fun r s' => r = vw ∧ EP X pins σ Q r s' ∧ Qui [] s s') pl (by omega) (by omega) (by rw [List.size_toArray, ← hl]; exact h1) (by simpa using ew) ⟨rfl, ⟨z, H2, I2, rw', q⟩, k1.trans k2⟩) (hp _ _)
def tEqS (ta tb : TE) : TT := fun σ H Q => ta σ H fun x H1 => tb σ H1 fun y H2 => ∃ i j : Str, x = .str i ∧ y = .str j ∧ Q (decide (V.str i = V.str j)) H2
theorem qt_eq (ha : QE X a ta) (hb : QE X b tb) (hm : behindInMarks .Eq b = false) : QT X (.Compare a [.Eq] [b] pos) (tEqS ta tb) := by
  refine ⟨fun pins s σ H Q I h => wpAny_isTrue_Compare1 (wpAny_mono (ha.run pins s σ H _ I h) (fun v s1 ⟨⟨x, H1, I1, r1, q1⟩, k1⟩ => wpAny_mono (hb.run pins s1 σ H1 _ I1 q1) (fun u s2 ⟨⟨y, H2, I2, r2, q2⟩, k2⟩ => ?_) fun _ _ z => z) fun _ _ z => z) hm⟩
  obtain ⟨i, j, rfl, rfl, q⟩ := q2
  obtain ⟨t, rfl⟩ := r1
  obtain ⟨t', rfl⟩ := r2
  refine eq_str (wpAny_truthy_bool ⟨⟨H2, I2, ?_⟩, k1.trans k2⟩)
  rw [show (i == j) = decide (V.str i = V.str j) from dec_str.symm]
  exact q
theorem qg_name {i : Nat} {x : Str} (hN : X.N.Nodup) (hi : X.N[i]? = some x) (hx : X.env.scope.names.lookup x = some .local) : QG X (.Name x pos) (gName i) := by
  refine ⟨fun pins s σ H v u Q I r h => wpAny_assign_Name ?_⟩
  obtain ⟨m, hn, hl⟩ := id I.loc
  have lσ : i < σ.length := by
    rw [I.len]
    exact (List.getElem?_eq_some_iff.mp hi).1
  have notC : (X.env.scope.kind == .class || (X.env.scope.kind == .module && X.env.locals != X.env.globals)) = false := by
    rw [I.ok.kind]
    rfl
  have young : ∀ {b : Addr} {o : Obj}, X.s_0.heap.get? b = some o → b ≠ X.env.locals := fun e => Nat.ne_of_lt (Nat.lt_of_lt_of_le (Heap.lt_size e) I.ok.above)
  refine wpAny_storeName_local hx hn (fun h' hn' same => ?_) notC
  have st : ∀ {b : Addr} {o : Obj}, b ≠ X.env.locals → s.heap.get? b = some o → h'.get? b = some o := fun ne e => (same.2 _ ne).trans e
  obtain ⟨oL, esL, epL, getL, dL, _⟩ := id hn
  obtain ⟨oM, esM, epM, getM, dM, _⟩ := id hn'
  refine ⟨⟨_, H, ?_, h⟩, rfl, rfl, fun b o nb e => st (fun z => nb (by rw [z]; exact List.mem_singleton.mpr rfl)) e, fun b o e => ?_⟩
  · exact {
      ok := I.ok
      os := I.os
      bare := I.bare
      base := ⟨fun b o e n hb hx => st (young e) (I.base.keep b o e n hb hx), fun b o e n hb hx => (I.base.slot b o e n hb hx).imp fun _ z => st (young e) z, I.base.free, fun b o e hx => (I.base.there b o e hx).imp fun _ z => st (young e) z, I.base.tups, I.base.frzs, I.base.tbls⟩
      loc := ⟨_, hn', fun j y v' e1 e2 e3 => by
        by_cases hj : j = i
        · obtain rfl := hj
          obtain rfl : x = y := Option.some.inj (hi.symm.trans e1)
          rw [List.getElem?_set_self lσ] at e2
          obtain rfl : v = v' := by simpa using e2
          exact ⟨u, r, Or.inl ⟨hx, if_pos rfl⟩⟩
        · rw [List.getElem?_set_ne fun z => hj z.symm] at e2
          obtain ⟨u', r', lk⟩ := hl j y v' e1 e2 e3
          refine ⟨u', r', lk.imp (fun ⟨k1, k2⟩ => ⟨k1, ?_⟩) fun ⟨k1, c, k2, k3⟩ => ⟨k1, c, k2, k3.sameBut same (I.cne y c k2)⟩⟩
          exact (if_neg fun z : y = x => hj (nodup_ix hN e1 (z ▸ hi))).trans k2⟩
      cell := fun y c e => (I.cell y c e).imp fun _ z => z.sameBut same (I.cne y c e)
      free := I.free
      freeC := I.freeC
      pin := fun p hp => let ⟨z1, z2, z3, z4⟩ := I.pin p hp; ⟨st z3 z1, z2, z3, z4⟩
      hok := fun b o e => (I.hok b o e).stay (fun c w' hc q => st (fun z => by
        rcases hc with y | y
        · rw [← y, z, I.free] at e
          cases e
        · rw [z, I.free] at y
          cases y) q) (fun _ z => z) fun _ _ z => z
      len := by simpa using I.len }
  · by_cases z : b = X.env.locals
    · exact ⟨oM, z ▸ getM⟩
    · exact ⟨o, st z e⟩
theorem qgs_nil : QGs X [] gNil := ⟨fun pins s σ H vs us Q I r ⟨ev, h⟩ => by
  subst ev
  cases r
  exact assignInOrder_nil ⟨⟨σ, H, I, h⟩, Qui.refl s⟩⟩
theorem qgs_cons {es : List Expr} {t : TG} {u : TGs} (h1 : QG X e t) (h2 : QGs X es u) (hs : (assignEach (e :: es) X.env).map (·.2) = assign e X.env :: (assignEach es X.env).map (·.2) := by rfl) : QGs X (e :: es) (gCons t u) := by
  refine ⟨fun pins s σ H vs us Q I rr ⟨v, vr, ev, h⟩ => ?_⟩
  subst ev
  match us, rr with
  | _ :: _, .cons r1 r2 =>
    rw [hs]
    exact assignInOrder_cons (wpAny_mono (h1.run pins s σ H v _ _ I r1 h) (fun _ s1 ⟨⟨σ1, H1, I1, q1⟩, k1⟩ => wpAny_mono (h2.run pins s1 σ1 H1 vr _ Q I1 r2 q1) (fun _ s2 ⟨q2, k2⟩ => ⟨q2, k1.trans k2⟩) fun _ _ z => z) fun _ _ z => z)
theorem qg_tup {es : List Expr} {k : Nat} {t : TGs} {n : Nat} (hc : X.calm = true) (h : QGs X es t) (hn : (assignEach es X.env).length = n := by rfl) (hst : (assignEach es X.env).findIdx? (·.1) = none := by rfl) : QG X (.Tuple es k pos) (gTup X.K n t) := by
  refine ⟨fun pins s σ H v u Q I r ⟨p, xs, ev, hq, hl, hw⟩ => ?_⟩
  subst ev
  obtain rfl : u = Value.ref p := r
  obtain ⟨its, rv, ht, hz⟩ := I.tuple hq
  refine assign_Tuple_tuple (I.ok.hd hc) ht (by simp [hn, ← hl, rv.length]) hst fun h' ex => ?_
  have kp : ∀ b o, s.heap.get? b = some o → h'.get? b = some o := fun b o e => ex b o (Nat.ne_of_lt (Heap.lt_size e)) e
  exact wpAny_mono (h.run pins _ σ H xs _ Q (I.kept (t' := s.toks) kp) (by simpa using rv) hw) (fun _ s2 ⟨q2, k2⟩ => ⟨q2, ⟨k2.os, k2.gens, fun b o nb e => k2.keep b o nb (kp b o e), fun b o e => k2.there b o (kp b o e)⟩⟩) fun _ _ z => z
end
end G

set_option Elab.async false
set_option linter.all false
set_option maxRecDepth 100000
set_option maxHeartbeats 8000000
/-! A comprehension over a generator that was just made. -/
namespace G
open PySem PySem.Spec PyProof.Rows L2 GenW
/-- [elt for tg in f(..) if test], f a generator def: R i x: what the item at i is; Y i: what it adds (none: nothing) -/
def tLcG (sp : SpY) (ta : TA) (g : TG) (tt : TT) (te : TE) (own : List Nat) : TE := fun σ H Q => ta σ H fun vs H1 => ∃ (n : Nat) (R : Nat → V → Hp → Prop) (Ed : Hp → Prop) (Y : Nat → Option V → Prop), sp vs H1 n R Ed ∧ n < sizeLine ∧
  (∀ i x H2 H3, Same H2 H3 → R i x H2 → R i x H3) ∧
  (∀ i x H', i < n → R i x H' → g x (wipe σ own) H' fun σ2 H2 => H2 = H' ∧ wipe σ2 own = wipe σ own ∧ tt σ2 H' fun b H3 => H3 = H' ∧ if b = true then te σ2 H' fun y H4 => H4 = H' ∧ Y i (some y) else Y i none) ∧
  ∀ (H' : Hp) (D : Addr) (os : List (Option V)), H' D = none → Ed H' → os.length = n → (∀ i o, os[i]? = some o → Y i o) → Q (.ref D) (upd H' D (.lst (os.filterMap id)))
/-- the block's context, as of before the generator was made -/
theorem blk_back {X : Cx} {pins : List (Addr × Obj)} {σ τ : L2.St} {H1 H3 H4 : Hp} {s1 s3 s4 : Shared} {scope : Scope} {ce : Env} (I1 : Inv X pins σ H1 s1) (I4 : Inv (X.blk s3 H3 scope ce []) [] τ H4 s4) (sz : s1.heap.objs.size ≤ s3.heap.objs.size) (os : s4.os = s1.os)
    (un : Un (frs X.stack) [] H1 H4 s1.heap s4.heap) : Inv (X.blk s1 H1 scope ce []) [] τ H4 s4 where
  ok := { mod := I4.ok.mod, kind := I4.ok.kind, glob := I4.ok.glob, blt := I4.ok.blt, above := Nat.le_trans sz I4.ok.above, inj := I4.ok.inj, has := I4.ok.has,
          cab := fun x c h e => Nat.le_trans sz (I4.ok.cab x c h e), hd := I4.ok.hd, frames := I4.ok.frames, stk := I4.ok.stk, exf := fun b hb => absurd hb List.not_mem_nil, bs := I1.bs, bsz := Nat.le_trans I1.ok.bsz I1.sz, noex := fun b o e hb => absurd hb List.not_mem_nil, exfs := fun b hb => absurd hb List.not_mem_nil,
          funs := I1.stack
          frf := I1.stkFree }
  os := os
  bare := I4.bare
  base := un
  loc := I4.loc
  cell := I4.cell
  free := I4.free
  freeC := I4.freeC
  pin := I4.pin
  hok := I4.hok
  len := I4.len
/-- the generator has turned: the block's context goes on -/
theorem blk_next {X : Cx} {pins : List (Addr × Obj)} {σ τ : L2.St} {H1 Ha H' : Hp} {s1 s t : Shared} {scope : Scope} {ce : Env} {D : Addr} {acc : List V} (I1 : Inv X pins σ H1 s1) (I : Inv (X.blk s1 H1 scope ce []) [] τ (upd Ha D (.lst acc)) s) (hD : s1.heap.objs.size ≤ D)
    (hcl : ∀ x c, ce.cells.lookup x = some c → ∃ o, s1.heap.get? c = some o ∧ H1 c = none) (os : t.os = s1.os) (bare : AllBare t.gens) (un : Un (frs X.stack) [] H1 H' s1.heap t.heap) (hok : HOk X.prog X.w H' t.heap)
    (kC : t.heap.get? ce.locals = s.heap.get? ce.locals) (kD : t.heap.get? D = s.heap.get? D) (nC : H' ce.locals = none) (nD : H' D = none) : Inv (X.blk s1 H1 scope ce []) [] τ (upd H' D (.lst acc)) t := by
  have older : ∀ {b : Addr} {o : Obj}, s1.heap.get? b = some o → b ≠ D := fun e => Nat.ne_of_lt (Nat.lt_of_lt_of_le (Heap.lt_size e) hD)
  have DC : ce.locals ≠ D := fun z => by
    have q : upd Ha D (.lst acc) ce.locals = none := I.free
    rw [z, upd_same] at q
    cases q
  have cel : ∀ {x : Str} {c : Addr} {v : Option Value}, ce.cells.lookup x = some c → s.heap.IsCell c v → t.heap.IsCell c v := fun {x c v} e ⟨o, eo, d⟩ => by
    obtain ⟨o1, e1, n1⟩ := hcl x c e
    obtain ⟨sa, ea⟩ := I.base.any e1 n1 List.not_mem_nil
    obtain ⟨sb, eb⟩ := un.any e1 n1 List.not_mem_nil
    have ea : s.heap.get? c = some { o1 with slots := sa } := ea
    rw [ea] at eo
    cases eo
    exact ⟨_, eb, d⟩
  have off : ∀ {b : Addr} {u : HO}, H' b = some u → b ≠ D := fun e z => by rw [z, nD] at e; cases e
  exact {
    ok := I.ok
    os := os
    bare := bare
    base := ⟨un.keep, un.slot, fun b o e n hx => by rw [upd_ne (older e)]; exact un.free b o e n hx, un.there,
      fun b xs e => by rw [upd_ne (off (un.tups b xs e))]; exact un.tups b xs e,
      fun b o u e => by rw [upd_ne (off (un.frzs b o u e))]; exact un.frzs b o u e,
      fun b ps e => by
        obtain ⟨more, q⟩ := un.tbls b ps e
        exact ⟨more, by rw [upd_ne (off q)]; exact q⟩⟩
    loc := by
      obtain ⟨m, ns, look⟩ := I.loc
      obtain ⟨o, es, ep, eo, r⟩ := ns
      refine ⟨m, ⟨o, es, ep, (show t.heap.get? ce.locals = some o from kC.trans eo), r⟩, fun i x v e1 e2 e3 => ?_⟩
      obtain ⟨u, rv, lk⟩ := look i x v e1 e2 e3
      exact ⟨u, rv, lk.imp id fun ⟨k1, c, k2, k3⟩ => ⟨k1, c, k2, cel k2 k3⟩⟩
    cell := fun x c e => (I.cell x c e).imp fun _ z => cel e z
    free := by
      show upd H' D (.lst acc) ce.locals = none
      rw [upd_ne DC]
      exact nC
    freeC := fun x c e => by
      obtain ⟨o, eo, n⟩ := hcl x c e
      rw [upd_ne (older eo)]
      exact un.free c o eo n List.not_mem_nil
    pin := fun p hp => absurd (show p ∈ ([] : List (Addr × Obj)) ++ [] from hp) (by simp)
    hok := fun b u e => by
      by_cases hb : b = D
      · obtain rfl := hb
        rw [upd_same] at e
        cases e
        obtain ⟨z, its, c, r, q⟩ := (show ObjOk X.prog X.w (upd Ha b (.lst acc)) s.heap b (.lst acc) from I.hok b _ upd_same)
        exact ⟨z, its, c, r, kD.trans q⟩
      · rw [upd_ne hb] at e
        exact (hok b u e).stay (fun _ _ _ z => z) (fun d z => by rw [upd_ne (off z)]; exact z) fun d xs z => by rw [upd_ne (off z)]; exact z
    len := I.len }
end G

set_option Elab.async false
set_option linter.all false
set_option maxRecDepth 100000
set_option maxHeartbeats 8000000
/-! The comprehension's rule. -/
namespace G
open PySem PySem.Spec PyProof.Rows L2 GenW
theorem nocell {n : Nat} : ∀ {names : List (Str × NameKind)} {acc : List (Str × Addr)}, (∀ y ∈ names, y.2 ≠ .cell) → cellsFrom n names acc = acc
  | [], _, _ => rfl
  | (y, kd) :: r, acc, h => by
    unfold cellsFrom
    rw [if_neg (fun z => h (y, kd) (List.mem_cons_self ..) (by simpa using z))]
    exact nocell fun q hq => h q (List.mem_cons_of_mem _ hq)
/-- D is appended to -/
theorem add_ok {X : Cx} {pins : List (Addr × Obj)} {σ : L2.St} {H : Hp} {s : Shared} {E : Value → Shared → Prop} {D : Addr} {xs : List V} {y : V} {v : Value} {Q : Value → Shared → Prop} (I : Inv X pins σ H s) (hD : H D = some (.lst xs)) (hz : xs.length < sizeLine) (r : RelV y v)
    (h : ∀ s', Inv X pins σ (upd H D (.lst (xs ++ [y]))) s' → Qui [D] s s' → Q .none s') : wpAny (model X.prog X.w) X.A (call (.builtin "list.append") [.ref D, v]) Q E s := by
  obtain ⟨_, its, c, ri, e⟩ := (show ObjOk X.prog X.w H s.heap D (.lst xs) from I.hok D _ hD)
  have hl := ri.length
  refine append_at (hsz := by rw [List.size_toArray]; omega) e fun h' sb at' => ?_
  have st : ∀ b u, b ≠ D → s.heap.get? b = some u → h'.get? b = some u := fun b u hb q => (sb.2 b hb).trans q
  have J : Inv X pins σ (upd H D (.lst (xs ++ [y]))) { s with heap := h', toks := s.toks } := I.write (t' := s.toks) (by rw [hD]; trivial) (.inl rfl) st ⟨_, at'⟩ ⟨by rw [List.length_append]; exact hz, its ++ [v], c + 1, ri.append (.cons r .nil), by rw [at']; simp⟩
  refine h _ J ⟨rfl, rfl, fun b u hb q => st b u (fun z => hb (by rw [z]; exact List.mem_singleton.mpr rfl)) q, fun b u q => ?_⟩
  by_cases z : b = D
  · exact ⟨_, z ▸ at'⟩
  · exact ⟨u, st b u z q⟩
section
variable {X : Cx} {k : Nat} {f : Addr} {fd : FuncData} {ps : List Str} {sp : SpY} {x : Str} {p cpos pos : Pos} {e : Expr} {es : List Expr} {ta : TA} {elt tg tst : Expr} {scope : Scope} {own : List (Str × Nat)} {g : TG} {tt : TT} {te : TE}
theorem lcG_core {pins : List (Addr × Obj)} {s : Shared} {σ : L2.St} {H : Hp} {Q : VK} {use : Option (Value → Sem Unit)} {Qf : Value → Shared → Prop} {pos' : Pos} (I : Inv X pins σ H s) (h : tLcG sp ta g tt te (own.map (·.2)) σ H Q) (F : GnOk X.prog X.w X.K X.mg X.base k f fd ps sp) (hr : Room (k + 1) X.A) (hgl : Gl X x) (hm : X.mg x = some (.ref f)) (hk : PySem.W.keepIn X.K (.ref f) = true) (hb : Binds X.K fd ps []) (ha : PA X (e :: es) ta)
    (hc : X.calm = true) (hN : X.N.Nodup) (ok : BlkOk X.N X.env.scope scope own) (hcells : ∀ y ∈ scope.names, y.2 ≠ .cell)
    (hg : ∀ (s : Shared) (H : Hp) (C : Addr) (cl : List (Str × Addr)) (fp : List Addr), QG (X.blk s H scope (compEnvC scope cl C X.env) fp) tg g)
    (ht : ∀ (s : Shared) (H : Hp) (C : Addr) (cl : List (Str × Addr)) (fp : List Addr), QT (X.blk s H scope (compEnvC scope cl C X.env) fp) tst tt)
    (he : ∀ (s : Shared) (H : Hp) (C : Addr) (cl : List (Str × Addr)) (fp : List Addr), QE (X.blk s H scope (compEnvC scope cl C X.env) fp) elt te)
    (hdb : (x == ("__debug__" : Str)) = false := by decide) (hse : starEach (e :: es) X.env = (false, eval e X.env) :: starEach es X.env := by rfl) (hpl : (backTo cpos (starEach es X.env)).any (·.1) = false := by rfl)
    (hfs : ∀ z, foldedSetIterable (.Call (.Name x p) (e :: es) [] cpos) X.env z = pure z)
    (hRR : ∀ D C s' m H', Inv X pins σ H' s' → Q (.ref D) H' → s'.heap.Ns C m → FpOk X pins H' C → compPost (model X.prog X.w) X.A X.xe use Qf (.ref D) C (.ok .next) s') :
    wpAny (model X.prog X.w) X.A (comprehension (.ListComp elt [⟨tg, .Call (.Name x p) (e :: es) [] cpos, [tst], 0⟩] scope pos) scope X.env pos' (newList []) false (eval (.Call (.Name x p) (e :: es) [] cpos) X.env) use) Qf X.xe s := by
  have clo : ∀ {y : Str × NameKind}, y ∈ scope.names → y.2 = .free → ∃ c, X.env.cells.lookup y.1 = some c := fun {y} hy ey => (ok.free y hy ey).elim (fun z => I.ok.has _ (.inl z)) fun z => I.ok.has _ (.inr z)
  refine wpAny_comprehension_free (use := use) rfl hfs (closure_ok fun y hy ey => clo hy ey) ok.kind (fun y hy ey => (ok.uniq y hy).trans (congrArg some ey)) ?_
  refine wpAny_Call_Name_kw (ld_glob I hgl hm ?_ hdb)
  refine PySem.W.callWith_K (h₀ := X.base) I.ok.mod.kin hk (thn (ha.run cpos pins s σ H _ I h) fun us s1 ⟨vs, H1, I1, r, q⟩ => ⟨I1.kIn, ?_⟩) hse hpl
  obtain ⟨n, R, Ed, Y, hsp, hn, mono, turn, fin⟩ := q
  have hl : us.length = ps.length := r.length.symm.trans (F.len _ _ _ _ _ hsp)
  have bt := hb s1 us I1.kIn (by rw [List.append_nil]; exact hl)
  rw [List.append_nil] at bt
  refine wpAny_call (codeAny_mono (F.run X.A X.stack s1 H1 ⟨us, []⟩ us vs n R Ed (hr.mono (Nat.le_succ k)) I1.env0 bt r hsp) fun rr s2 hq => ?_)
  match rr, hq with
  | .error _, hq => exact hq.elim
  | .ok .next, hq => exact hq.elim
  | .ok .brk, hq => exact hq.elim
  | .ok .cont, hq => exact hq.elim
  | .ok (.ret u), hq =>
  obtain ⟨a, gn, c, rfl, a1, a2, isg, hgs, os2, bare2, nol2, keep2, wakes⟩ := hq
  refine wpAny_pyIter_gen isg ?_
  refine wpAny_newObj_type (newEnv_comp ?_) (by show 0 ≤ sizeLine; decide)
  generalize eD : s2.heap.objs.size = D
  generalize es3 : ({ s2 with heap := s2.heap.push { cls := .type "list", data := .seq ([] : List Value).toArray } } : Shared) = s3
  have I2 : Inv X pins σ H1 s2 := I1.call' (ch := []) os2 (Un.kept keep2) (I1.hok.kept keep2) bare2 fun b z => absurd z List.not_mem_nil
  have sD : s1.heap.objs.size ≤ D := by rw [← eD]; exact Nat.le_trans a1 (Nat.le_of_lt a2)
  have nD1 : H1 D = none := I2.hok.fresh (Nat.le_of_eq eD)
  have k23 : ∀ b o, s2.heap.get? b = some o → s3.heap.get? b = some o := fun b o z => by rw [← es3]; exact Heap.get?_push_of_some _ z
  have at3 : s3.heap.get? D = some { cls := .type "list", data := .seq ([] : List Value).toArray } := by
    rw [← es3, ← eD]
    exact Heap.get?_push_size _ rfl
  have sz3 : s3.heap.objs.size = D + 1 := by rw [← es3, ← eD]; exact Heap.size_push ..
  have os3 : s3.os = s2.os := by rw [← es3]
  have gens3 : s3.gens = s2.gens := by rw [← es3]
  have I3 : Inv X pins σ (upd H1 D (.lst [])) s3 := by
    rw [← es3] at at3 ⊢
    exact I2.laid (t' := s2.toks) (fun b o z => Heap.get?_push_of_some _ z) (Nat.le_of_eq eD) ⟨Nat.zero_le _, [], 0, .nil, at3⟩
  have I4 := block_start (fp := []) I3 ok hN fun b hb => absurd hb List.not_mem_nil
  have qg := hg s1 H1 s3.heap.objs.size (cellsFrom (s3.heap.objs.size + 1) scope.names (cloFrom X.env.cells scope.names [])) []
  have qt := ht s1 H1 s3.heap.objs.size (cellsFrom (s3.heap.objs.size + 1) scope.names (cloFrom X.env.cells scope.names [])) []
  have qe := he s1 H1 s3.heap.objs.size (cellsFrom (s3.heap.objs.size + 1) scope.names (cloFrom X.env.cells scope.names [])) []
  show codeAny _ _ (.compStart (.ListComp elt [⟨tg, .Call (.Name x p) (e :: es) [] cpos, [tst], 0⟩] scope pos) 0 (.ref a) (.ref D) (compEnvC scope (cellsFrom (s3.heap.objs.size + 1) scope.names (cloFrom X.env.cells scope.names [])) s3.heap.objs.size X.env)) (compPost (model X.prog X.w) X.A X.xe use Qf (.ref D) s3.heap.objs.size) { s3 with heap := pushCells (s3.heap.push { cls := .type "dict", data := .dict #[] }) scope.names }
  generalize hce : compEnvC scope (cellsFrom (s3.heap.objs.size + 1) scope.names (cloFrom X.env.cells scope.names [])) s3.heap.objs.size X.env = ce at I4 qg qt qe ⊢
  have cL : ce.locals = s3.heap.objs.size := by rw [← hce]; rfl
  have cC : ce.cells = cloFrom X.env.cells scope.names [] := by rw [← hce]; exact nocell hcells
  have hcl : ∀ y c, ce.cells.lookup y = some c → ∃ o, s1.heap.get? c = some o ∧ H1 c = none := fun y c ec => by
    rw [cC] at ec
    rcases cloFrom_mem (PySem.mem_of_lookup ec) with z | ⟨z, rfl⟩
    · exact absurd z List.not_mem_nil
    · obtain ⟨c', hc'⟩ := clo z rfl
      rw [hc']
      obtain ⟨v, o, eo, _⟩ := I1.cell _ _ hc'
      exact ⟨o, eo, I1.freeC _ _ hc'⟩
  generalize hs4 : ({ s3 with heap := pushCells (s3.heap.push { cls := .type "dict", data := .dict #[] }) scope.names } : Shared) = s4 at I4 ⊢
  have k34 : ∀ b o, s3.heap.get? b = some o → s4.heap.get? b = some o := fun b o z => by
    rw [← hs4]
    exact pushCells_keeps _ _ _ _ (Heap.get?_push_of_some _ z)
  have os4 : s4.os = s3.os := by rw [← hs4]
  have gens4 : s4.gens = s3.gens := by rw [← hs4]
  have k14 : ∀ b o, s1.heap.get? b = some o → s4.heap.get? b = some o := fun b o z => k34 b o (k23 b o (keep2 b o z))
  have Ib := blk_back I1 I4 (by rw [sz3]; exact Nat.le_succ_of_le sD) (os4.trans (os3.trans os2)) (Un.laid k14 sD nD1)
  have neDC : D ≠ ce.locals := by rw [cL, sz3]; exact Nat.ne_of_lt (Nat.lt_succ_self D)
  have own2 : ∀ {τ : L2.St} {H' : Hp} {acc : List V} {s' : Shared}, Inv (X.blk s1 H1 scope ce []) [] τ (upd H' D (.lst acc)) s' → ∀ b ∈ [D, ce.locals], ∃ o, s'.heap.get? b = some o ∧ ∀ v, o.data ≠ .cell v := fun {τ H' acc s'} J b hb => by
    rcases List.mem_cons.mp hb with rfl | hb
    · obtain ⟨_, its, cc, _, q⟩ := (show ObjOk X.prog X.w (upd H' b (.lst acc)) s'.heap b (.lst acc) from J.hok b _ upd_same)
      exact ⟨_, q, fun v z => by cases z⟩
    · rw [List.mem_singleton.mp hb]
      obtain ⟨m, ⟨o, es, ep, eo, ed, _⟩, _⟩ := J.loc
      exact ⟨o, eo, fun v z => by rw [ed] at z; cases z⟩
  have hgl4 : s4.gens[gn]? = some (.fresh c) := by rw [gens4, gens3]; exact hgs
  have isg4 : s4.heap.IsGen a gn := by
    obtain ⟨o, v1, v2, z, rest⟩ := isg
    exact ⟨o, v1, v2, k34 _ _ (k23 _ _ z), rest⟩
  have first := wakes X.A.in1 [D, ce.locals] (s4.setGen gn .running) hr.in1 I.ok.frames (fun b hb => by
      rcases List.mem_cons.mp hb with rfl | hb
      · exact Nat.le_of_eq eD
      · rw [List.mem_singleton.mp hb, cL, sz3, eD]
        exact Nat.le_succ D) (fun b o z => k34 b o (k23 b o z)) (fun b hb => own2 (s' := s4) Ib b hb) (os4.trans (os3.trans os2)) (allBare_setGen Ib.bare rfl)
  have loop : codeAny (model X.prog X.w) X.A (.compLoop (.ListComp elt [⟨tg, .Call (.Name x p) (e :: es) [] cpos, [tst], 0⟩] scope pos) 0 (.ref a) (.ref D) ce) (compPost (model X.prog X.w) X.A X.xe use Qf (.ref D) s3.heap.objs.size) s4 := by
    refine compLoop_any (fun m s' => ∃ (i : Nat) (os : List (Option V)) (H' : Hp), i + m = n ∧ os.length = i ∧ (∀ j o, os[j]? = some o → Y j o) ∧ Inv (X.blk s1 H1 scope ce []) [] (wipe σ (own.map (·.2))) (upd H' D (.lst (os.filterMap id))) s' ∧ s'.heap.IsGen a gn ∧
      ∃ gs : GenState, s'.gens[gn]? = some gs ∧ gs.Goes (model X.prog X.w) X.A.in1 (REn X.prog X.w X.stack H1 s1 [D, ce.locals] n Ed) (YItm X.prog X.w X.stack H1 s1 [D, ce.locals] a gn n R) m (.send .none) (s'.setGen gn .running)) ?_ n
      ⟨0, [], H1, Nat.zero_add n, rfl, fun j o z => by simp at z, Ib, isg4, _, hgl4, rfl, first⟩
    rintro m s5 ⟨i, os, H5, him, hlen, hY, I5, isg5, gs, hgs5, go⟩
    have hgz : gn < s5.gens.size := (Array.getElem?_eq_some_iff.mp hgs5).1
    refine wpAny_gsz (n := gn + 1) hgz (next_genG (n := m) (gs := gs) (F := YEnd X.prog X.w X.stack H1 s1 [D, ce.locals] n Ed) (Er := fun _ _ => False) (I.ok.hd hc) I5.nolimit hr.depth isg5 hgs5 go (fun v sy gs' hbare hy => ?_) (fun sy hend h' hkept => ?_) fun _ _ z => z.elim)
    · intro hgz2
      obtain ⟨j, y, H6, hj, jn, rv, rj, os6, bare6, nol6, isg6, un6, hok6, kept6, rest6⟩ := hy
      have k5 : ∀ b ∈ [D, ce.locals], sy.heap.get? b = s5.heap.get? b := fun b hb => (kept6 b hb).2
      have own6 : ∀ b ∈ [D, ce.locals], ∃ o, sy.heap.get? b = some o ∧ ∀ v, o.data ≠ .cell v := fun b hb => by
        rw [k5 b hb]
        exact own2 I5 b hb
      cases m with
      | zero => exact (rest6 sy ⟨rfl, bare6, fun _ _ _ z => z, own6⟩).elim
      | succ m =>
      obtain rfl : j = i := by omega
      have n6D : H6 D = none := (kept6 D (List.mem_cons_self ..)).1
      have I6 : Inv (X.blk s1 H1 scope ce []) [] (wipe σ (own.map (·.2))) (upd H6 D (.lst (os.filterMap id))) (sy.setGen gn gs') := blk_next I1 I5 sD hcl os6 (allBare_setGen bare6 hbare) un6 hok6
        (k5 _ (List.mem_cons_of_mem _ (List.mem_singleton.mpr rfl))) (k5 _ (List.mem_cons_self ..)) (kept6 _ (List.mem_cons_of_mem _ (List.mem_singleton.mpr rfl))).1 n6D
      obtain ⟨og, v1, v2, geto, c1, c2, c3⟩ := id isg6
      refine go_of (n := "generator") geto c1 c2 (by decide +kernel) ?_
      have tn := turn j y (upd H6 D (.lst (os.filterMap id))) jn (mono j y H6 _ (Same.up n6D) rj)
      refine wpAny_mono (qg.run [] _ _ _ y v _ I6 rv tn) (fun _ s7 ⟨⟨σ7, H7, I7, e7, w7, q7⟩, r7⟩ => ?_) fun _ _ z => z.elim
      subst e7
      have next : ∀ {s' : Shared} {out : List V} {o : Option V}, Inv (X.blk s1 H1 scope ce []) [] σ7 (upd H6 D (.lst out)) s' → Qui [D, ce.locals] (sy.setGen gn gs') s' → Y j o → out = (os ++ [o]).filterMap id →
          ∃ m', m' < m + 1 ∧ ∃ (i : Nat) (os : List (Option V)) (H' : Hp), i + m' = n ∧ os.length = i ∧ (∀ j o, os[j]? = some o → Y j o) ∧ Inv (X.blk s1 H1 scope ce []) [] (wipe σ (own.map (·.2))) (upd H' D (.lst (os.filterMap id))) s' ∧ s'.heap.IsGen a gn ∧
            ∃ gs : GenState, s'.gens[gn]? = some gs ∧ gs.Goes (model X.prog X.w) X.A.in1 (REn X.prog X.w X.stack H1 s1 [D, ce.locals] n Ed) (YItm X.prog X.w X.stack H1 s1 [D, ce.locals] a gn n R) m' (.send .none) (s'.setGen gn .running) := fun {s' out o} J qk yo eo => by
        subst eo
        have lw : (wipe σ (own.map (·.2))).length = σ7.length := by rw [← w7, wipe_length]
        have gz : gn < sy.gens.size := by
          have q : (sy.setGen gn gs').gens.size = sy.gens.size := setGen_size _ _ _
          omega
        have atg : s'.gens[gn]? = some gs' := by
          rw [qk.gens]
          exact setGen_at gz
        have na : a ∉ [D, ce.locals] := fun hb => by
          obtain ⟨o', _, _, eo', _⟩ := isg
          have la : a < D := by rw [← eD]; exact Heap.lt_size eo'
          rcases List.mem_cons.mp hb with z | z
          · exact absurd la (by rw [z]; exact Nat.lt_irrefl _)
          · rw [List.mem_singleton] at z
            rw [z, cL, sz3] at la
            exact absurd (Nat.lt_of_succ_lt la) (Nat.lt_irrefl _)
        refine ⟨m, Nat.lt_succ_self m, j + 1, os ++ [o], H6, by omega, by rw [List.length_append, hlen]; rfl, fun j' o' z => ?_, J.weak lw (fun j' v' z => ?_), ⟨og, v1, v2, qk.keep a og na geto, c1, c2, c3⟩, gs', atg, rest6 (s'.setGen gn .running) ⟨qk.os, allBare_setGen J.bare rfl, fun b o' hb z => qk.keep b o' hb z, fun b hb => own2 (s' := s') J b hb⟩⟩
        · rcases Nat.lt_trichotomy j' j with lt | rfl | gt
          · rw [List.getElem?_append_left (by omega)] at z
            exact hY j' o' z
          · rw [List.getElem?_append_right (by omega), hlen, Nat.sub_self] at z
            cases z
            exact yo
          · rw [List.getElem?_eq_none (by rw [List.length_append, hlen]; show j + 1 ≤ j'; omega)] at z
            cases z
        · rw [← w7] at z
          exact (wipe_some z).1
      refine wpAny_tests_one (wpAny_mono (qt.run [] s7 σ7 _ _ I7 q7) (fun b s8 ⟨⟨H8, I8, e8, q8⟩, r8⟩ => ?_) fun _ _ z => z.elim)
      subst e8
      have r78 : Qui [D, ce.locals] (sy.setGen gn gs') s8 := (r7.mono fun b hb => List.mem_cons_of_mem _ hb).trans (r8.mono fun b hb => absurd hb List.not_mem_nil)
      cases b with
      | false =>
        rw [if_neg Bool.false_ne_true] at q8 ⊢
        exact next I8 r78 q8 (by simp)
      | true =>
        rw [if_pos rfl] at q8 ⊢
        refine wpAny_mono (qe.run [] s8 σ7 _ _ I8 q8) (fun z s9 ⟨⟨y9, H9, I9, ry, e9, yy⟩, r9⟩ => ?_) fun _ _ z => z.elim
        subst e9
        refine add_ok (X := X.blk s1 H1 scope ce []) I9 upd_same ?_ ry fun s10 I10 r10 => ?_
        · exact Nat.lt_of_le_of_lt (List.length_filterMap_le _ _) (by omega)
        · rw [upd_upd] at I10
          exact next I10 (r78.trans ((r9.mono fun b hb => absurd hb List.not_mem_nil).trans (r10.mono fun b hb => by rw [List.mem_singleton.mp hb]; exact List.mem_cons_self ..))) yy (by simp)
    · intro _
      obtain ⟨hm0, H6, os6, bare6, un6, hok6, kept6, ed⟩ := hend
      have n6D : H6 D = none := (kept6 D (List.mem_cons_self ..)).1
      obtain ⟨_, its, cc, ri, q5⟩ := (show ObjOk X.prog X.w (upd H5 D (.lst (os.filterMap id))) s5.heap D (.lst (os.filterMap id)) from I5.hok D _ upd_same)
      have atD : h'.get? D = some { cls := .type "list", data := .seq its.toArray cc } := hkept _ _ ((kept6 D (List.mem_cons_self ..)).2.trans q5)
      have J := I1.drained (s' := { sy.setGen gn .finished with heap := h' }) (out := os.filterMap id) sD (Nat.le_of_lt (Nat.lt_of_le_of_lt (List.length_filterMap_le _ _) (by omega))) atD (by simpa using ri) ExOk.nil os6 (allBare_setGen bare6 rfl) (un6.trans (Un.kept hkept)) (hok6.kept hkept) n6D
      obtain ⟨mm, ⟨oc, esc, epc, geC, rC⟩, _⟩ := I5.loc
      have geC' : h'.get? s3.heap.objs.size = some oc := hkept _ _ (by
        rw [← cL]
        exact (kept6 _ (List.mem_cons_of_mem _ (List.mem_singleton.mpr rfl))).2.trans geC)
      have nC : (upd H6 D (.lst (os.filterMap id))) s3.heap.objs.size = none := by
        rw [← cL, upd_ne neDC.symm]
        exact (kept6 _ (List.mem_cons_of_mem _ (List.mem_singleton.mpr rfl))).1
      exact hRR D _ _ mm _ J (fin H6 D os n6D ed (by omega) hY) ⟨oc, esc, epc, geC', rC⟩ (I3.fpOk (Nat.le_refl _) nC)
  exact codeAny_compStart_list loop (wpAny_pyIter_gen isg4 loop)
theorem pe_lcG (F : GnOk X.prog X.w X.K X.mg X.base k f fd ps sp) (hr : Room (k + 1) X.A) (hgl : Gl X x) (hm : X.mg x = some (.ref f)) (hk : PySem.W.keepIn X.K (.ref f) = true) (hb : Binds X.K fd ps []) (ha : PA X (e :: es) ta)
    (hc : X.calm = true) (hN : X.N.Nodup) (ok : BlkOk X.N X.env.scope scope own) (hcells : ∀ y ∈ scope.names, y.2 ≠ .cell)
    (hg : ∀ (s : Shared) (H : Hp) (C : Addr) (cl : List (Str × Addr)) (fp : List Addr), QG (X.blk s H scope (compEnvC scope cl C X.env) fp) tg g)
    (ht : ∀ (s : Shared) (H : Hp) (C : Addr) (cl : List (Str × Addr)) (fp : List Addr), QT (X.blk s H scope (compEnvC scope cl C X.env) fp) tst tt)
    (he : ∀ (s : Shared) (H : Hp) (C : Addr) (cl : List (Str × Addr)) (fp : List Addr), QE (X.blk s H scope (compEnvC scope cl C X.env) fp) elt te)
    (hdb : (x == ("__debug__" : Str)) = false := by decide) (hse : starEach (e :: es) X.env = (false, eval e X.env) :: starEach es X.env := by rfl) (hpl : (backTo cpos (starEach es X.env)).any (·.1) = false := by rfl)
    (hfs : ∀ z, foldedSetIterable (.Call (.Name x p) (e :: es) [] cpos) X.env z = pure z := by intro _; rfl) :
    PE X (.ListComp elt [⟨tg, .Call (.Name x p) (e :: es) [] cpos, [tst], 0⟩] scope pos) (tLcG sp ta g tt te (own.map (·.2))) := by
  refine ⟨fun pins s σ H Q I h => ?_⟩
  rw [eval_ListComp]
  exact lcG_core I h F hr hgl hm hk hb ha hc hN ok hcells hg ht he hdb hse hpl hfs fun D C s' m H' J q ns ⟨z0, z1, z2, z3, z4, z5⟩ =>
    ⟨m, ns, fun h2 sb => ⟨.ref D, H', J.turned (t' := s'.toks) (fun b o nb z => (sb.2 b nb).trans z) z0 z1 z3 z4 z5, rfl, q⟩⟩
theorem ps_setLcG {i : Nat} {y : Str} {py spos : Pos} (hy : X.N[i]? = some y) (hyl : X.env.scope.names.lookup y = some .local) (hsw : swapsWith (.ListComp elt [⟨tg, .Call (.Name x p) (e :: es) [] cpos, [tst], 0⟩] scope pos) (some (.Name y py)) spos.line X.env = pure true)
    (F : GnOk X.prog X.w X.K X.mg X.base k f fd ps sp) (hr : Room (k + 1) X.A) (hgl : Gl X x) (hm : X.mg x = some (.ref f)) (hk : PySem.W.keepIn X.K (.ref f) = true) (hb : Binds X.K fd ps []) (ha : PA X (e :: es) ta)
    (hc : X.calm = true) (hN : X.N.Nodup) (ok : BlkOk X.N X.env.scope scope own) (hcells : ∀ y ∈ scope.names, y.2 ≠ .cell)
    (hg : ∀ (s : Shared) (H : Hp) (C : Addr) (cl : List (Str × Addr)) (fp : List Addr), QG (X.blk s H scope (compEnvC scope cl C X.env) fp) tg g)
    (ht : ∀ (s : Shared) (H : Hp) (C : Addr) (cl : List (Str × Addr)) (fp : List Addr), QT (X.blk s H scope (compEnvC scope cl C X.env) fp) tst tt)
    (he : ∀ (s : Shared) (H : Hp) (C : Addr) (cl : List (Str × Addr)) (fp : List Addr), QE (X.blk s H scope (compEnvC scope cl C X.env) fp) elt te)
    (hdb : (x == ("__debug__" : Str)) = false := by decide) (hse : starEach (e :: es) X.env = (false, eval e X.env) :: starEach es X.env := by rfl) (hpl : (backTo cpos (starEach es X.env)).any (·.1) = false := by rfl)
    (hfs : ∀ z, foldedSetIterable (.Call (.Name x p) (e :: es) [] cpos) X.env z = pure z := by intro _; rfl) :
    PS X (.Assign [.Name y py] (.ListComp elt [⟨tg, .Call (.Name x p) (e :: es) [] cpos, [tst], 0⟩] scope pos) spos) (tAsg (tLcG sp ta g tt te (own.map (·.2))) (gName i)) := by
  refine ⟨fun pins s σ H Dn I hw => ?_⟩
  rw [exec_Assign_Name_used _ _ _ _ hsw]
  have ht' : tLcG sp ta g tt te (own.map (·.2)) σ H (fun v H1 => gName i v σ H1 Dn.nx) := hw
  have core := lcG_core (pos := pos) (use := some (assign (.Name y py) X.env)) (Qf := fun _ s' => SP X pins Dn .next s') (pos' := firstIterPos [⟨tg, .Call (.Name x p) (e :: es) [] cpos, [tst], 0⟩] pos) I ht' F hr hgl hm hk hb ha hc hN ok hcells hg ht he hdb hse hpl hfs fun L C s' m H' J q ns ⟨z0, z1, z2, z3, z4, z5⟩ => by
    show wpAny _ _ (assign (.Name y py) X.env (.ref L)) _ _ s'
    refine wpAny_assign_Name (store_ok2 (v := V.ref L) J hN hy (.inl hyl) rfl (fun s2 J2 ⟨b, sb, hb⟩ => ?_) (.inr hyl))
    have ne : C ≠ b := hb.elim (fun z => z ▸ z1) fun z z' => z4 y b z z'.symm
    exact ⟨m, ns.sameBut sb ne, fun h3 sb3 => ⟨_, H', J2.turned (t' := s2.toks) (fun c o nc z => (sb3.2 c nc).trans z) z0 z1 z3 z4 z5, q⟩⟩
  refine wpAny_bind (wpAny_standAt (wpAny_bind ?_))
  show wpAny _ _ (comprehension (.ListComp elt [⟨tg, .Call (.Name x p) (e :: es) [] cpos, [tst], 0⟩] scope pos) scope X.env (firstIterPos [⟨tg, .Call (.Name x p) (e :: es) [] cpos, [tst], 0⟩] pos) (newList []) false (eval (.Call (.Name x p) (e :: es) [] cpos) X.env) (some (assign (.Name y py) X.env)) >>= _) _ _ s
  exact wpAny_bind (wpAny_mono core (fun _ s' q => wpAny_pure (wpAny_pure q)) fun _ _ z => z)
end
end G

set_option Elab.async false
set_option linter.all false
set_option maxRecDepth 100000
set_option maxHeartbeats 4000000
/-! Rows of a program (data): blocks_of, rows_of. -/
namespace G
open PySem PySem.Spec PyProof.Rows L2
theorem td_tup {H : Hp} {v : V} {ds : List PyData} (h : TD H v (.tuple ds)) : ∃ a xs, v = .ref a ∧ H a = some (.tup xs) ∧ TDs H xs ds := by
  cases h with
  | tup h1 h2 => exact ⟨_, _, rfl, h1, h2⟩
theorem tds1 {H : Hp} {vs : List V} {d : PyData} (h : TDs H vs [d]) : ∃ v, vs = [v] ∧ TD H v d := by
  cases h with
  | cons h1 h2 => cases h2; exact ⟨_, rfl, h1⟩
theorem tds_cons {H : Hp} {vs : List V} {d : PyData} {ds : List PyData} (h : TDs H vs (d :: ds)) : ∃ v r, vs = v :: r ∧ TD H v d ∧ TDs H r ds := by
  cases h with
  | cons h1 h2 => exact ⟨_, _, rfl, h1, h2⟩
theorem TDs.at {H : Hp} : ∀ {vs : List V} {ds : List PyData} {i : Nat} {v : V}, TDs H vs ds → vs[i]? = some v → ∃ d, ds[i]? = some d ∧ TD H v d
  | _, _, i, v, .nil, h => by simp at h
  | _, _, 0, v, .cons h1 h2, h => by
    cases h
    exact ⟨_, rfl, h1⟩
  | _, _, i + 1, v, .cons h1 h2, h => TDs.at h2 (i := i) h
theorem Same.putN {H H' : Hp} {L : Addr} {o : HO} (s : Same H H') (h : H L = none) : Same H (upd H' L o) := (((Kp.same (S := [L]) s).put (by simp)).fresh h).toSame
def partsOf : Sta → List (List Sta)
  | .act _ => []
  | .cond _ y n => [y, n]
  | .rep _ b => [b]
def partD (b : List Sta) : PyData := .tuple (blkData b)
/-- statements so deep at most -/
def NestOk : Nat → Sta → Prop
  | _, .act _ => True
  | 0, _ => False
  | d + 1, .cond _ y n => (∀ s ∈ y, NestOk d s) ∧ ∀ s ∈ n, NestOk d s
  | d + 1, .rep _ b => ∀ s ∈ b, NestOk d s
theorem nest_of : ∀ {d : Nat} {s : Sta}, StaOk d s → NestOk d s
  | _, .act _, _ => by unfold NestOk; trivial
  | 0, .cond _ _ _, h => h.elim
  | 0, .rep _ _, h => h.elim
  | d + 1, .cond t y n, h => ⟨fun s hs => nest_of (h.2.1 s hs), fun s hs => nest_of (h.2.2 s hs)⟩
  | d + 1, .rep k b, h => fun s hs => nest_of (h.2 s hs)
/-! ### the rows on paper -/
mutual
def staRows : Nat → Sta → List (Nat × Sta)
  | d, .act a => [(d, .act a)]
  | d, .cond t y n => (d, .cond t y n) :: (rowsP (d + 1) y ++ rowsP (d + 1) n)
  | d, .rep k b => (d, .rep k b) :: rowsP (d + 1) b
def rowsP : Nat → List Sta → List (Nat × Sta)
  | _, [] => []
  | d, s :: r => staRows d s ++ rowsP d r
end
theorem rowsP_snoc (d : Nat) (s : Sta) : ∀ b : List Sta, rowsP d (b ++ [s]) = rowsP d b ++ staRows d s
  | [] => by show staRows d s ++ [] = [] ++ staRows d s; rw [List.append_nil]; rfl
  | x :: r => by
    show staRows d x ++ rowsP d (r ++ [s]) = staRows d x ++ rowsP d r ++ staRows d s
    rw [rowsP_snoc d s r, List.append_assoc]
mutual
theorem staRows_len : ∀ (d : Nat) (s : Sta), (staRows d s).length = s.size
  | d, .act a => rfl
  | d, .cond t y n => by
    show ((d, Sta.cond t y n) :: (rowsP (d + 1) y ++ rowsP (d + 1) n)).length = 1 + (sizeB y + sizeB n)
    rw [List.length_cons, List.length_append, rowsP_len (d + 1) y, rowsP_len (d + 1) n]
    omega
  | d, .rep k b => by
    show ((d, Sta.rep k b) :: rowsP (d + 1) b).length = 1 + sizeB b
    rw [List.length_cons, rowsP_len (d + 1) b]
    omega
theorem rowsP_len : ∀ (d : Nat) (b : List Sta), (rowsP d b).length = sizeB b
  | _, [] => rfl
  | d, s :: r => by
    show (staRows d s ++ rowsP d r).length = s.size + sizeB r
    rw [List.length_append, staRows_len d s, rowsP_len d r]
end
def rowD (p : Nat × Sta) : PyData := .tuple [.int p.1, p.2.data]
def accR (d : Nat) (bs : List (List Sta)) (i : Nat) : List (Nat × Sta) := (bs.take i).flatMap (rowsP (d + 1))
theorem staRows_acc (d : Nat) (s : Sta) : staRows d s = (d, s) :: accR d (partsOf s) (partsOf s).length := by
  unfold accR
  rw [List.take_length]
  cases s <;> simp [staRows, partsOf]
theorem accR_succ {d i : Nat} {bs : List (List Sta)} {b : List Sta} (h : bs[i]? = some b) : accR d bs (i + 1) = accR d bs i ++ rowsP (d + 1) b := by
  unfold accR
  rw [List.take_add_one, h, List.flatMap_append]
  simp
theorem accR_le (d : Nat) (s : Sta) (i : Nat) : (accR d (partsOf s) i).length ≤ s.size := by
  have e := staRows_len d s
  rw [staRows_acc, List.length_cons] at e
  have q : (accR d (partsOf s) i).length ≤ (accR d (partsOf s) (partsOf s).length).length := by
    unfold accR
    rw [List.take_length]
    conv => rhs; rw [← List.take_append_drop i (partsOf s), List.flatMap_append, List.length_append]
    omega
  omega
theorem size_take : ∀ (b : List Sta) (j : Nat), sizeB (b.take j) ≤ sizeB b
  | [], j => by rw [List.take_nil]; exact Nat.le_refl _
  | s :: r, 0 => Nat.zero_le _
  | s :: r, j + 1 => Nat.add_le_add_left (size_take r j) _
theorem size_mem : ∀ {b : List Sta} {s : Sta}, s ∈ b → s.size ≤ sizeB b
  | x :: r, s, h => by
    rcases List.mem_cons.mp h with rfl | h
    · exact Nat.le_add_right _ _
    · exact Nat.le_trans (size_mem h) (Nat.le_add_left _ _)
theorem parts_nest {d : Nat} {s : Sta} {i : Nat} {b : List Sta} (ok : NestOk d s) (h : (partsOf s)[i]? = some b) : ∃ d', d = d' + 1 ∧ (∀ z ∈ b, NestOk d' z) ∧ sizeB b ≤ s.size := by
  have hm := List.mem_of_getElem? h
  cases s with
  | act a => exact nomatch hm
  | cond t y n =>
    cases d with
    | zero => exact ok.elim
    | succ d =>
      refine ⟨d, rfl, ?_⟩
      have e : (Sta.cond t y n).size = 1 + (sizeB y + sizeB n) := rfl
      have ok : (∀ s ∈ y, NestOk d s) ∧ ∀ s ∈ n, NestOk d s := ok
      simp only [partsOf, List.mem_cons, List.not_mem_nil, or_false] at hm
      rcases hm with rfl | rfl
      · exact ⟨ok.1, by omega⟩
      · exact ⟨ok.2, by omega⟩
  | rep c y =>
    cases d with
    | zero => exact ok.elim
    | succ d =>
      refine ⟨d, rfl, ?_⟩
      have e : (Sta.rep c y).size = 1 + sizeB y := rfl
      have ok : ∀ s ∈ y, NestOk d s := ok
      simp only [partsOf, List.mem_cons, List.not_mem_nil, or_false] at hm
      subst hm
      exact ⟨ok, by omega⟩
theorem act_shape (a : Act) : ∃ (w : Str) (ds : List PyData), a.data = .tuple (.str w :: ds) ∧ inV (.str w) [.str "if", .str "repeat"] = false ∧ decide (V.str w = V.str "if") = false ∧ decide (V.str w = V.str "repeat") = false := by
  cases a <;> exact ⟨_, _, rfl, by decide +kernel, by decide +kernel, by decide +kernel⟩
theorem sIx_two (a b : V) (ys : List V) : HT.sIx (a :: b :: ys).length 0 (some 2) = 2 := by
  rw [show HT.sIx (a :: b :: ys).length 0 (some 2) = min 2 (a :: b :: ys).length from HT.sIx_nat _ 0 2]
  simp only [List.length_cons]
  omega
theorem sIx2 (a b : V) (ys : List V) : ¬ HT.sIx (a :: b :: ys).length 0 (some 2) = 0 := by
  rw [sIx_two]
  decide
theorem cut2 (a b : V) (ys : List V) : cutV (a :: b :: ys) (some 2) none = ys := by
  unfold cutV
  rw [sIx_two, HT.sIx_none]
  show List.take ((a :: b :: ys).length - 2) ys = ys
  exact List.take_of_length_le (by simp only [List.length_cons]; omega)
section
variable {P : Program} {w : World} {K : PySem.W.Frag} {mg : Str → Option Value} {base : Heap}
abbrev s_blocks_of : Stmt := top 6
abbrev n_blocks_of : List Str := ["statement"]
theorem sc_blocks_of : FnScope n_blocks_of ["statement"] (defScope s_blocks_of) := ⟨rfl, rfl, rfl, by decide +kernel, rfl, by decide +kernel, by decide +kernel⟩
def spBO : Sp := fun vs H Q _ => ∃ (v : V) (s : Sta), vs = [v] ∧ TD H v s.data ∧ ∀ (H' : Hp) (p : Addr) (xs : List V), Same H H' → H' p = some (.tup xs) → TDs H' xs ((partsOf s).map partD) → Q (.ref p) H'
theorem ok_bo {f : Addr} {fd : FuncData} {k : Nat} (F : Fun K "blocks_of" "blocks_of" s_blocks_of f fd) : FnOk P w K mg base CX0 (k + 1) f fd ["statement"] spBO := by
  refine F.ok sc_blocks_of (fun vs H Q E ⟨v, s, ev, _⟩ => by rw [ev]; rfl) (fun cdv A outer s0 H vs Q E hr ⟨v, s, ev, td, q⟩ => ?_)
  subst ev
  refine ⟨_, (pss_cons (ps_if (pt_cmpR op_in_seq (pe_ix ix_tup (pv 0) pe_int (fun _ _ => rfl)) (pe_tup (pa_cons pe_str (pa_cons pe_str pa_nil))) (by rfl))
      (pss_one (ps_ret (pe_slice sl_tupA (pv 0) (po_some pe_int) po_none)))
      pss_nil)
      (pss_one (ps_ret (pe_tup pa_nil)))), ?_⟩
  cases s with
  | act a =>
    obtain ⟨wd, ds, ea, ei, _, _⟩ := act_shape a
    have td : TD H v a.data := td
    rw [ea] at td
    obtain ⟨r, ys, rfl, gr, dss⟩ := td_tup td
    obtain ⟨v1, ys, rfl, d1, dss⟩ := tds_cons dss
    cases d1
    refine ⟨_, rfl, r, _, _, _, rfl, rfl, SqT.of gr, atI_nat (j := 0) rfl, line1000 (Nat.le_of_ble_eq_true rfl), fun t0 n0 => ⟨t0, _, rfl, .inr (SqT.of upd_same), rfl, rfl, _, rfl, ?_⟩⟩
    show if inV (.str wd) [.str "if", .str "repeat"] = true then _ else _
    rw [ei]
    exact iteF ⟨line1000 (Nat.zero_le _), fun t1 n1 => q _ t1 [] (Same.trans (Same.up n0) (Same.up n1)) upd_same .nil⟩
  | cond t y n =>
    have td : TD H v (.tuple [.str "if", t.data, .tuple (blkData y), .tuple (blkData n)]) := td
    obtain ⟨r, ys0, rfl, gr, e0⟩ := td_tup td
    obtain ⟨v1, ys1, rfl, d1, e1⟩ := tds_cons e0
    cases d1
    obtain ⟨v2, ys2, rfl, d2, e2⟩ := tds_cons e1
    refine ⟨_, rfl, r, _, _, _, rfl, rfl, SqT.of gr, atI_nat (j := 0) rfl, line1000 (Nat.le_of_ble_eq_true rfl), fun t0 n0 => ⟨t0, _, rfl, .inr (SqT.of upd_same), rfl, rfl, _, rfl, ?_⟩⟩
    have s0 := Same.up (o := HO.tup [V.str "if", V.str "repeat"]) n0
    refine iteT ⟨_, rfl, _, rfl, r, _, rfl, SqT.of (s0 _ _ gr), fun h => absurd h.1 (sIx2 _ _ _), fun _ p np => ?_⟩
    rw [cut2]
    have s1 := Same.trans s0 (Same.up (o := HO.tup ys2) np)
    exact q _ p ys2 s1 upd_same (TDs.ch (Ch.same (S := []) s1) _ _ e2)
  | rep k b =>
    have td : TD H v (.tuple [.str "repeat", .int k, .tuple (blkData b)]) := td
    obtain ⟨r, ys0, rfl, gr, e0⟩ := td_tup td
    obtain ⟨v1, ys1, rfl, d1, e1⟩ := tds_cons e0
    cases d1
    obtain ⟨v2, ys2, rfl, d2, e2⟩ := tds_cons e1
    refine ⟨_, rfl, r, _, _, _, rfl, rfl, SqT.of gr, atI_nat (j := 0) rfl, line1000 (Nat.le_of_ble_eq_true rfl), fun t0 n0 => ⟨t0, _, rfl, .inr (SqT.of upd_same), rfl, rfl, _, rfl, ?_⟩⟩
    have s0 := Same.up (o := HO.tup [V.str "if", V.str "repeat"]) n0
    refine iteT ⟨_, rfl, _, rfl, r, _, rfl, SqT.of (s0 _ _ gr), fun h => absurd h.1 (sIx2 _ _ _), fun _ p np => ?_⟩
    rw [cut2]
    have s1 := Same.trans s0 (Same.up (o := HO.tup ys2) np)
    exact q _ p ys2 s1 upd_same (TDs.ch (Ch.same (S := []) s1) _ _ e2)
end
end G

set_option Elab.async false
set_option linter.all false
set_option maxRecDepth 100000
set_option maxHeartbeats 4000000
/-! rows_of. -/
namespace G
open PySem PySem.Spec PyProof.Rows L2
def spRO (d : Nat) : Sp := fun vs H Q _ => ∃ (v : V) (b : List Sta) (k : Nat), vs = [v, .int (k : Int)] ∧ TD H v (partD b) ∧ (∀ s ∈ b, NestOk d s) ∧ sizeB b ≤ 10000 ∧ ∀ (H' : Hp) (p : Addr) (xs : List V), Same H H' → H p = none → H' p = some (.lst xs) → TDs H' xs ((rowsP k b).map rowD) → Q (.ref p) H'
def spRO' : Nat → Sp
  | 0 => fun _ _ _ _ => False
  | d + 1 => spRO d
section
variable {P : Program} {w : World} {K : PySem.W.Frag} {mg : Str → Option Value} {base : Heap}
abbrev s_rows_of : Stmt := top 7
abbrev n_rows_of : List Str := ["block", "depth", "rows", "statement", "inner"]
theorem sc_rows_of : FnScope n_rows_of ["block", "depth"] (defScope s_rows_of) := ⟨rfl, rfl, rfl, by decide +kernel, rfl, by decide +kernel, by decide +kernel⟩
theorem ok_ro {f fB fS : Addr} {fd dB dS : FuncData} {d k0 : Nat} (F : Fun K "rows_of" "rows_of" s_rows_of f fd)
    (DB : Df K mg "blocks_of" s_blocks_of ["statement"] fB dB) (GB : FnOk P w K mg base CX0 1 fB dB ["statement"] spBO)
    (mS : mg "rows_of" = some (.ref fS)) (kS : PySem.W.keepIn K (.ref fS) = true) (bS : Binds K dS ["block", "depth"] []) (hk0 : 1 ≤ k0) (GS : FnOk P w K mg base CX0 k0 fS dS ["block", "depth"] (spRO' d)) : FnOk P w K mg base CX0 (k0 + 1) f fd ["block", "depth"] (spRO d) := by
  refine F.ok sc_rows_of (fun vs H Q E ⟨v, b, k, ev, _⟩ => by rw [ev]; rfl) (fun cdv A outer s0 H vs Q E hr ⟨v, b, k, ev, td, ok, hz, q⟩ => ?_)
  subst ev
  have hr1 : Room 1 _ := hr.mono hk0
  refine ⟨_, (pss_cons (ps_set (i := 2) sc_rows_of.nd rfl (.inl rfl) (pe_lst pa_nil))
      (pss_cons (ps_for PassesOwn.never rfl (pi_tup (pv 0)) (pg_name (i := 3) sc_rows_of.nd rfl (.inl rfl))
      (pss_cons (ps_expr (pe_bm PySem.F.plainAttrs_list PySem.F.slot_list_append PySem.F.type_list_append mt_append (pv 2) (pa_cons (pe_tup (pa_cons (pv 1) (pa_cons (pv 3) pa_nil))) pa_nil)))
      (pss_one (ps_for PassesOwn.never rfl (pi_tup (pe_call GB hr1 (by rfl) DB.m DB.F.kp DB.b .nil pass0 (pa_cons (pv 3) pa_nil))) (pg_name (i := 4) sc_rows_of.nd rfl (.inl rfl))
      (pss_one (ps_expr (pe_bm PySem.F.plainAttrs_list PySem.F.slot_list_extend PySem.F.type_list_extend mt_extend (pv 2) (pa_cons (pe_call GS hr (by rfl) mS kS bS .nil pass0 (pa_cons (pv 4) (pa_cons (pe_op op_addE (pv 1) pe_int) pa_nil))) pa_nil))))))))
      (pss_one (ps_ret (pv 2))))), ?_⟩
  obtain ⟨r0, xs, rfl, gr0, tds⟩ := td_tup td
  refine ⟨Nat.zero_le _, fun Ln nLn => ?_⟩
  have s1 := Same.up (o := HO.lst []) nLn
  have gL1 : upd H Ln (HO.lst []) Ln = some (.lst []) := upd_same
  have gr1 := s1 _ _ gr0
  have tdsa := TDs.ch (Ch.same (S := []) s1) _ _ tds
  generalize upd H Ln (HO.lst []) = H1 at s1 gL1 gr1 tdsa ⊢
  refine ⟨_, rfl, r0, rfl, ⟨_, SqT.of gr1⟩, for_tup (xs := xs) (fun j σ H' => Ch [Ln] H1 H' ∧ ∃ (acc : List V) (x3 x4 : Option V), H' Ln = some (.lst acc) ∧ TDs H' acc ((rowsP k (b.take j)).map rowD) ∧ σ = [some (.ref r0), some (.int (k : Int)), some (.ref Ln), x3, x4])
    ⟨Ch.refl _ _, [], none, none, gL1, .nil, rfl⟩ (fun j σ H' _ h => SqT.of (h.1.tu _ _ gr1)) ?_ ?_⟩
  · rintro j x σ H' hx ⟨ch, acc, x3, x4, gL, tda, rfl⟩
    obtain ⟨dt, edt, tdv⟩ := (TDs.ch ch _ _ tdsa).at hx
    rw [blkData_eq, List.getElem?_map] at edt
    obtain ⟨s, hs, rfl⟩ := Option.map_eq_some_iff.mp edt
    have oks := ok s (List.mem_of_getElem? hs)
    have szs := size_mem (List.mem_of_getElem? hs)
    have la : acc.length ≤ 10000 := by
      rw [tda.len, List.length_map, rowsP_len]
      exact Nat.le_trans (size_take b j) hz
    have step : rowsP k (b.take (j + 1)) = rowsP k (b.take j) ++ staRows k s := by
      rw [List.take_add_one, hs]
      exact rowsP_snoc k s _
    refine ⟨_, rfl, .inl ⟨rfl, _, SqL.of gL⟩, _, rfl, _, rfl, line1000 (Nat.le_of_ble_eq_true rfl), fun t0 n0 => ?_⟩
    have s2 := Same.up (o := HO.tup [V.int (k : Int), x]) n0
    have gt : upd H' t0 (HO.tup [V.int (k : Int), x]) t0 = some (.tup [V.int (k : Int), x]) := upd_same
    have gL2 := s2 _ _ gL
    have c2 := ch.trans (Ch.same (S := [Ln]) s2)
    have tda2 := TDs.ch (Ch.same (S := []) s2) _ _ tda
    have tdx2 := TD.ch (Ch.same (S := []) s2) _ _ tdv
    generalize upd H' t0 (HO.tup [V.int (k : Int), x]) = H2 at s2 gt gL2 c2 tda2 tdx2 ⊢
    refine ⟨Ln, _, _, rfl, rfl, gL2, lt_line (by omega), ?_⟩
    have c3 : Ch [Ln] H2 (upd H2 Ln (.lst (acc ++ [.ref t0]))) := (Ch.refl _ _).put (by simp) gL2 (fun xs z => by cases z)
    have gL3 : upd H2 Ln (.lst (acc ++ [.ref t0])) Ln = some (.lst (acc ++ [.ref t0])) := upd_same
    have tda3 : TDs (upd H2 Ln (.lst (acc ++ [.ref t0]))) (acc ++ [.ref t0]) ((rowsP k (b.take j) ++ [(k, s)]).map rowD) := by
      rw [List.map_append]
      exact (TDs.ch c3 _ _ tda2).snoc (.tup (c3.tu _ _ gt) (.cons (.int _) (.cons (TD.ch c3 _ _ tdx2) .nil)))
    have tdx3 := TD.ch c3 _ _ tdx2
    have c23 := c2.trans c3
    generalize upd H2 Ln (.lst (acc ++ [.ref t0])) = H3 at c3 gL3 tda3 tdx3 c23 ⊢
    refine ⟨_, rfl, x, s, rfl, tdx3, fun H4 p ps s4 gp tdp => ?_⟩
    have lps : ps.length = (partsOf s).length := by rw [tdp.len, List.length_map]
    refine ⟨p, rfl, ⟨_, SqT.of gp⟩, for_tup (xs := ps) (fun i σ H' => Ch [Ln] H4 H' ∧ ∃ (ac : List V) (x4 : Option V), H' Ln = some (.lst ac) ∧ TDs H' ac ((rowsP k (b.take j) ++ [(k, s)] ++ accR k (partsOf s) i).map rowD) ∧ σ = [some (.ref r0), some (.int (k : Int)), some (.ref Ln), some x, x4])
      ⟨Ch.refl _ _, acc ++ [.ref t0], x4, s4 _ _ gL3, ?_, rfl⟩ (fun i σ H' _ h => SqT.of (h.1.tu _ _ gp)) ?_ ?_⟩
    · show TDs H4 _ ((rowsP k (b.take j) ++ [(k, s)] ++ []).map rowD)
      rw [List.append_nil]
      exact TDs.ch (Ch.same (S := []) s4) _ _ tda3
    · rintro i y σ H5 hy ⟨c5, ac, y4, gL5, td5, rfl⟩
      obtain ⟨dp, edp, tdy⟩ := (TDs.ch c5 _ _ tdp).at hy
      rw [List.getElem?_map] at edp
      obtain ⟨pb, hpb, rfl⟩ := Option.map_eq_some_iff.mp edp
      obtain ⟨d', rfl, okb, szb⟩ := parts_nest oks hpb
      have lac : ac.length ≤ 20001 := by
        have e1 := accR_le k s i
        have e2 := rowsP_len k (b.take j)
        have e3 := size_take b j
        rw [td5.len, List.length_map, List.length_append, List.length_append]
        show _ + 1 + _ ≤ 20001
        omega
      refine ⟨_, rfl, .inl ⟨rfl, _, SqL.of gL5⟩, _, rfl, _, rfl, _, _, rfl, rfl, fun z ez => ⟨y, pb, k + 1, by rw [show z = ((k + 1 : Nat) : Int) by omega]; rfl, tdy, okb, by omega, fun H6 qa zs s6 nq gq tdq => ⟨Ln, qa, _, _, rfl, rfl, s6 _ _ gL5, gq, Nat.le_of_lt (lt_line (by
        have e4 := rowsP_len (k + 1) pb
        rw [tdq.len, List.length_map]
        omega)), ?_⟩⟩⟩
      have c7 : Ch [Ln] H6 (upd H6 Ln (.lst (ac ++ zs))) := (Ch.refl _ _).put (by simp) (s6 _ _ gL5) (fun xs z => by cases z)
      refine ⟨c5.trans ((Ch.same s6).trans c7), ac ++ zs, _, upd_same, ?_, rfl⟩
      rw [accR_succ hpb, ← List.append_assoc, List.map_append]
      exact TDs.ch c7 _ _ ((TDs.ch (Ch.same (S := []) s6) _ _ td5).append tdq)
    · rintro σ H5 ⟨c5, ac, y4, gL5, td5, rfl⟩
      refine ⟨c23.trans ((Ch.same s4).trans c5), ac, _, _, gL5, ?_, rfl⟩
      rw [lps] at td5
      rw [step, staRows_acc, ← List.singleton_append, ← List.append_assoc]
      exact td5
  · rintro σ H' ⟨ch, acc, x3, x4, gL, tda, rfl⟩
    have lx : xs.length = b.length := by rw [tds.len, blkData_eq, List.length_map]
    rw [lx, List.take_length] at tda
    refine ⟨_, rfl, q H' Ln acc ?_ nLn gL tda⟩
    exact (Ch.lessS (S := []) ((Ch.same s1).trans ch) (fun a z => .inr (by rw [List.mem_singleton.mp z]; exact nLn))).kp.toSame
theorem ok_roAll {f fB : Addr} {fd dB : FuncData} (D : Df K mg "rows_of" s_rows_of ["block", "depth"] f fd)
    (DB : Df K mg "blocks_of" s_blocks_of ["statement"] fB dB) (GB : FnOk P w K mg base CX0 1 fB dB ["statement"] spBO) : FnOk P w K mg base CX0 7 f fd ["block", "depth"] (spRO 5) := by
  have Z : FnOk P w K mg base CX0 1 f fd ["block", "depth"] (spRO' 0) := ⟨fun _ _ _ _ h => h.elim, fun _ _ _ _ _ _ _ _ _ _ _ _ _ h => h.elim⟩
  have B0 := ok_ro (d := 0) D.F DB GB D.m D.F.kp D.b (by decide) Z
  have B1 := ok_ro (d := 1) D.F DB GB D.m D.F.kp D.b (by decide) B0
  have B2 := ok_ro (d := 2) D.F DB GB D.m D.F.kp D.b (by decide) B1
  have B3 := ok_ro (d := 3) D.F DB GB D.m D.F.kp D.b (by decide) B2
  have B4 := ok_ro (d := 4) D.F DB GB D.m D.F.kp D.b (by decide) B3
  exact ok_ro (d := 5) D.F DB GB D.m D.F.kp D.b (by decide) B4
end
end G

set_option Elab.async false
set_option linter.all false
set_option maxRecDepth 100000
set_option maxHeartbeats 4000000
/-! each_statement; places; wishes. -/
namespace G
open PySem PySem.Spec PyProof.Rows L2
def esR (b : List Sta) : Nat → V → Hp → Prop := fun i x H' => ∃ (t : Addr) (u : V) (p : Nat × Sta), (rowsP 0 b)[i]? = some p ∧ x = .ref t ∧ H' t = some (.tup [.int (i : Int), .int (p.1 : Int), u]) ∧ TD H' u p.2.data
def spES : SpY := fun vs H n R Ed => ∃ (v : V) (g : Int) (b : List Sta), vs = [v] ∧ TD H v (.tuple [.int g, partD b]) ∧ (∀ s ∈ b, NestOk 5 s) ∧ sizeB b ≤ 10000 ∧ n = (rowsP 0 b).length ∧ R = esR b ∧ Ed = fun H' => Same H H'
section
variable {P : Program} {w : World} {K : PySem.W.Frag} {mg : Str → Option Value} {base : Heap}
abbrev s_each_statement : Stmt := top 8
abbrev n_each_statement : List Str := ["program", "place", "depth", "statement"]
theorem sc_each_statement : GScope n_each_statement ["program"] (defScope s_each_statement) := ⟨rfl, rfl, rfl, by decide +kernel, rfl, by decide +kernel, by decide +kernel⟩
theorem ok_es {f fR : Addr} {fd dR : FuncData} (F : Fun K "each_statement" "each_statement" s_each_statement f fd) (z_enum : mg "enumerate" = none)
    (DR : Df K mg "rows_of" s_rows_of ["block", "depth"] fR dR) (GR : FnOk P w K mg base CX0 7 fR dR ["block", "depth"] (spRO 5)) : GnOk P w K mg base 8 f fd ["program"] spES := by
  refine gen_def F sc_each_statement (fun vs H n R Ed ⟨v, g, b, ev, _⟩ => by rw [ev]; rfl) (fun cdv A outer s H vs n R Ed pn hr ⟨v, g, b, ev, td, ok, hz, en, eR, eE⟩ => ?_)
  subst ev en eR eE
  refine ⟨_, _, _, _, _, _, _, _, _, rfl, pi_enum (by rfl) z_enum (pa_cons (pe_call GR hr (by rfl) DR.m DR.F.kp DR.b .nil pass0 (pa_cons (pe_ix ix_tup (pv 0) pe_int (fun _ _ => rfl)) (pa_cons pe_int pa_nil))) pa_nil),
    pg_tup rfl (pgs_cons (pg_name (i := 1) sc_each_statement.nd rfl (.inl rfl)) (pgs_cons (pg_tup rfl (pgs_cons (pg_name (i := 2) sc_each_statement.nd rfl (.inl rfl)) (pgs_cons (pg_name (i := 3) sc_each_statement.nd rfl (.inl rfl)) pgs_nil))) pgs_nil)),
    pe_tup (pa_cons (pv 1) (pa_cons (pv 2) (pa_cons (pv 3) pa_nil))), fun _ => rfl, ?_⟩
  obtain ⟨r0, xs, rfl, gr0, e0⟩ := td_tup td
  obtain ⟨v1, ys, rfl, d1, e1⟩ := tds_cons e0
  cases d1
  obtain ⟨v2, rfl, d2⟩ := tds1 e1
  refine ⟨_, rfl, r0, _, _, _, rfl, rfl, SqT.of gr0, atI_nat (j := 1) rfl, v2, b, 0, rfl, d2, ok, hz, fun H2 pl zs s2 np gp tdz => ⟨pl, zs, rfl, SqL.of gp, fun i σ H' => i ≤ (rowsP 0 b).length ∧ Same H2 H' ∧ ∃ x1 x2 x3 : Option V, σ = [some (.ref r0), x1, x2, x3], ⟨Nat.zero_le _, Same.refl _, none, none, none, rfl⟩, ?_⟩⟩
  have lz : zs.length = (rowsP 0 b).length := by rw [tdz.len, List.length_map]
  rintro i σ H' ⟨hi, sm, x1, x2, x3, rfl⟩
  by_cases hlt : i < (rowsP 0 b).length
  · refine .inr ⟨hlt, ⟨zs, zs[i]'(by omega), SqL.of (sm _ _ gp), List.getElem?_eq_getElem (by omega)⟩, ?_⟩
    rintro v H3 ⟨T, x, rfl, nT, rfl, hx⟩
    have hx : zs[i]? = some x := hx zs (SqL.of (sm _ _ gp))
    have s3 := Same.up (o := HO.tup [V.int (i : Int), x]) nT
    have gT : upd H' T (HO.tup [V.int (i : Int), x]) T = some (.tup [V.int (i : Int), x]) := upd_same
    generalize upd H' T (HO.tup [V.int (i : Int), x]) = H3 at s3 gT ⊢
    obtain ⟨dt, edt, tdv⟩ := (TDs.ch (Ch.same (S := []) (Same.trans sm s3)) _ _ tdz).at hx
    rw [List.getElem?_map] at edt
    obtain ⟨p, hp, rfl⟩ := Option.map_eq_some_iff.mp edt
    obtain ⟨tx, xs2, rfl, gtx, ex⟩ := td_tup tdv
    obtain ⟨u1, xs3, rfl, du1, ex2⟩ := tds_cons ex
    cases du1
    obtain ⟨u2, rfl, du2⟩ := tds1 ex2
    refine ⟨T, _, rfl, SqT.of gT, rfl, _, _, rfl, _, _, rfl, ⟨tx, _, rfl, SqT.of gtx, rfl, _, _, rfl, _, _, rfl, rfl, rfl, ?_⟩⟩
    refine ⟨_, rfl, _, rfl, _, rfl, line1000 (Nat.le_of_ble_eq_true rfl), fun t nt => ⟨⟨t, u2, p, hp, rfl, upd_same, TD.ch (Ch.same (S := []) (Same.up nt)) _ _ du2⟩, hlt, Same.trans sm (Same.trans s3 (Same.up nt)), _, _, _, rfl⟩⟩
  · obtain rfl : i = (rowsP 0 b).length := by omega
    exact .inl ⟨rfl, ⟨zs, SqL.of (sm _ _ gp), by omega⟩, Same.trans s2 sm⟩
end
end G

set_option Elab.async false
set_option linter.all false
set_option maxRecDepth 100000
set_option maxHeartbeats 4000000
/-! The same generator defs, drained by list(..): what was handed out is remembered. -/
namespace G
open PySem PySem.Spec PyProof.Rows L2 GenW
section
variable {X : Cx} {S : Addr} {A : Around} {n : Nat}
theorem list_loop {tg e : Expr} {yp ypos : Pos} {g : TG} {te : TE} {J : It} {it : Addr} {fp : List Addr} {tn : Nat → Heap → Prop} {p0 : Pos} {Fx : Value → Sem Unit} {Ws : Nat → List V → L2.St → Hp → Prop} {Qe : List V → Hp → Prop} {K0 : Flow → Sem PySem.Fin} {Jx : Value → Sem PySem.Fin} {bd : List Stmt}
    (hK0 : K0 .next = .pure (.done (.ret .none)))
    (hxe : ∀ e s, ¬ X.xe e s) (hc : X.calm = true) (T : Turn X.prog X.w X.K tg J fp it tn) (hg : PG X tg g) (he : PE X e te) (hpn : ∀ p ∈ X.pn, p.1 ≠ S) (hap : Apart X S)
    (hA : A.deeper X.env = X.A) (hco : X.env.scope.isCoroutine = false) (hin : interactive X.env = false)
    (hfp : ∀ b ∈ fp, b ≠ X.env.locals ∧ b ∉ X.fs ∧ (b ∈ X.ex ∨ X.s_0.heap.objs.size ≤ b) ∧ (∀ x c, X.env.cells.lookup x = some c → c ≠ b) ∧ (∀ p ∈ X.pn, p.1 ≠ b) ∧ b ≠ S) (hnt : n < sizeLine)
    (step : ∀ i ys σ H, Ws i ys σ H → (i = n ∧ J.stop i H ∧ Qe ys H) ∨ (i < n ∧ J.go i H ∧ ∀ x H', J.yld i H x H' → g x σ H' fun σ2 H2 => te σ2 H2 fun y H3 => Ws (i + 1) (ys ++ [y]) σ2 H3)) :
    ∀ (k i m : Nat) (s₀ s : Shared) (σ : L2.St) (H : Hp) (ys : List V) (ip : List (Addr × Obj)), k + i = n → ys.length = i → m + i = sizeLine → (∀ p ∈ ip, p.1 ≠ S ∧ (p.1 ∈ fp)) → Ws i ys σ H → GI X S ip ys σ H s → tn i s.heap → (∀ b ∈ fp, H b = none) →
      Seg (model X.prog X.w) A (GR X S (fun ys v H => v = .non ∧ Qe ys H) fun _ _ => False) (GY X S) m s₀ (.forLoop tg (.ref it) [.Expr (.Yield (some e) yp) ypos] [] X.env) ((model X.prog X.w).den (.forLoop tg (.ref it) [.Expr (.Yield (some e) yp) ypos] [] X.env))
        [.ret (fun r => ((match r with | .ok f => (.pure f : Sem Flow) | .error e => .raise e).onRaise Fx).wrap K0 Jx id id) none (id false) (id []) (.func bd X.env) p0 []] s := by
  intro k
  have ov : ∀ {kk : Result → Sem PySem.Fin} {c' : Code}, c'.weight = 0 → c'.cUnits = 0 → A.over c' [.ret kk none (id false) (id []) (.func bd X.env) p0 []] = X.A := fun hw hu => (over_loop hw hu).trans (over_func.trans hA)
  have drop : ∀ {ip : List (Addr × Obj)} {acc : Array Value} {c : Nat} {σ : L2.St} {H : Hp} {s : Shared}, Inv X ((S, lstObj acc c) :: ip) σ H s → Inv X [(S, lstObj acc c)] σ H s := fun I => I.pins_of fun p hp => I.pin p (List.mem_append_right _ (by rw [List.mem_singleton.mp hp]; exact List.mem_cons_self))
  have stat : ∀ {acc : Array Value} {c : Nat} {H : Hp}, (∀ b ∈ fp, H b = none) → ∀ b ∈ fp, FpOk X [(S, lstObj acc c)] H b := fun {acc c H} hn b hb => by
    obtain ⟨f1, f2, f3, f4, f5, f6⟩ := hfp b hb
    refine ⟨hn b hb, f1, f2, f3, f4, fun p hp => ?_⟩
    rcases List.mem_append.mp hp with q | q
    · exact f5 p q
    · rw [List.mem_singleton.mp q]; exact fun z => f6 z.symm
  induction k with
  | zero =>
    intro i m s₀ s σ H ys ip hi hl hm hip hW ⟨acc, c, ra, I⟩ st fr
    rcases step i ys σ H hW with ⟨ei, stop, ed⟩ | ⟨lt, _⟩
    · refine seg_turn (Kx := _) (fun f => rfl) ?_
      rw [ov rfl rfl]
      refine nofail (wpAny_mono (T.done X rfl rfl rfl hc i _ s σ H (fun _ _ => False) (drop I) (stat fr) st stop) (fun r s1 ⟨hr, I1⟩ => ?_) fun _ _ z => z)
      subst hr
      refine seg_leaf (.ok .next) ?_
      show Seg _ _ _ _ _ _ _ (K0 .next) _ _
      rw [hK0]
      exact seg_end (.ok (.ret .none)) ⟨ys, .non, [], σ, H, by omega, ⟨acc, c, ra, I1⟩, rfl, rfl, ed⟩
    · omega
  | succ k ih =>
    intro i m s₀ s σ H ys ip hi hl hm hip hW ⟨acc, c, ra, I⟩ st fr
    rcases step i ys σ H hW with ⟨ei, _⟩ | ⟨lt, go, nxt⟩
    · omega
    obtain ⟨m, rfl⟩ : ∃ m', m = m' + 1 := ⟨m - 1, by omega⟩
    refine seg_turn (Kx := _) (fun f => rfl) ?_
    rw [ov rfl rfl]
    refine nofail (wpAny_mono (T.item X rfl rfl rfl hc i _ s σ H (fun _ _ => False) (drop I) (stat fr) st go) (fun r s1 ⟨u, hr, h1⟩ => ?_) fun _ _ z => z)
    subst hr
    refine nofail (wpAny_mono h1 (fun _ s2 ⟨x, H2, I2, r2, y2, st2, fr2⟩ => ?_) fun _ _ z => z)
    have I2' := I2.pinned (stat fr2) (T.obj _ _ st2)
    refine wpAny_mono (hg.run _ s2 σ H2 x u _ I2' r2 (nxt x H2 y2)) (fun _ s3 ⟨σ3, H3, I3, q3⟩ => ?_) fun e s z => hxe e s z
    intro Hx
    refine seg_execs_cons ?_
    refine seg_Expr_Yield rfl rfl rfl ?_ hco hin
    rw [ov rfl rfl]
    refine wpAny_mono (he.run _ s3 σ3 H3 _ I3 q3) (fun v s4 ⟨y, H4, I4, r4, w4⟩ => ?_) fun e s z => (hxe e s z).elim
    intro kap hk
    have hip' : ∀ p ∈ pinsAt fp s2.heap, p.1 ≠ S ∧ p.1 ∈ fp := fun p hp => ⟨(hfp _ (of_pinsAt hp).1).2.2.2.2.2, (of_pinsAt hp).1⟩
    have G4 : GI X S (pinsAt fp s2.heap) ys σ3 H4 s4 := ⟨acc, c, ra, I4⟩
    refine ⟨ys, y, _, σ3, H4, by omega, r4, G4, fun s5 rs => hk .none s5 ?_⟩
    have G5 := G4.woken hpn (fun p hp => (hip' p hp).1) hap r4 rs
    have pin5 : ∀ b ∈ fp, ∀ o, s2.heap.get? b = some o → s5.heap.get? b = some o ∧ H4 b = none := fun b hb o eo =>
      let ⟨_, _, _, I5⟩ := G5
      let z := I5.pin (b, o) (List.mem_append_right _ (List.mem_cons_of_mem _ (mem_pinsAt hb eo)))
      ⟨z.1, z.2.1⟩
    refine seg_again rfl (ih (i + 1) m s5 s5 σ3 H4 (ys ++ [y]) _ (by omega) (by rw [List.length_append, hl]; rfl) (by omega) hip' w4 G5 (T.keep _ _ _ st2 fun b hb o eo => (pin5 b hb o eo).1) fun b hb => ?_)
    obtain ⟨o, eo, _⟩ := T.obj _ _ st2 b hb
    exact (pin5 b hb o eo).2
end
end G

set_option Elab.async false
set_option linter.all false
set_option maxRecDepth 100000
set_option maxHeartbeats 4000000
/-! Such a generator def's promise to list(..). -/
namespace G
open PySem PySem.Spec PyProof.Rows L2 GenW
def OneLoopL (X : Cx) (bd : List Stmt) (σ0 : L2.St) (H : Hp) (Qe : List V → Hp → Prop) : Prop := ∃ (n : Nat) (tg iter e : Expr) (yp ypos pos : Pos) (wi : TI) (g : TG) (te : TE), n < sizeLine ∧ bd = [.For tg iter [.Expr (.Yield (some e) yp) ypos] [] pos] ∧
  PI X tg iter wi ∧ PG X tg g ∧ PE X e te ∧ (∀ x, foldedSetIterable iter X.env x = pure x) ∧ wi σ0 H fun J H1 => ∃ Ws : Nat → List V → L2.St → Hp → Prop, Ws 0 [] σ0 H1 ∧
    ∀ i ys σ H, Ws i ys σ H → (i = n ∧ J.stop i H ∧ Qe ys H) ∨ (i < n ∧ J.go i H ∧ ∀ x H', J.yld i H x H' → g x σ H' fun σ2 H2 => te σ2 H2 fun y H3 => Ws (i + 1) (ys ++ [y]) σ2 H3)
theorem gfn_def {P : Program} {w : World} {K : PySem.W.Frag} {mg : Str → Option Value} {base : Heap} {x qual : Str} {st : Stmt} {f : Addr} {fd : FuncData} {N ps : List Str} {k : Nat} {sp : SpG} (F : Fun K x qual st f fd) (S : GScope N ps (defScope st))
    (len : ∀ vs H Q E, sp vs H Q E → vs.length = ps.length)
    (body : ∀ (cdv : Value) (A : Around) (outer : List Env) (s : Shared) (H : Hp) (vs : List V) (Q : List V → Hp → Prop) (E : XK) (pn : List (Addr × Obj)), Room k (A.deeper (envOfC qual (defScope st) s.heap.objs.size f cdv)) → sp vs H Q E →
      OneLoopL (gx P w K mg base N qual (defScope st) f cdv A outer s H pn) (defBody st) (start N vs) H Q) : GFn P w K mg base (k + 1) f fd ps sp := by
  obtain ⟨oc, od, kV, doc, pm, an, cdv, ct, osl, rfl, lk, hcd⟩ := F.ex
  refine ⟨len, fun A outer s H args us vs Q E hr e0 hb r hsp => ?_⟩
  have nvs := len _ _ _ _ hsp
  have old : ∀ b o, base.get? b = some o → s.heap.get? b = some o := fun b o e => (e0.bs b o e).1
  have kin : K.In s.heap := e0.mod.kin.keeps old
  have nol : s.heap.NoLimit := e0.mod.nolimit.keeps old
  have kinds : ∀ y ∈ ps.zip us, (defScope st).names.lookup y.1 = some .local ∨ ((defScope st).names.lookup y.1 = some .cell ∧
      ((cellsFrom (s.heap.objs.size + 1) (defScope st).names []).lookup y.1).isSome = true) := by
    rintro ⟨z, v⟩ hy
    cases S.par z (List.of_mem_zip hy).1 with
    | inl q => exact Or.inl q
    | inr q => exact Or.inr ⟨q, PySem.W.cellsFrom_some _ _ _ (Or.inl q)⟩
  refine codeAny_call_generator hr.depth (kin _ _ lk) rfl S.co S.gen rfl (PySem.W.codeRec_of kin hcd) (hb _ _ _ _ ?_)
  refine wpAny_newFunctionEnv_cells S.kind kinds fun env he s1 x1 => ?_
  subst he
  refine ⟨nol.keeps x1.toInCall.keep, ?_⟩
  have grow : ∀ b o, s.heap.get? b = some o → s1.heap.get? b = some o := x1.toInCall.keep
  have above : s.heap.objs.size < s1.heap.objs.size := x1.toInCall.ns.lt
  obtain ⟨os1, gens1⟩ : s1.os = s.os ∧ s1.gens = s.gens := by
    obtain ⟨_, _, z, _⟩ := x1.done
    rw [z]
    exact ⟨rfl, rfl⟩
  have made : ∀ (og : Obj) (v1 v2 : Value) (tt : Nat), og.cls = .type "generator" → og.data = .fields #[.int s1.gens.size 0, v1, v2] → og.slots = #[] → (∀ hp : Heap, (hp.push og).get? hp.objs.size = some og) →
      GMade P w (k + 1) outer H s [] Q E (.ref s1.heap.objs.size) { s1 with gens := s1.gens.push (.fresh (.func (defBody st) (envOfC qual (defScope st) s.heap.objs.size f cdv))), toks := tt, heap := s1.heap.push og } := by
    intro og v1 v2 tt c1 c2 c3 c4
    have is : ∀ {hp : Heap}, hp.get? s1.heap.objs.size = some og → hp.IsGen s1.heap.objs.size s1.gens.size := fun {hp} e => ⟨og, v1, v2, e, c1, c2, c3⟩
    refine ⟨_, _, _, rfl, Nat.le_of_lt above, ?_, is (c4 _), Array.getElem?_push_size .., os1, AllBare.push (by rw [gens1]; exact e0.bare) rfl, (nol.keeps grow).keeps fun b o e => Heap.get?_push_of_some _ e, fun b o e => Heap.get?_push_of_some _ (grow b o e), ?_⟩
    · show _ < (s1.heap.push og).objs.size
      rw [Heap.size_push]
      exact Nat.lt_succ_self _
    intro B D s2 roomB framesB youngD keep2 objD os2 bare2
    have e0B : Env0 P w K mg base B outer s H := { frames := framesB, mod := e0.mod, bs := e0.bs, bsz := e0.bsz, funs := e0.funs, frf := e0.frf, hok := e0.hok, bare := e0.bare }
    have Ia := inv_startG (E := E0) S roomB.hd e0B nvs r x1
    have at2 : s2.heap.get? s1.heap.objs.size = some og := keep2 _ _ (c4 _)
    have Ib := Ia.call' (s' := s2) (ch := []) (os2.trans os1.symm) (Un.kept fun b o e => keep2 b o (Heap.get?_push_of_some _ e)) (Ia.hok.kept fun b o e => keep2 b o (Heap.get?_push_of_some _ e)) bare2 (fun b z => nomatch z)
    have fresh1 : ∀ b, s1.heap.objs.size ≤ b → H b = none ∧ b ≠ s.heap.objs.size ∧ b ∉ frs outer ∧ s.heap.objs.size ≤ b ∧ ∀ y c, (cellsFrom (s.heap.objs.size + 1) (defScope st).names []).lookup y = some c → c ≠ b := fun b hb =>
      ⟨Ia.hok.fresh hb, Nat.ne_of_gt (Nat.lt_of_lt_of_le above hb), Ia.nofs hb, Nat.le_trans (Nat.le_of_lt above) hb, fun y c e z => by
        obtain ⟨vv, ob, ho, _⟩ := Ia.cell y c e
        exact absurd (Nat.lt_of_lt_of_le (Heap.lt_size ho) (z ▸ hb)) (Nat.lt_irrefl _)⟩
    have up : s1.heap.objs.size + 1 ≤ D := by
      have q : (s1.heap.push og).objs.size ≤ D := youngD
      rw [Heap.size_push] at q
      exact q
    obtain ⟨cD, eD⟩ := objD
    obtain ⟨d1, d2, d3, d4, d5⟩ := fresh1 D (Nat.le_of_succ_le up)
    have I : Inv (gx P w K mg base N qual (defScope st) f cdv B outer s H [(s1.heap.objs.size, og)]) [(D, lstObj #[] cD)] (start N vs) H s2 := gx_inv Ib fun p hp => by
      rcases List.mem_append.mp hp with q | q
      · rw [List.mem_singleton.mp q]
        obtain ⟨y1, y2, y3, _⟩ := fresh1 _ (Nat.le_refl s1.heap.objs.size)
        exact ⟨at2, y1, y2, y3, fun v z => by rw [c2] at z; cases z⟩
      · rw [List.mem_singleton.mp q]
        exact ⟨eD, d1, d2, d3, fun v z => by cases z⟩
    have neD : s1.heap.objs.size ≠ D := fun z => Nat.not_succ_le_self _ (Nat.le_trans up (Nat.le_of_eq z.symm))
    have hpn : ∀ p ∈ [(s1.heap.objs.size, og)], p.1 ≠ D := fun p hp => by rw [List.mem_singleton.mp hp]; exact neD
    obtain ⟨n, tg, iter, e, yp, ypos, pos, wi, g, te, few, eb, hi, hg, he, hf, hw⟩ := body cdv B outer s H vs Q E [(s1.heap.objs.size, og)] (roomB.deeper _) hsp
    have Gen : ∀ {ip : List (Addr × Obj)} {acc : Array Value} {c : Nat} {σ' : L2.St} {H' : Hp} {s' : Shared}, Inv (gx P w K mg base N qual (defScope st) f cdv B outer s H [(s1.heap.objs.size, og)]) ((D, lstObj acc c) :: ip) σ' H' s' → s'.heap.IsGen s1.heap.objs.size s1.gens.size := fun J => is (J.pin (s1.heap.objs.size, og) (List.mem_append_left _ (List.mem_singleton.mpr rfl))).1
    refine seg_imp (R := GR (gx P w K mg base N qual (defScope st) f cdv B outer s H [(s1.heap.objs.size, og)]) D (fun ys v H' => v = .non ∧ Q ys H') fun _ _ => False) (Y := GY (gx P w K mg base N qual (defScope st) f cdv B outer s H [(s1.heap.objs.size, og)]) D) (fun m s₀ rr sx hR => ?_) (fun m s₀ v sx kap kap' up' hY => ?_) sizeLine ?_
    · rcases rr with _ | fl
      · exact False.elim hR
      cases fl with
      | ret u =>
        obtain ⟨ys, v, ip, σ', H', hn, hI, rv, ev, hQ⟩ := hR
        subst ev
        obtain rfl : u = Value.none := rv
        obtain ⟨a1, _, _, acc, cc, ra, ea⟩ := hI.at
        obtain ⟨_, _, _, J⟩ := hI
        exact .inl ⟨.inl rfl, H', ys, acc, cc, J.os, J.bare, J.base, J.hok, a1, ea, ra, by omega, hQ⟩
      | _ => exact False.elim hR
    · obtain ⟨ys, xx, ip, σ', H', hn, h2, hI, h3⟩ := hY
      obtain ⟨_, _, _, acc, cc, ra, ea⟩ := hI.at
      obtain ⟨_, _, _, J⟩ := hI
      have sz : acc.size = ys.length := ra.length.symm.trans rfl ▸ (by simpa using ra.length.symm)
      exact ⟨J.os, J.bare, J.nolimit, Gen J, ⟨acc, cc, ea, by rw [sz]; exact hn⟩, fun s' z => up' _ _ (h3 s' z)⟩
    · rw [eb]
      refine seg_func (seg_execs_cons (seg_forStmt hf ?_))
      rw [over_func]
      refine wpAny_mono (hi.run _ s2 (start N vs) H _ I hw) (fun xv s3 h3 => wpAny_mono h3 (fun itv s4 h4 => ?_) fun _ _ q => q) fun _ _ q => q
      obtain ⟨it, fp, tn, J, H4, ei, I4, T, st4, f4, Ws, w0, step⟩ := h4
      subst ei
      intro p0 Fx
      refine list_loop rfl (fun _ _ q => q) rfl T hg he hpn ⟨d4, d2, d5⟩ rfl S.co (by show ((defScope st).kind == .module && _) = false; rw [S.kind]; rfl) (fun b hb => ?_) few step n 0 sizeLine s2 s4 _ H4 [] [] (Nat.add_zero _) rfl (Nat.add_zero _) (fun p hp => absurd hp List.not_mem_nil) w0 ⟨#[], cD, .nil, I4⟩ st4 fun b hb => (f4 b hb).1
      obtain ⟨f0, f1, f2, f3, f5, f6⟩ := f4 b hb
      exact ⟨f1, f2, f3, f5, fun p hp => f6 p (List.mem_append_left _ hp), fun z => f6 (D, lstObj #[] cD) (List.mem_append_right _ (List.mem_singleton.mpr rfl)) z.symm⟩
  exact made _ _ _ _ rfl rfl rfl fun hp => Heap.get?_push_size _ rfl
end G

set_option Elab.async false
set_option linter.all false
set_option maxRecDepth 100000
set_option maxHeartbeats 4000000
/-! each_statement, drained by list(..). -/
namespace G
open PySem PySem.Spec PyProof.Rows L2
/-- the rows (place, depth, statement) from place i on, as data -/
def plD (i : Nat) (p : Nat × Sta) : PyData := .tuple [.int (i : Int), .int (p.1 : Int), p.2.data]
def rowsD : Nat → List (Nat × Sta) → List PyData
  | _, [] => []
  | i, p :: r => plD i p :: rowsD (i + 1) r
theorem rowsD_len : ∀ (i : Nat) (l : List (Nat × Sta)), (rowsD i l).length = l.length
  | _, [] => rfl
  | i, p :: r => congrArg (· + 1) (rowsD_len (i + 1) r)
theorem rowsD_snoc : ∀ (i : Nat) (l : List (Nat × Sta)) (p : Nat × Sta), rowsD i (l ++ [p]) = rowsD i l ++ [plD (i + l.length) p]
  | _, [], _ => rfl
  | i, x :: r, p => by
    show plD i x :: rowsD (i + 1) (r ++ [p]) = _
    rw [rowsD_snoc (i + 1) r p]
    show _ = plD i x :: (rowsD (i + 1) r ++ [plD (i + (r.length + 1)) p])
    rw [show i + 1 + r.length = i + (r.length + 1) from by omega]
theorem rowsD_take {l : List (Nat × Sta)} {i : Nat} {p : Nat × Sta} (e : l[i]? = some p) : rowsD 0 (l.take (i + 1)) = rowsD 0 (l.take i) ++ [plD i p] := by
  have lt : i < l.length := (List.getElem?_eq_some_iff.mp e).1
  rw [List.take_add_one, e]
  show rowsD 0 (l.take i ++ [p]) = _
  rw [rowsD_snoc, List.length_take, Nat.zero_add, Nat.min_eq_left (Nat.le_of_lt lt)]
def spEL : SpG := fun vs H Q E => ∃ (v : V) (g : Int) (b : List Sta), vs = [v] ∧ TD H v (.tuple [.int g, partD b]) ∧ (∀ s ∈ b, NestOk 5 s) ∧ sizeB b ≤ 10000 ∧ ∀ (H' : Hp) (out : List V), Same H H' → TDs H' out (rowsD 0 (rowsP 0 b)) → Q out H'
section
variable {P : Program} {w : World} {K : PySem.W.Frag} {mg : Str → Option Value} {base : Heap}
theorem ok_el {f fR : Addr} {fd dR : FuncData} (F : Fun K "each_statement" "each_statement" s_each_statement f fd) (z_enum : mg "enumerate" = none)
    (DR : Df K mg "rows_of" s_rows_of ["block", "depth"] fR dR) (GR : FnOk P w K mg base CX0 7 fR dR ["block", "depth"] (spRO 5)) : GFn P w K mg base 8 f fd ["program"] spEL := by
  refine gfn_def F sc_each_statement (fun vs H Q E ⟨v, g, b, ev, _⟩ => by rw [ev]; rfl) (fun cdv A outer s H vs Q E pn hr ⟨v, g, b, ev, td, ok, hz, q⟩ => ?_)
  subst ev
  have lz0 : (rowsP 0 b).length ≤ 10000 := by rw [rowsP_len]; exact hz
  refine ⟨(rowsP 0 b).length, _, _, _, _, _, _, _, _, _, lt_line (by omega), rfl, pi_enum (by rfl) z_enum (pa_cons (pe_call GR hr (by rfl) DR.m DR.F.kp DR.b .nil pass0 (pa_cons (pe_ix ix_tup (pv 0) pe_int (fun _ _ => rfl)) (pa_cons pe_int pa_nil))) pa_nil),
    pg_tup rfl (pgs_cons (pg_name (i := 1) sc_each_statement.nd rfl (.inl rfl)) (pgs_cons (pg_tup rfl (pgs_cons (pg_name (i := 2) sc_each_statement.nd rfl (.inl rfl)) (pgs_cons (pg_name (i := 3) sc_each_statement.nd rfl (.inl rfl)) pgs_nil))) pgs_nil)),
    pe_tup (pa_cons (pv 1) (pa_cons (pv 2) (pa_cons (pv 3) pa_nil))), fun _ => rfl, ?_⟩
  obtain ⟨r0, xs, rfl, gr0, e0⟩ := td_tup td
  obtain ⟨v1, ys, rfl, d1, e1⟩ := tds_cons e0
  cases d1
  obtain ⟨v2, rfl, d2⟩ := tds1 e1
  refine ⟨_, rfl, r0, _, _, _, rfl, rfl, SqT.of gr0, atI_nat (j := 1) rfl, v2, b, 0, rfl, d2, ok, hz, fun H2 pl zs s2 np gp tdz => ⟨pl, zs, rfl, SqL.of gp, fun i acc σ H' => i ≤ (rowsP 0 b).length ∧ Same H2 H' ∧ TDs H' acc (rowsD 0 ((rowsP 0 b).take i)) ∧ ∃ x1 x2 x3 : Option V, σ = [some (.ref r0), x1, x2, x3], ⟨Nat.zero_le _, Same.refl _, .nil, none, none, none, rfl⟩, ?_⟩⟩
  have lz : zs.length = (rowsP 0 b).length := by rw [tdz.len, List.length_map]
  rintro i acc σ H' ⟨hi, sm, tda, x1, x2, x3, rfl⟩
  by_cases hlt : i < (rowsP 0 b).length
  · refine .inr ⟨hlt, ⟨zs, zs[i]'(by omega), SqL.of (sm _ _ gp), List.getElem?_eq_getElem (by omega)⟩, ?_⟩
    rintro v H3 ⟨T, x, rfl, nT, rfl, hx⟩
    have hx : zs[i]? = some x := hx zs (SqL.of (sm _ _ gp))
    have s3 := Same.up (o := HO.tup [V.int (i : Int), x]) nT
    have gT : upd H' T (HO.tup [V.int (i : Int), x]) T = some (.tup [V.int (i : Int), x]) := upd_same
    have tda := TDs.ch (Ch.same (S := []) s3) _ _ tda
    generalize upd H' T (HO.tup [V.int (i : Int), x]) = H3 at s3 gT tda ⊢
    obtain ⟨dt, edt, tdv⟩ := (TDs.ch (Ch.same (S := []) (Same.trans sm s3)) _ _ tdz).at hx
    rw [List.getElem?_map] at edt
    obtain ⟨p, hp, rfl⟩ := Option.map_eq_some_iff.mp edt
    obtain ⟨tx, xs2, rfl, gtx, ex⟩ := td_tup tdv
    obtain ⟨u1, xs3, rfl, du1, ex2⟩ := tds_cons ex
    cases du1
    obtain ⟨u2, rfl, du2⟩ := tds1 ex2
    refine ⟨T, _, rfl, SqT.of gT, rfl, _, _, rfl, _, _, rfl, ⟨tx, _, rfl, SqT.of gtx, rfl, _, _, rfl, _, _, rfl, rfl, rfl, ?_⟩⟩
    refine ⟨_, rfl, _, rfl, _, rfl, line1000 (Nat.le_of_ble_eq_true rfl), fun t nt => ⟨hlt, Same.trans sm (Same.trans s3 (Same.up nt)), ?_, _, _, _, rfl⟩⟩
    rw [rowsD_take hp]
    exact (TDs.ch (Ch.same (S := []) (Same.up nt)) _ _ tda).snoc (.tup upd_same (.cons (.int _) (.cons (.int _) (.cons (TD.ch (Ch.same (S := []) (Same.up nt)) _ _ du2) .nil))))
  · obtain rfl : i = (rowsP 0 b).length := by omega
    rw [List.take_length] at tda
    exact .inl ⟨rfl, ⟨zs, SqL.of (sm _ _ gp), by omega⟩, q _ _ (Same.trans s2 sm) tda⟩
end
end G

set_option Elab.async false
set_option linter.all false
set_option maxRecDepth 100000
set_option maxHeartbeats 4000000
/-! Sets of texts: set(xs) of a list of texts; sorted of such a set. -/
noncomputable section
namespace G
open PySem PySem.Spec PyProof.Rows L2
/-- the set at a holds the texts l, all unlike -/
def TxSet (P : Program) (w : World) (h : Heap) (a : Addr) (l : List Str) : Prop :=
  ∃ D : Froz.SD, h.get? a = some (Froz.sObj "set" D) ∧ Froz.TxOk P w D l ∧ Ris D.2.2.place.toList ∧ (w.params.followText "set-order" = true ∨ D.2.2.led = true) ∧ l.Nodup
def putT (l : List Str) (k : Str) : List Str := if k ∈ l then l else k :: l
section
variable {P : Program} {w : World} {A : Around} {E : Value → Shared → Prop} {s : Shared} {h h' : Heap} {a : Addr} {l : List Str}
theorem TxSet.keep (R : TxSet P w h a l) (k : ∀ o, h.get? a = some o → h'.get? a = some o) : TxSet P w h' a l :=
  let ⟨D, e, r⟩ := R
  ⟨D, k _ e, r⟩
theorem putT_len (l : List Str) (k : Str) : (putT l k).length ≤ l.length + 1 := by unfold putT; split <;> simp
theorem putT_nd (l : List Str) (k : Str) (n : l.Nodup) : (putT l k).Nodup := by
  unfold putT; split
  · exact n
  · rename_i c; exact List.nodup_cons.mpr ⟨c, n⟩
theorem putT_mem (l : List Str) (k x : Str) : x ∈ putT l k ↔ x ∈ l ∨ x = k := by
  unfold putT; split
  · rename_i c; exact ⟨.inl, fun z => z.elim id fun e => e ▸ c⟩
  · rw [List.mem_cons]; exact Or.comm
theorem tail_ris (ep : Nat) (es : Array (Int × Value)) (t : SetTable) (b : Bool) (r : Ris t.place.toList) : Ris (Froz.tailTx ep es t b).2.2.place.toList := by
  unfold Froz.tailTx; split
  · exact relayAll_ris _ _ _
  · exact r
theorem tail_led (ep : Nat) (es : Array (Int × Value)) (t : SetTable) (b : Bool) : (Froz.tailTx ep es t b).2.2.led = t.led := by
  unfold Froz.tailTx; split
  · exact relayAll_led _ _ _
  · rfl
theorem txs_add {k : Str} {u : Tok} {Q : Bool → Shared → Prop} (R : TxSet P w s.heap a l) (hb : l.length + 1 < scanBound)
    (hq : ∀ b H', Heap.SameBut a s.heap H' → TxSet P w H' a (putT l k) → Q b { s with heap := H' }) : wpAny (model P w) A (setAddHashed a (.str k u) (hashStr w k)) Q E s := by
  obtain ⟨D, ho, F, r, ld, nd⟩ := R
  by_cases hk : k ∈ l
  · obtain ⟨es, ep, t⟩ := D
    have hd : (Froz.sObj "set" (es, ep, t)).data = .set es ep t := rfl
    have key : (strKind P w).is k (.str k u) = true := Froz.is_str k u
    have few : es.size < scanBound := by have := F.sz; dsimp only at this; omega
    unfold setAddHashed setAddHashedIn; refine wpAny_holding (wpAny_bind (wpAny_setState_of ho hd F.fit ?_))
    dsimp only; rw [byScan_of (x := .str k u) rfl few F.el]
    simp only [↓reduceIte]
    unfold setAddByScan; refine wpAny_bind (wpAny_bind (wpAny_rule (wpAny_bind (wpAny_setScan_of key ho hd F.fit F.el ?_))))
    cases e : List.findIdx? (fun e => (strKind P w).is k e.2) es.toList with
    | none =>
      obtain ⟨x, hx, c⟩ := (F.mem k).mp hk
      have z := List.findIdx?_eq_none_iff.mp e x hx
      rw [c] at z; cases z
    | some j =>
      dsimp only
      refine wpAny_pure (wpAny_pure (hq _ s.heap (Heap.SameBut.refl a s.heap) ?_))
      rw [putT, if_pos hk]
      exact ⟨_, ho, F, r, ld, nd⟩
  · refine Froz.add_x ho F hk hb (hq _ _ (Heap.SameBut.update s.heap a _) ⟨_, Froz.get_upd _ ho rfl, ?_, ?_, ?_, putT_nd l k nd⟩)
    · rw [putT, if_neg hk]; exact Froz.add_ok u F
    · unfold Froz.addTx; refine tail_ris _ _ _ _ ?_
      have z := layNew_ris D.2.2 D.1 (hashStr w k) (.str k u) r
      split <;> exact z
    · refine ld.imp id fun z => ?_
      have e := layNew_led D.2.2 D.1 (hashStr w k) (.str k u)
      unfold Froz.addTx; rw [tail_led]
      split
      · show (layNew D.2.2 D.1 (hashStr w k) (.str k u)).2.1.led = true
        rw [e]; exact z
      · rw [e]; exact z
end
/-- the texts met so far -/
def metT (xs : List Str) (i : Nat) : List Str := (xs.take i).foldl putT []
theorem metT_len (xs : List Str) : ∀ i, (metT xs i).length ≤ i
  | 0 => Nat.le_refl _
  | i + 1 => by
    unfold metT; rw [List.take_add_one, List.foldl_append]
    have ih := metT_len xs i
    unfold metT at ih
    cases xs[i]? with
    | none => exact Nat.le_succ_of_le ih
    | some x => exact Nat.le_trans (putT_len _ _) (Nat.succ_le_succ ih)
theorem metT_succ {xs : List Str} {i : Nat} {x : Str} (e : xs[i]? = some x) : metT xs (i + 1) = putT (metT xs i) x := by
  unfold metT; rw [List.take_add_one, List.foldl_append, e]; rfl
theorem fold_mem (xs : List Str) : ∀ (l : List Str) (k : Str), k ∈ xs.foldl putT l ↔ k ∈ l ∨ k ∈ xs := by
  induction xs with
  | nil => intro l k; simp
  | cons x xs ih => intro l k; rw [List.foldl_cons, ih, putT_mem, List.mem_cons, or_assoc]
theorem fold_nd (xs : List Str) : ∀ l : List Str, l.Nodup → (xs.foldl putT l).Nodup := by
  induction xs with
  | nil => intro l h; exact h
  | cons x xs ih => intro l h; exact ih _ (putT_nd l x h)
section
variable {P : Program} {w : World} {A : Around} {I : Addr} {fp wr : List Addr} {G : Array GenState → Array GenState → Prop} {n : Nat} {Pv : Nat → Value → Prop} {St : Nat → Shared → Prop} {R : Result → Shared → Prop}
theorem upd_loopT (W : WalksS P w A.in1 I fp wr G n Pv St) (S : Addr) (nS : S ∉ fp) (xs : List Str) (hb : n + 1 < scanBound) (val : ∀ i v, Pv i v → ∃ x t, xs[i]? = some x ∧ v = .str x t) :
    ∀ (m i : Nat) (s : Shared), n - i = m → i ≤ n → St i s → TxSet P w s.heap S (metT xs i) →
      (∀ s', Moved (S :: wr) G s s' → TxSet P w s'.heap S (metT xs n) → R (.ok (.ret .none)) s') → codeAny (model P w) A (.builtin "set.update.loop" ⟨[.ref S, .ref I], []⟩) R s
  | 0, i, s, hm, hi, st, T, fin => by
    obtain rfl : i = n := by omega
    have nW : S ∉ wr := fun z => nS (W.sub _ z)
    refine codeAny_builtin F.entry_set_update_loop ?_; rw [Around.under_plainId F.plain_set_update_loop _]
    change wpAny _ A.in1 (pyNext (.ref I) >>= _) _ _ s; refine wpAny_bind (W.done s _ _ st fun s' mv => ?_)
    change wpAny _ A.in1 (ret Value.none) _ _ s'; exact wpAny_pure (fin s' (mv.mono fun b q => List.mem_cons_of_mem _ q) (T.keep fun o e => mv.heap S o nW e))
  | m + 1, i, s, hm, hi, st, T, fin => by
    have lt : i < n := by omega
    have nW : S ∉ wr := fun z => nS (W.sub _ z)
    refine codeAny_builtin F.entry_set_update_loop ?_; rw [Around.under_plainId F.plain_set_update_loop _]
    change wpAny _ A.in1 (pyNext (.ref I) >>= _) _ _ s; refine wpAny_bind (W.item i s _ _ lt st fun v s' hv st' mv => ?_)
    obtain ⟨x, t, ex, rfl⟩ := val i v hv
    have T' : TxSet P w s'.heap S (metT xs i) := T.keep fun o e => mv.heap S o nW e
    change wpAny _ A.in1 (holding [Value.str x t] (setAdd S (.str x t)) >>= _) _ _ s'; refine wpAny_bind (wpAny_holding ?_)
    unfold setAdd; refine wpAny_holding (wpAny_bind ((strKind P w).pyHash (k := x) (Froz.is_str _ _) ?_))
    refine txs_add (s := { s' with toks := s'.toks + 1 }) T' (by have := metT_len xs i; omega) fun b H' sb T2 => ?_
    rw [← metT_succ ex] at T2
    refine wpAny_pure ⟨plainId_quiet F.plain_set_update_loop _, upd_loopT W S nS xs hb val m (i + 1) _ (by omega) lt (W.frame _ s' _ _ st' (Nat.le_succ _) fun b q o e => (sb.2 b fun z => nS (z ▸ q)).trans e) T2 fun s2 mv2 T3 => ?_⟩
    refine fin s2 (Moved.trans W.gtrans ((mv.mono fun b q => List.mem_cons_of_mem _ q).then_heap (Nat.le_succ _) fun b o q e => ?_) mv2) T3
    exact (sb.2 b fun z => q (z ▸ List.mem_cons_self)).trans e
end
end G
end

set_option Elab.async false
set_option linter.all false
set_option maxRecDepth 100000
set_option maxHeartbeats 4000000
/-! set(xs) of a list of texts; sorted of such a set. -/
noncomputable section
namespace G
open PySem PySem.Spec PyProof.Rows L2
abbrev set0 (w : World) : Obj := { cls := .type "set", dict := none, data := .set #[] 0 (.fresh 0 0 (!w.params.followText "set-order")) }
section
variable {P : Program} {w : World} {A : Around} {E : Value → Shared → Prop} {s : Shared}
theorem set0_ok {h : Heap} {a : Addr} (e : h.get? a = some (set0 w)) : TxSet P w h a [] := by
  refine ⟨(#[], 0, .fresh 0 0 (!w.params.followText "set-order")), e, Froz.TxOk.nil rfl, List.Pairwise.nil, ?_, List.nodup_nil⟩
  show _ ∨ (!w.params.followText "set-order") = true
  cases w.params.followText "set-order" <;> simp
def SetMade (P : Program) (w : World) (s : Shared) (xs : List Str) (s2 : Shared) : Prop :=
  ∃ h' tk, s2 = { s with heap := h', toks := tk } ∧ TxSet P w h' s.heap.objs.size (metT xs xs.length) ∧ ∀ b o, s.heap.get? b = some o → h'.get? b = some o
theorem set_fill {B : Around} {l : Addr} {items : Array Value} {xs : List Str} {R : Result → Shared → Prop} (hh : B.handled = none) (hl : s.heap.IsList l items) (hi : StrsAre items.toList xs) (few : xs.length + 1 < scanBound)
    (fin : ∀ s2, SetMade P w s xs s2 → R (.ok (.ret .none)) s2) :
    codeAny (model P w) B (.builtin "set.update.loop" ⟨[.ref s.heap.objs.size, .ref (s.heap.push (set0 w)).objs.size], []⟩) R { s with heap := (s.heap.push (set0 w)).push { cls := .type "list_iterator", data := .fields #[.ref l, .int 0 0] } } := by
  have sz : xs.length = items.size := by rw [← StrsAre.len_eq hi, Array.length_toList]
  have z1 : (s.heap.push (set0 w)).objs.size = s.heap.objs.size + 1 := Heap.size_push ..
  have hl2 := hl
  obtain ⟨o, ho, hc, nl, hd⟩ := hl
  have ll : l < s.heap.objs.size := Heap.lt_size ho
  have e0 : (s.heap.push (set0 w)).get? s.heap.objs.size = some (set0 w) := Heap.get?_push_size _ rfl
  have nf : s.heap.objs.size ∉ [(s.heap.push (set0 w)).objs.size, l] := fun z => by
    rcases List.mem_cons.mp z with z | z
    · exact Nat.ne_of_lt (Nat.lt_succ_self _) (z.trans z1)
    · exact Nat.ne_of_gt ll (List.mem_singleton.mp z)
  refine upd_loopT ((Walks.list (by simpa using hh) _ l (by rw [z1]; exact Nat.ne_of_lt (Nat.lt_succ_of_lt ll)) items).toS) _ nf xs (by omega) (fun i v e => ?_) items.size 0 _ (by omega) (Nat.zero_le _) ⟨⟨_, Heap.get?_push_size _ rfl, rfl, rfl⟩, (hl2.push _).push _⟩ (set0_ok (Heap.get?_push_of_some _ e0)) fun s' mv T => ?_
  · have e' : items.toList[i]? = some v := by rw [Array.getElem?_toList]; exact e
    obtain ⟨t, rfl⟩ := SS.strs_at hi i v e'
    have lt : i < xs.length := by rw [sz]; exact (Array.getElem?_eq_some_iff.mp e).1
    exact ⟨_, t, List.getElem?_eq_getElem lt, by rw [List.getD_eq_getElem?_getD, List.getElem?_eq_getElem lt]; rfl⟩
  · obtain ⟨h', g, d, tk, os⟩ := s'
    have eg : g = s.gens := mv.gens
    have ed : d = s.drawn := mv.drawn
    have eo : os = s.os := mv.os
    subst eg ed eo
    rw [← sz] at T
    refine fin _ ⟨h', tk, rfl, T, fun b u e => mv.heap b u (fun z => ?_) (Heap.get?_push_of_some _ (Heap.get?_push_of_some _ e))⟩
    have lb := Heap.lt_size e
    rcases List.mem_cons.mp z with z | z
    · exact Nat.ne_of_lt lb z
    · exact Nat.ne_of_lt (Nat.lt_succ_of_lt lb) ((List.mem_singleton.mp z).trans z1)
set_option maxHeartbeats 3200000 in
theorem call_setT {l : Addr} {items : Array Value} {xs : List Str} {Q : Value → Shared → Prop} (hh : A.handled = none) (hl : s.heap.IsList l items) (hi : StrsAre items.toList xs) (few : xs.length + 1 < scanBound)
    (fin : ∀ s2, SetMade P w s xs s2 → Q (.ref s.heap.objs.size) s2) : wpAny (model P w) A (call (.type "set") [.ref l]) Q E s := by
  obtain ⟨c0, c1, mro⟩ := F.called_set.mro; have made := F.called_set.made; have sub := F.called_set.sub
  refine wpAny_call (codeAny_of_tree (show wpAny _ _ (callAny (.type "set") _) _ _ _ from wpAny_pure ⟨Code.quiet_builtin _ (by decide +kernel), codeAny_builtin F.entry_type_call ?_⟩))
  rw [Around.under_plain (weight_type_call_type "set" [.ref l] []) rfl]
  have nt := F.called_set.notType; have cc := F.called_set.canCreate; have tc := F.typeCall_set_1 (.ref l)
  repeat (any_goals (first | assumption | wp_step))
  refine codeAny_mono (code_set_led1 (.ref l) (E := E) (Q₁ := fun v s1 => v = .ref s.heap.objs.size ∧ s1 = { s with heap := s.heap.push (set0 w) }) ⟨rfl, rfl⟩) fun r s1 hr => ?_
  rcases r with e | fl
  · exact hr
  cases fl with
  | ret v =>
    obtain ⟨rfl, rfl⟩ := hr
    have e0 : (s.heap.push (set0 w)).get? s.heap.objs.size = some (set0 w) := Heap.get?_push_size _ rfl
    have isS : Shared.TypeIs { s with heap := s.heap.push (set0 w) } (.ref s.heap.objs.size) "set" := ⟨_, e0, rfl⟩
    have il := F.called_set.init.lookup; have ib := F.called_set.init.bind (.ref s.heap.objs.size)
    repeat (any_goals (first | assumption | wp_step))
    refine codeAny_mono (codeAny_call_builtin (R := wants (fun r s2 => r = .none ∧ SetMade P w s xs s2) E) F.called_set.init.plain F.entry_set_init (check_set_init_1 isS ?_)) fun r s2 hr => ?_
    · obtain ⟨⟨oc, od, odt, osl⟩, ho, hc, nl, hd⟩ := hl
      simp only at hc hd
      subst hc hd
      have ho1 : (s.heap.push (set0 w)).get? l = some { cls := .type "list", dict := od, data := .seq items nl, slots := osl } := Heap.get?_push_of_some _ ho
      have n1 := F.sub_list_set; have n2 := F.sub_list_frozenset
      have n3 : (Value.type "list" == Value.type "dict") = false := by decide
      have hl1 : (s.heap.push (set0 w)).IsList l items := ⟨_, ho1, rfl, nl, rfl⟩
      unfold Builtin.«set.__init__» noKeywords Builtin.Frozenset.updateFrom
      generalize hPI : pyIter = PI; wp_walk; subst hPI
      refine wpAny_pyIter_list hl1 (wpAny_bind (wpAny_runValue ?_))
      refine set_fill (by simp [hh]) ⟨_, ho, rfl, nl, rfl⟩ hi few fun s2 m => ?_
      change wpAny _ _ _ _ _ _; refine wpAny_pure ?_
      change wpAny _ _ (ret Value.none) _ _ _; exact wpAny_pure ⟨rfl, m⟩
    · rcases r with e | fl
      · exact hr
      cases fl with
      | ret v =>
        obtain ⟨rfl, m⟩ := hr
        repeat (any_goals (first | assumption | wp_step))
        exact fin _ m
      | _ => exact hr.elim
  | _ => exact hr.elim
end
end G
end

set_option Elab.async false
set_option linter.all false
set_option maxRecDepth 100000
set_option maxHeartbeats 4000000
/-! sorted of a set of texts; both as rules. -/
noncomputable section
namespace G
open PySem PySem.Spec PyProof.Rows L2
/-- ys: the texts of xs, each once, ascending -/
def SortD (xs ys : List Str) : Prop := sortedS ys = true ∧ ys.Nodup ∧ (∀ k, k ∈ ys ↔ k ∈ xs) ∧ ys.length ≤ xs.length
theorem strsAre_of : ∀ us : List Value, (∀ u ∈ us, ∃ x t, u = .str x t) → StrsAre us (us.map strOf)
  | [], _ => .nil
  | u :: us, h => by
    obtain ⟨x, t, rfl⟩ := h u List.mem_cons_self
    exact .cons x t (strsAre_of us fun v hv => h v (List.mem_cons_of_mem _ hv))
theorem perm_texts : ∀ {l us : List Str}, l.Nodup → us.length = l.length → (∀ k, k ∈ l → k ∈ us) → us.Perm l
  | [], us, _, e, _ => by rw [List.length_eq_zero_iff.mp e]
  | x :: l, us, n, e, m => by
    have hx := m x List.mem_cons_self
    obtain ⟨n1, n2⟩ := List.nodup_cons.mp n
    have p := List.perm_cons_erase hx
    refine p.trans (.cons x (perm_texts n2 ?_ fun k hk => ?_))
    · rw [List.length_erase_of_mem hx, e]; rfl
    · exact (List.mem_erase_of_ne fun z => n1 (by rw [← z]; exact hk)).mpr (m k (List.mem_cons_of_mem _ hk))
section
variable {P : Program} {w : World} {A : Around} {E : Value → Shared → Prop} {s : Shared} {a : Addr} {l : List Str}
theorem sort_setT {Q : Value → Shared → Prop} (R : TxSet P w s.heap a l) (hh : A.handled = none) (few : l.length < 4096)
    (fin : ∀ s' p (out : Array Value) c ys, (∀ b o, s.heap.get? b = some o → s'.heap.get? b = some o) → s'.gens = s.gens → s'.os = s.os → s.heap.objs.size ≤ p →
      s'.heap.get? p = some (seqObj "list" out c) → StrsAre out.toList ys → ys.Perm l → sortedS ys = true → Q (.ref p) s') : wpAny (model P w) A (call (.builtin "sorted") [.ref a]) Q E s := by
  obtain ⟨⟨es, ep, t⟩, ho, T, rs, ld, nd⟩ := R
  have sz : es.size = l.length := T.sz
  refine Calls.call_function_entry kind_sorted plain_sorted entry_sorted (args_sorted1 _) ?_
  unfold Builtin.«sorted»; refine wpAny_bind (m := checkCount "sorted" 1 1 _) (wpAny_pure (wpAny_bind (collect_set (A := A.in1) (es := es) (ep := ep) (t := t) hh ⟨_, ho, rfl, rfl⟩ T.fit (by unfold scanBound; omega) rs ld fun s1 vs k1 z1 g1 o1 pm => ?_)))
  have isS : ∀ e ∈ es.toList, ∃ x u, e.2 = Value.str x u := fun e he => by
    obtain ⟨⟨k, hk, _⟩, _⟩ := T.el e he
    revert hk
    show Value.isStrOf k e.2 = true → _
    cases e.2 with
    | str x u => exact fun _ => ⟨x, u, rfl⟩
    | _ => intro z; simp [Value.isStrOf] at z
  have vsS : ∀ v ∈ vs, ∃ x u, v = Value.str x u := fun v hv => by
    obtain ⟨e, he, rfl⟩ := List.mem_map.mp (pm.mem_iff.mp hv)
    exact isS e he
  have SA := strsAre_of vs vsS
  have len : vs.length = l.length := by rw [pm.length_eq, List.length_map, Array.length_toList]; exact sz
  have pl : (vs.map strOf).Perm l := by
    refine perm_texts nd (by rw [List.length_map, len]) fun k hk => ?_
    obtain ⟨e, he, q⟩ := (T.mem k).mp hk
    refine List.mem_map.mpr ⟨e.2, pm.mem_iff.mpr (List.mem_map.mpr ⟨e, he, rfl⟩), ?_⟩
    obtain ⟨x, u, ex⟩ := isS e he
    rw [ex] at q ⊢
    have q : Value.isStrOf k (.str x u) = true := q
    simp [Value.isStrOf] at q
    exact q
  refine wpAny_bind (wpAny_newList ?_ (by rw [len, sizeLine_eq]; omega))
  have oL : (s1.heap.push (seqObj "list" vs.toArray 0)).get? s1.heap.objs.size = some (seqObj "list" vs.toArray 0) := Heap.get?_push_size _ rfl
  refine wpAny_bind (wpAny_holding (wpAny_call_entry slot_list_sort ⟨_, oL, rfl⟩ entry_list_sort (list_sort_treeKAny strKind_oneLt oL SA.keysOf (fun v1 v2 r e => keyKind_strs (by rw [← e]; exact SA)) (by rw [len, sizeLine_eq]; omega) fun st hp hs => ⟨_, rfl, ?_⟩) (args_list_sort _)))
  obtain ⟨ys, b1, b2, b3⟩ := sorted_out_str SA hp hs
  obtain ⟨c, hc⟩ := sortedHeap_at (vs := vs) (out := (arrOf st).map (·.2)) oL
  refine wpAny_pure ⟨_, rfl, fin _ _ _ c ys (fun b u e => ?_) g1 o1 z1 hc b1 (b2.trans pl) b3⟩
  have q := k1 b u e
  have lt := Heap.lt_size q
  exact (sortedHeap_old (Nat.ne_of_lt lt) (by rw [size_push']; exact Nat.lt_succ_of_lt lt)).trans (Heap.get?_push_of_some _ q)
end
def TxO (P : Program) (w : World) (a : Addr) (l : List Str) : HO := .ext fun h => TxSet P w h a l
theorem txO_new {P : Program} {w : World} {H : Hp} {h : Heap} {a : Addr} {l : List Str} (R : TxSet P w h a l) : ObjOk P w H h a (TxO P w a l) := by
  have ⟨D, ho, r⟩ := R
  refine ⟨R, ⟨_, ho⟩, fun h1 h2 p k => ?_⟩
  have ⟨D', ho', r'⟩ : TxSet P w h1 a l := p
  exact ⟨D', k _ ho', r'⟩
section
variable {X : Cx}
/-- set(xs), xs a list of texts -/
def rSetT (K : PySem.W.Frag) (P : Program) (w : World) : List V → Hp → VK → Prop := fun vs H Q => ∃ (l : Addr) (xs : List Str), vs = [V.ref l] ∧ SqL K H l (xs.map V.str) ∧ xs.length < 1000 ∧
  ∀ a : Addr, H a = none → Q (.ref a) (upd H a (TxO P w a (metT xs xs.length)))
theorem cr_setT (hc : X.calm = true) : CallR X (.type "set") (rSetT X.K X.prog X.w) := by
  intro pins s σ H xs vs Q I r h
  obtain ⟨l, ts, rfl, hl, few, q⟩ := h
  rw [Vals.ref1 r]
  obtain ⟨its, rv, pl, _⟩ := I.list hl
  refine call_setT (P := X.prog) (w := X.w) (xs := ts) (I.ok.hd hc) pl.isList (by simpa using rv.strs) (by unfold scanBound; omega) fun s2 ⟨h', tk, e, T, k⟩ => ?_
  subst e
  exact ⟨.ref s.heap.objs.size, _, I.laid (t' := tk) k (Nat.le_refl _) (txO_new T), rfl, q _ (I.hok.fresh (Nat.le_refl _))⟩
/-- sorted(s), s a set of texts -/
def rSortT (P : Program) (w : World) : List V → Hp → VK → Prop := fun vs H Q => ∃ (a : Addr) (xs : List Str), vs = [V.ref a] ∧ H a = some (TxO P w a (metT xs xs.length)) ∧ xs.length < 1000 ∧
  ∀ (ys : List Str) (p : Addr), SortD xs ys → H p = none → Q (.ref p) (upd H p (.lst (ys.map V.str)))
theorem cr_sortT (hc : X.calm = true) : CallR X (.builtin "sorted") (rSortT X.prog X.w) := by
  intro pins s σ H xs vs Q I r h
  obtain ⟨a, ts, rfl, ha, few, q⟩ := h
  rw [Vals.ref1 r]
  have R : TxSet X.prog X.w s.heap a (metT ts ts.length) := (I.hok a _ ha).1
  have ml := metT_len ts ts.length
  refine sort_setT R (I.ok.hd hc) (by omega) fun s' p out c ys k g o hp hg sa pm st => ?_
  have nd : (metT ts ts.length).Nodup := fold_nd _ _ List.nodup_nil
  have yl : ys.length ≤ sizeLine := by rw [pm.length_eq, sizeLine_eq]; omega
  have hn := I.hok.fresh hp
  have new : ObjOk X.prog X.w (upd H p (.lst (ys.map V.str))) s'.heap p (.lst (ys.map V.str)) := ⟨by rw [List.length_map]; exact yl, out.toList, c, vals_of_strs sa, hg⟩
  refine ⟨.ref p, _, I.call' o (ch := []) (Un.laid k hp hn) (I.hok.laid k hp new) (by rw [g]; exact I.bare) (fun _ z => nomatch z), rfl, q ys p ⟨st, pm.nodup_iff.mpr nd, fun k => ?_, by rw [pm.length_eq]; exact ml⟩ hn⟩
  rw [pm.mem_iff]
  unfold metT; rw [List.take_length, fold_mem]
  simp
end
end G
end

set_option Elab.async false
set_option linter.all false
set_option maxRecDepth 100000
set_option maxHeartbeats 4000000
/-! The places of statements of a kind; the words in wish statements. -/
namespace G
open PySem PySem.Spec PyProof.Rows L2
def headA : Act → Str
  | .make _ => "make"
  | .wish _ _ => "wish"
  | .keep _ => "keep"
  | .name _ _ => "name"
  | .drop _ => "drop"
  | .hold _ _ _ => "hold"
  | .weak _ _ _ => "weak"
  | .cut _ _ => "cut"
  | .take _ _ _ => "take"
  | .say _ => "say"
  | .ask _ => "ask"
def headS : Sta → Str
  | .act a => headA a
  | .cond _ _ _ => "if"
  | .rep _ _ => "repeat"
theorem sta_head (s : Sta) : ∃ ds, s.data = .tuple (.str (headS s) :: ds) := by
  cases s with
  | act a => cases a <;> exact ⟨_, rfl⟩
  | cond t y n => exact ⟨_, rfl⟩
  | rep k b => exact ⟨_, rfl⟩
def placesW (w : Str) : Nat → List (Nat × Sta) → List Int
  | _, [] => []
  | i, p :: r => if headS p.2 = w then (i : Int) :: placesW w (i + 1) r else placesW w (i + 1) r
theorem places_of (w : Str) : ∀ (l : List (Nat × Sta)) (k : Nat) (os : List (Option V)), os.length = l.length → (∀ i o, os[i]? = some o → ∀ p : Nat × Sta, l[i]? = some p → o = if headS p.2 = w then some (V.int ((k + i : Nat) : Int)) else none) →
    os.filterMap id = (placesW w k l).map V.int
  | [], k, os, e, _ => by rw [List.length_eq_zero_iff.mp e]; rfl
  | p :: r, k, [], e, _ => by cases e
  | p :: r, k, o :: os, e, h => by
    have h0 := h 0 o rfl p rfl
    have ih := places_of w r (k + 1) os (by simpa using e) fun i o' h1 p' h2 => by
      rw [h (i + 1) o' h1 p' h2]
      rw [show k + (i + 1) = k + 1 + i from by omega]
    show (o :: os).filterMap id = (if headS p.2 = w then (k : Int) :: placesW w (k + 1) r else placesW w (k + 1) r).map V.int
    by_cases c : headS p.2 = w
    · rw [if_pos c] at h0 ⊢
      rw [h0]
      show V.int ((k + 0 : Nat) : Int) :: os.filterMap id = _
      rw [ih]
      rfl
    · rw [if_neg c] at h0 ⊢
      rw [h0]
      exact ih
def spPW : Sp := fun vs H Q _ => ∃ (v : V) (g : Int) (b : List Sta) (wd : Str), vs = [v, .str wd] ∧ TD H v (.tuple [.int g, partD b]) ∧ (∀ s ∈ b, NestOk 5 s) ∧ sizeB b ≤ 10000 ∧
  ∀ (H' : Hp) (p : Addr), Same H H' → H' p = some (.tup ((placesW wd 0 (rowsP 0 b)).map V.int)) → Q (.ref p) H'
def spPl (wd : Str) : Sp := fun vs H Q E => ∃ v, vs = [v] ∧ spPW [v, .str wd] H Q E
theorem qv {X : Cx} (i : Nat) {x : Str} {pos : Pos} (hN : X.N[i]? = some x := by rfl) (hv : Vis X.env.scope x := by first | exact Or.inl rfl | exact Or.inr (Or.inl rfl) | exact Or.inr (Or.inr rfl)) (hd : (x == ("__debug__" : Str)) = false := by decide) (hcd : (x == ("__classdict__" : Str)) = false := by decide) : QE X (.Name x pos) (tVar i) := qe_var i hN hv hd hcd
theorem decS {x y : Str} : decide (V.str x = V.str y) = true ↔ x = y := by
  rw [decide_eq_true_eq]
  exact ⟨fun h => by injection h, fun h => by rw [h]⟩
section
variable {P : Program} {w : World} {K : PySem.W.Frag} {mg : Str → Option Value} {base : Heap}
abbrev s__places_with : Stmt := top 13
abbrev n__places_with : List Str := ["program", "word", "place", "_", "statement"]
theorem sc__places_with : FnScope n__places_with ["program", "word"] (defScope s__places_with) := ⟨rfl, rfl, rfl, by decide +kernel, rfl, by decide +kernel, by decide +kernel⟩
theorem ok_pw {f fE : Addr} {fd dE : FuncData} (F : Fun K "_places_with" "_places_with" s__places_with f fd) (z_tuple : mg "tuple" = none) (DE : Df K mg "each_statement" s_each_statement ["program"] fE dE) (GE : GnOk P w K mg base 8 fE dE ["program"] spES) : FnOk P w K mg base CX0 10 f fd ["program", "word"] spPW := by
  refine F.ok sc__places_with (fun vs H Q E ⟨v, g, b, wd, ev, _⟩ => by rw [ev]; rfl) (fun cdv A outer s H vs Q E hr ⟨v, g, b, wd, ev, td, ok, hz, q⟩ => ?_)
  subst ev
  have lz0 : (rowsP 0 b).length ≤ 10000 := by rw [rowsP_len]; exact hz
  refine ⟨_, (pss_one (ps_ret (pe_callTy call_tuple_of (by rfl) z_tuple (by decide +kernel) (pa_cons (pe_lcG (g := gTup K 3 (gCons (gName 2) (gCons (gName 3) (gCons (gName 4) gNil)))) (tt := tEqS (tOp (rIxT K) (tVar 4) (tC (.int 0))) (tVar 1)) (own := [("place", 2), ("_", 3), ("statement", 4)]) GE (hr.mono (by omega)) (by rfl) DE.m DE.F.kp DE.b (pa_cons (pv 0) pa_nil) rfl sc__places_with.nd (blkOk_by (N := n__places_with) (sc := defScope s__places_with) (by decide +kernel)) (by decide +kernel)
      (fun _ _ _ _ _ => qg_tup rfl (qgs_cons (qg_name (i := 2) sc__places_with.nd rfl rfl) (qgs_cons (qg_name (i := 3) sc__places_with.nd rfl rfl) (qgs_cons (qg_name (i := 4) sc__places_with.nd rfl rfl) qgs_nil))))
      (fun _ _ _ _ _ => qt_eq (qe_ix (qv 4) qe_int (fun _ _ => rfl)) (qv 1) (by rfl)) (fun _ _ _ _ _ => qv 2)) pa_nil)))), ?_⟩
  refine ⟨_, rfl, _, _, _, fun i o => ∀ p : Nat × Sta, (rowsP 0 b)[i]? = some p → o = if headS p.2 = wd then some (V.int ((0 + i : Nat) : Int)) else none, ⟨v, g, b, rfl, td, ok, hz, rfl, rfl, rfl⟩, lt_line (by omega), ?_, ?_, ?_⟩
  · rintro i x H2 H3 sm ⟨t, u, p, hp, rfl, ht, hu⟩
    exact ⟨t, u, p, hp, rfl, sm _ _ ht, TD.ch (Ch.same (S := []) sm) _ _ hu⟩
  · rintro i x H' hi ⟨t, u, p, hp, rfl, ht, hu⟩
    obtain ⟨ds, eds⟩ := sta_head p.2
    rw [eds] at hu
    obtain ⟨r, xs, rfl, gr, dd⟩ := td_tup hu
    obtain ⟨v1, xs, rfl, d1, dd⟩ := tds_cons dd
    cases d1
    refine ⟨t, _, rfl, SqT.of ht, rfl, _, _, rfl, _, _, rfl, _, _, rfl, rfl, rfl, rfl, _, rfl, r, _, _, _, rfl, rfl, SqT.of gr, atI_nat (j := 0) rfl, _, rfl, _, _, rfl, rfl, rfl, ?_⟩
    by_cases c : headS p.2 = wd
    · rw [if_pos (decS.mpr c)]
      refine ⟨_, rfl, rfl, fun p' hp' => ?_⟩
      rw [hp] at hp'
      cases hp'
      rw [if_pos c, Nat.zero_add]
    · rw [if_neg (fun z => c (decS.mp z))]
      intro p' hp'
      rw [hp] at hp'
      cases hp'
      rw [if_neg c]
  · intro H' D os hD sm el hY
    have e := places_of wd (rowsP 0 b) 0 os el hY
    refine ⟨D, _, rfl, .inl ⟨SqL.of upd_same, fun l hl => ?_⟩⟩
    rw [e]
    exact q _ l (Same.trans sm (Same.trans (Same.up hD) (Same.up (by rw [e] at hl; exact hl)))) upd_same
abbrev s_make_places : Stmt := top 14
abbrev n_make_places : List Str := ["program"]
theorem sc_make_places : FnScope n_make_places ["program"] (defScope s_make_places) := ⟨rfl, rfl, rfl, by decide +kernel, rfl, by decide +kernel, by decide +kernel⟩
theorem ok_mp {f fW : Addr} {fd dW : FuncData} (F : Fun K "make_places" "make_places" s_make_places f fd) (DW : Df K mg "_places_with" s__places_with ["program", "word"] fW dW) (GW : FnOk P w K mg base CX0 10 fW dW ["program", "word"] spPW) : FnOk P w K mg base CX0 11 f fd ["program"] (spPl "make") := by
  refine F.ok sc_make_places (fun vs H Q E ⟨v, ev, _⟩ => by rw [ev]; rfl) (fun cdv A outer s H vs Q E hr ⟨v, ev, q⟩ => ?_)
  subst ev
  refine ⟨_, (pss_one (ps_ret (pe_call GW hr (by rfl) DW.m DW.F.kp DW.b .nil pass0 (pa_cons (pv 0) (pa_cons pe_str pa_nil))))), ?_⟩
  exact ⟨_, rfl, q⟩
abbrev s_weak_places : Stmt := top 15
abbrev n_weak_places : List Str := ["program"]
theorem sc_weak_places : FnScope n_weak_places ["program"] (defScope s_weak_places) := ⟨rfl, rfl, rfl, by decide +kernel, rfl, by decide +kernel, by decide +kernel⟩
theorem ok_wp {f fW : Addr} {fd dW : FuncData} (F : Fun K "weak_places" "weak_places" s_weak_places f fd) (DW : Df K mg "_places_with" s__places_with ["program", "word"] fW dW) (GW : FnOk P w K mg base CX0 10 fW dW ["program", "word"] spPW) : FnOk P w K mg base CX0 11 f fd ["program"] (spPl "weak") := by
  refine F.ok sc_weak_places (fun vs H Q E ⟨v, ev, _⟩ => by rw [ev]; rfl) (fun cdv A outer s H vs Q E hr ⟨v, ev, q⟩ => ?_)
  subst ev
  refine ⟨_, (pss_one (ps_ret (pe_call GW hr (by rfl) DW.m DW.F.kp DW.b .nil pass0 (pa_cons (pv 0) (pa_cons pe_str pa_nil))))), ?_⟩
  exact ⟨_, rfl, q⟩
end
end G

set_option Elab.async false
set_option linter.all false
set_option maxRecDepth 100000
set_option maxHeartbeats 4000000
/-! wishes_of. -/
namespace G
open PySem PySem.Spec PyProof.Rows L2
def wishOf : Sta → Option Str
  | .act (.wish _ wd) => some wd
  | _ => none
def wishesL (l : List (Nat × Sta)) : List Str := l.filterMap fun p => wishOf p.2
theorem head_wish {s : Sta} (h : headS s = "wish") : ∃ x wd, s = .act (.wish x wd) := by
  cases s with
  | act a => cases a <;> first | exact ⟨_, _, rfl⟩ | exact absurd h (by simp only [headS, headA]; decide +kernel)
  | cond t y n => exact absurd h (by simp only [headS, headA]; decide +kernel)
  | rep k b => exact absurd h (by simp only [headS, headA]; decide +kernel)
theorem wish_no {s : Sta} (h : ¬ headS s = "wish") : wishOf s = none := by
  cases s with
  | act a => cases a <;> first | rfl | exact absurd rfl h
  | _ => rfl
theorem wishes_of : ∀ (l : List (Nat × Sta)) (os : List (Option V)), os.length = l.length → (∀ (i : Nat) (o : Option V), os[i]? = some o → ∀ p : Nat × Sta, l[i]? = some p → o = (wishOf p.2).map V.str) →
    os.filterMap id = (wishesL l).map V.str
  | [], os, e, _ => by rw [List.length_eq_zero_iff.mp e]; rfl
  | p :: r, [], e, _ => by cases e
  | p :: r, o :: os, e, h => by
    have h0 := h 0 o rfl p rfl
    have ih := wishes_of r os (by simpa using e) fun i o' h1 p' h2 => h (i + 1) o' h1 p' h2
    unfold wishesL at ih ⊢
    rw [List.filterMap_cons, List.filterMap_cons]
    rw [h0]
    cases c : wishOf p.2 with
    | none => exact ih
    | some y =>
      show V.str y :: os.filterMap id = V.str y :: _
      rw [ih]
def spWs : Sp := fun vs H Q _ => ∃ (v : V) (g : Int) (b : List Sta), vs = [v] ∧ TD H v (.tuple [.int g, partD b]) ∧ (∀ s ∈ b, NestOk 5 s) ∧ sizeB b ≤ 900 ∧
  ∀ (H' : Hp) (p : Addr) (ys : List Str), Same H H' → SortD (wishesL (rowsP 0 b)) ys → H' p = some (.tup (ys.map V.str)) → Q (.ref p) H'
theorem wishesL_len (l : List (Nat × Sta)) : (wishesL l).length ≤ l.length := List.length_filterMap_le _ _
section
variable {P : Program} {w : World} {K : PySem.W.Frag} {mg : Str → Option Value} {base : Heap}
abbrev s_wishes_of : Stmt := top 12
abbrev n_wishes_of : List Str := ["program", "words", "_", "statement"]
theorem sc_wishes_of : FnScope n_wishes_of ["program"] (defScope s_wishes_of) := ⟨rfl, rfl, rfl, by decide +kernel, rfl, by decide +kernel, by decide +kernel⟩
theorem ok_ws {f fE : Addr} {fd dE : FuncData} (F : Fun K "wishes_of" "wishes_of" s_wishes_of f fd) (z_tuple : mg "tuple" = none) (z_sorted : mg "sorted" = none) (z_set : mg "set" = none) (DE : Df K mg "each_statement" s_each_statement ["program"] fE dE) (GE : GnOk P w K mg base 8 fE dE ["program"] spES) : FnOk P w K mg base CX0 10 f fd ["program"] spWs := by
  refine F.ok sc_wishes_of (fun vs H Q E ⟨v, g, b, ev, _⟩ => by rw [ev]; rfl) (fun cdv A outer s H vs Q E hr ⟨v, g, b, ev, td, ok, hz, q⟩ => ?_)
  subst ev
  have lz0 : (rowsP 0 b).length ≤ 900 := by rw [rowsP_len]; exact hz
  refine ⟨_, (pss_cons (ps_setLcG (i := 1) (g := gTup K 3 (gCons (gName 2) (gCons (gName 2) (gCons (gName 3) gNil)))) (tt := tEqS (tOp (rIxT K) (tVar 3) (tC (.int 0))) (tC (.str "wish"))) (te := tOp (rIxT K) (tVar 3) (tC (.int 2))) (own := [("_", 2), ("statement", 3)]) rfl rfl (sw_true rfl rfl rfl (by decide +kernel)) GE (hr.mono (by omega)) (by rfl) DE.m DE.F.kp DE.b (pa_cons (pv 0) pa_nil) rfl sc_wishes_of.nd (blkOk_by (N := n_wishes_of) (sc := defScope s_wishes_of) (by decide +kernel)) (by decide +kernel)
      (fun _ _ _ _ _ => qg_tup rfl (qgs_cons (qg_name (i := 2) sc_wishes_of.nd rfl rfl) (qgs_cons (qg_name (i := 2) sc_wishes_of.nd rfl rfl) (qgs_cons (qg_name (i := 3) sc_wishes_of.nd rfl rfl) qgs_nil))))
      (fun _ _ _ _ _ => qt_eq (qe_ix (qv 3) qe_int (fun _ _ => rfl)) qe_str rfl) (fun _ _ _ _ _ => qe_ix (qv 3) qe_int (fun _ _ => rfl)))
      (pss_one (ps_ret (pe_callTy call_tuple_of (by rfl) z_tuple (by decide +kernel) (pa_cons (pe_callB (cr_sortT rfl) (by rfl) z_sorted (by decide +kernel) (pa_cons (pe_callTy (cr_setT rfl) (by rfl) z_set (by decide +kernel) (pa_cons (pv 1) pa_nil)) pa_nil)) pa_nil))))), ?_⟩
  refine ⟨_, rfl, _, _, _, fun i o => ∀ p : Nat × Sta, (rowsP 0 b)[i]? = some p → o = (wishOf p.2).map V.str, ⟨v, g, b, rfl, td, ok, by omega, rfl, rfl, rfl⟩, lt_line (by omega), ?_, ?_, ?_⟩
  · rintro i x H2 H3 sm ⟨t, u, p, hp, rfl, ht, hu⟩
    exact ⟨t, u, p, hp, rfl, sm _ _ ht, TD.ch (Ch.same (S := []) sm) _ _ hu⟩
  · rintro i x H' hi ⟨t, u, p, hp, rfl, ht, hu⟩
    obtain ⟨ds, eds⟩ := sta_head p.2
    have hu0 := hu
    rw [eds] at hu
    obtain ⟨r, xs, rfl, gr, dd⟩ := td_tup hu
    obtain ⟨v1, xs, rfl, d1, dd⟩ := tds_cons dd
    cases d1
    refine ⟨t, _, rfl, SqT.of ht, rfl, _, _, rfl, _, _, rfl, _, _, rfl, rfl, rfl, rfl, _, rfl, r, _, _, _, rfl, rfl, SqT.of gr, atI_nat (j := 0) rfl, _, _, rfl, rfl, rfl, ?_⟩
    by_cases c : headS p.2 = "wish"
    · rw [if_pos (decS.mpr c)]
      obtain ⟨x, wd, ep⟩ := head_wish c
      rw [ep] at hu0
      have hu0 : TD H' (.ref r) (.tuple [.str "wish", .str x, .str wd]) := hu0
      obtain ⟨r', zs, er, gr', d0⟩ := td_tup hu0
      cases er
      obtain ⟨z1, zs, rfl, e1, d0⟩ := tds_cons d0
      obtain ⟨z2, zs, rfl, e2, d0⟩ := tds_cons d0
      obtain ⟨z3, rfl, e3⟩ := tds1 d0
      cases e3
      refine ⟨_, rfl, r, _, _, _, rfl, rfl, SqT.of gr', atI_nat (j := 2) rfl, rfl, fun p' hp' => ?_⟩
      rw [hp] at hp'
      cases hp'
      rw [ep]
      rfl
    · rw [if_neg (fun z => c (decS.mp z))]
      intro p' hp'
      rw [hp] at hp'
      cases hp'
      rw [wish_no c]
      rfl
  · intro H' D os hD sm el hY
    have e := wishes_of (rowsP 0 b) os el hY
    have wl := wishesL_len (rowsP 0 b)
    rw [e]
    have s1 := Same.trans sm (Same.up (o := HO.lst ((wishesL (rowsP 0 b)).map V.str)) hD)
    have gD : upd H' D (HO.lst ((wishesL (rowsP 0 b)).map V.str)) D = some (.lst ((wishesL (rowsP 0 b)).map V.str)) := upd_same
    generalize upd H' D (HO.lst ((wishesL (rowsP 0 b)).map V.str)) = H1 at s1 gD ⊢
    refine ⟨_, rfl, D, _, rfl, SqL.of gD, by omega, fun a na => ?_⟩
    refine ⟨a, wishesL (rowsP 0 b), rfl, upd_same, by omega, fun ys p so np => ?_⟩
    exact ⟨p, _, rfl, .inl ⟨SqL.of upd_same, fun t nt => q _ t ys (Same.trans s1 (Same.trans (Same.up na) (Same.trans (Same.up np) (Same.up nt)))) so upd_same⟩⟩
end
end G

set_option Elab.async false
set_option linter.all false
set_option maxRecDepth 100000
set_option maxHeartbeats 4000000
/-! is_integer; NoPlace; statement_at. -/
namespace G
open PySem PySem.Spec PyProof.Rows L2 StX
/-- is x an int that is no bool: r -/
def IntQ (K : PySem.W.Frag) (H : Hp) (x : V) (r : Bool) : Prop := ∃ (t : Value) (b c : Bool), TyX K H x t ∧ PySem.W.kitOne K t (.type "int") = some b ∧ (b = true → PySem.W.kitOne K t (.type "bool") = some c) ∧ r = (b && !c) ∧ (r = true → ∃ i, x = .int i)
theorem intQ_int {K : PySem.W.Frag} {H : Hp} (i : Int) : IntQ K H (.int i) true := ⟨.type "int", true, false, .base (.int i), kit_ty (by decide +kernel), fun _ => kit_ty (by decide +kernel), rfl, fun _ => ⟨i, rfl⟩⟩
theorem intQ_bl {K : PySem.W.Frag} {H : Hp} (b : Bool) : IntQ K H (.bl b) false := ⟨.type "bool", true, true, .base (.bl b), kit_ty (by decide +kernel), (fun _ => kit_ty (by decide +kernel)), rfl, (fun z => nomatch z)⟩
theorem intQ_no {K : PySem.W.Frag} {H : Hp} {x : V} {n : String} (t : TyX K H x (.type n)) (h : kitB n "int" = some false) : IntQ K H x false := ⟨.type n, false, false, t, kit_ty h, (fun z => nomatch z), rfl, (fun z => nomatch z)⟩
section
variable {P : Program} {w : World} {K : PySem.W.Frag} {mg : Str → Option Value} {base : Heap}
abbrev s_is_integer : Stmt := top 4
abbrev n_is_integer : List Str := ["value"]
theorem sc_is_integer : FnScope n_is_integer ["value"] (defScope s_is_integer) := ⟨rfl, rfl, rfl, by decide +kernel, rfl, by decide +kernel, by decide +kernel⟩
def spIn (K : PySem.W.Frag) : Sp := fun vs H Q _ => ∃ x r, vs = [x] ∧ IntQ K H x r ∧ Q (.bl r) H
theorem ok_int {f : Addr} {fd : FuncData} (F : Fun K "is_integer" "is_integer" s_is_integer f fd) (z_isi : mg "isinstance" = none) (z_int : mg "int" = none) (z_bool : mg "bool" = none) : FnOk P w K mg base CX0 1 f fd ["value"] (spIn K) := by
  refine F.ok sc_is_integer (fun vs H Q E ⟨x, r, ev, _⟩ => by rw [ev]; rfl) (fun cdv A outer s H vs Q E hr ⟨x, r, ev, ⟨t, b, c, ty, k1, k2, er, _⟩, q⟩ => ?_)
  subst ev
  refine ⟨_, (pss_one (ps_ret (pe_and (pe_callB (show CallR _ (.builtin "isinstance") (rIsi K) from call_isi) (by rfl) z_isi (by decide +kernel) (pa_cons (pv 0) (pa_cons (pe_bltn (v := .ty "int") (by rfl) z_int rfl rfl) pa_nil))) (pe_one (pe_not (pe_callB (show CallR _ (.builtin "isinstance") (rIsi K) from call_isi) (by rfl) z_isi (by decide +kernel) (pa_cons (pv 0) (pa_cons (pe_bltn (v := .ty "bool") (by rfl) z_bool rfl rfl) pa_nil)))))))), ?_⟩
  refine ⟨_, rfl, _, _, _, _, b, rfl, .ty "int", ty, k1, _, rfl, ?_⟩
  cases b with
  | false =>
    subst er
    exact q
  | true =>
    refine iteT ⟨_, rfl, _, _, _, _, c, rfl, .ty "bool", ty, k2 rfl, _, rfl, ?_⟩
    subst er
    exact q
/-! ### an error over another error, with one field -/
/-- the class of such an error -/
structure NPx (P : Program) (w : World) (K : PySem.W.Frag) (mg : Str → Option Value) (base : Heap) (CN : Addr) : Prop where
  ex : ∃ fI fd, EM K CN fI ∧ FnOk P w K mg base CX0 1 fI fd ["self", "place"] (spI1 K "place") ∧ Binds K fd ["self", "place"] []
  es : ES K CN "place"
  nf : PySem.W.findIn K (.ref CN) "place" = some none
  mg : mg "NoPlace" = some (.ref CN)
  ty : PySem.W.typeIn K (.ref CN) = some (.type "type")
def StopV (CN : Addr) (E : XK) (H : Hp) (x : V) : Prop := ∀ H' d, Same H H' → H' d = some (.xd [("place", x)]) → E (.ref CN) (some d) H'
theorem StopV.mono {CS : Addr} {E : XK} {H H' : Hp} {x : V} (h : StopV CS E H x) (s : Same H H') : StopV CS E H' x := fun H2 d t e => h H2 d (s.trans t) e
theorem stopV_read {CS : Addr} {E : XK} {H : Hp} {x : V} {a : Addr} (T : ES K CS "place") (h : StopV CS E H x) (na : H a = none) :
    spI1 K "place" [.ref a, x] (upd H a (exo a CS none)) (fun v H2 => v = .non ∧ ∃ (d : Addr) (fs : List (Str × V)), H2 a = some (exo a CS (some d)) ∧ H2 d = some (exd d fs) ∧ H d = none ∧ E (.ref CS) (some d) (upd (del H2 a) d (.xd fs))) (fun _ _ _ => False) := by
  refine ⟨a, CS, x, rfl, T, upd_same, fun dx nd ne => ⟨rfl, dx, [("place", x)], upd_same, by rw [upd_ne ne, upd_same], ?_, ?_⟩⟩
  · rw [upd_ne ne] at nd
    exact nd
  · refine h _ dx (fun b o e => ?_) upd_same
    have nb : b ≠ a := ne_of_none e na
    have nx : b ≠ dx := fun z => by rw [z] at e; rw [upd_ne ne, e] at nd; cases nd
    rw [upd_ne nx, del_ne nb, upd_ne nb, upd_ne nx, upd_ne nb]
    exact e
abbrev s_ninit : Stmt := inClass (top 2) 0
theorem sc_ninit : FnScope ["self", "place"] ["self", "place"] (defScope s_ninit) := ⟨rfl, rfl, rfl, by decide +kernel, rfl, by decide +kernel, by decide +kernel⟩
theorem ok_ninit {fI : Addr} {fd : FuncData} (F : Fun K "__init__" "NoPlace.__init__" s_ninit fI fd) : FnOk P w K mg base CX0 1 fI fd ["self", "place"] (spI1 K "place") := by
  refine F.ok sc_ninit (fun vs H Q E ⟨a, C, v, ev, _⟩ => by rw [ev]; rfl) (fun cdv A outer s H vs Q E hr ⟨a, C, v, ev, T, ea, q⟩ => ⟨_, pss_one (ps_os1 (pv 0) (pv 1)), ?_⟩)
  subst ev
  exact ⟨v, rfl, .ref a, rfl, a, C, rfl, T, ea, q⟩
abbrev s_statement_at : Stmt := top 9
abbrev n_statement_at : List Str := ["program", "place", "rows"]
theorem sc_statement_at : FnScope n_statement_at ["program", "place"] (defScope s_statement_at) := ⟨rfl, rfl, rfl, by decide +kernel, rfl, by decide +kernel, by decide +kernel⟩
/-- the statement at this place on paper, or none -/
def atPl (b : List Sta) (x : V) : Option Sta := match x with
  | .int i => if 0 ≤ i ∧ i < ((rowsP 0 b).length : Int) then ((rowsP 0 b)[i.toNat]?).map (·.2) else none
  | _ => none
def spSA (K : PySem.W.Frag) (CN : Addr) : Sp := fun vs H Q E => ∃ (v : V) (g : Int) (b : List Sta) (x : V) (r : Bool), vs = [v, x] ∧ TD H v (.tuple [.int g, partD b]) ∧ (∀ s ∈ b, NestOk 5 s) ∧ sizeB b ≤ 10000 ∧ (∀ H', Same H H' → IntQ K H' x r) ∧ (r = false → atPl b x = none) ∧
  (∀ s, atPl b x = some s → ∀ H' u, Same H H' → TD H' u s.data → Q u H') ∧ (atPl b x = none → StopV CN E H x)
theorem ok_sa {f fR fI : Addr} {fd dR dI : FuncData} {CN : Addr} (F : Fun K "statement_at" "statement_at" s_statement_at f fd) (z_len : mg "len" = none) (N : NPx P w K mg base CN)
    (DR : Df K mg "rows_of" s_rows_of ["block", "depth"] fR dR) (GR : FnOk P w K mg base CX0 7 fR dR ["block", "depth"] (spRO 5)) (DI : Df K mg "is_integer" s_is_integer ["value"] fI dI) (GI : FnOk P w K mg base CX0 1 fI dI ["value"] (spIn K)) :
    FnOk P w K mg base (L2.CX P w) 8 f fd ["program", "place"] (spSA K CN) := by
  refine F.okX sc_statement_at (fun vs H Q E ⟨v, g, b, x, r, ev, _⟩ => by rw [ev]; rfl) (fun cdv A outer s H vs Q E hr ⟨v, g, b, x, r, ev, td, ok, hz, hx, hn, q1, q2⟩ => ?_)
  subst ev
  have hr1 : Room 1 _ := hr.mono (by decide)
  have hr2 : Room 2 _ := hr.mono (by decide)
  obtain ⟨fN, dN, MN, GN, BN⟩ := N.ex
  refine ⟨_, (pss_cons (ps_set (i := 2) sc_statement_at.nd rfl (.inl rfl) (pe_call GR hr (by rfl) DR.m DR.F.kp DR.b .nil pass0 (pa_cons (pe_ix ix_tup (pv 0) pe_int (fun _ _ => rfl)) (pa_cons pe_int pa_nil))))
      (pss_cons (ps_if (PW.pt (pw_or (pt_not (pt_val (pe_call GI hr1 (by rfl) DI.m DI.F.kp DI.b .nil pass0 (pa_cons (pv 1) pa_nil)))) (pw_or1 (pt_not (pt_chain op_le op_lt pe_int (pv 1) (pe_callB call_len_seq (by rfl) z_len (by decide +kernel) (pa_cons (pv 2) pa_nil)))))))
      (pss_one (ps_raise rfl (takes_of rfl rfl rfl rfl) (pmk_E MN (raises_own N.es.c.sb N.ty) GN hr2 BN pass0 rfl N.mg (pa_cons (pv 1) pa_nil))))
      pss_nil)
      (pss_one (ps_ret (pe_ix ix_tup (pe_ix ix_list (pv 2) (pv 1) (fun _ _ => rfl)) pe_int (fun _ _ => rfl)))))), ?_⟩
  obtain ⟨r0, xs, rfl, gr0, e0⟩ := td_tup td
  obtain ⟨v1, ys, rfl, d1, e1⟩ := tds_cons e0
  cases d1
  obtain ⟨v2, rfl, d2⟩ := tds1 e1
  refine ⟨_, rfl, r0, _, _, _, rfl, rfl, SqT.of gr0, atI_nat (j := 1) rfl, v2, b, 0, rfl, d2, ok, hz, fun H2 pl zs s2 np gp tdz => ?_⟩
  have lz : zs.length = (rowsP 0 b).length := by rw [tdz.len, List.length_map]
  have iq := hx H2 s2
  refine ⟨_, rfl, _, r, rfl, iq, _, rfl, ?_⟩
  obtain ⟨_, _, _, _, _, _, _, iv⟩ := iq
  cases r with
  | false =>
    exact iteT ⟨_, rfl, Nat.le_of_ble_eq_true rfl, fun a na => stopV_read N.es ((q2 (hn rfl)).mono s2) na⟩
  | true =>
    obtain ⟨i, rfl⟩ := iv rfl
    refine iteF ⟨_, rfl, _, _, rfl, rfl, _, rfl, ?_⟩
    by_cases c0 : 0 ≤ i
    · rw [decide_eq_true c0]
      refine iteT ⟨_, rfl, _, _, rfl, .inl (SqL.of gp), _, _, rfl, rfl, _, rfl, ?_⟩
      by_cases c1 : i < (zs.length : Int)
      · rw [decide_eq_true c1]
        have c2 : i.toNat < zs.length := by omega
        have ei : (i.toNat : Int) = i := Int.toNat_of_nonneg c0
        refine iteF ⟨_, rfl, _, rfl, pl, zs, i, zs[i.toNat], rfl, rfl, SqL.of gp, (show atI zs i = some zs[i.toNat] from by have z := atI_nat (List.getElem?_eq_getElem c2); rw [ei] at z; exact z), ?_⟩
        obtain ⟨d, hd, tdv⟩ := tdz.at (List.getElem?_eq_getElem c2)
        rw [List.getElem?_map] at hd
        obtain ⟨p, hp, rfl⟩ := Option.map_eq_some_iff.mp hd
        obtain ⟨tx, xs2, etx, gtx, ex⟩ := td_tup tdv
        obtain ⟨u1, xs3, rfl, du1, ex2⟩ := tds_cons ex
        obtain ⟨u2, rfl, du2⟩ := tds1 ex2
        rw [etx]
        refine ⟨_, _, _, _, rfl, rfl, SqT.of gtx, atI_nat (j := 1) rfl, q1 p.2 ?_ _ _ s2 du2⟩
        show (if 0 ≤ i ∧ i < ((rowsP 0 b).length : Int) then ((rowsP 0 b)[i.toNat]?).map (·.2) else none) = some p.2
        rw [if_pos ⟨c0, by omega⟩, hp]
        rfl
      · rw [decide_eq_false c1]
        refine iteT ⟨_, rfl, Nat.le_of_ble_eq_true rfl, fun a na => stopV_read N.es ((q2 ?_).mono s2) na⟩
        show (if 0 ≤ i ∧ i < ((rowsP 0 b).length : Int) then ((rowsP 0 b)[i.toNat]?).map (·.2) else none) = none
        rw [if_neg (by omega)]
    · rw [decide_eq_false c0]
      refine iteF ?_
      refine ⟨_, rfl, iteT ⟨_, rfl, Nat.le_of_ble_eq_true rfl, fun a na => stopV_read N.es ((q2 ?_).mono s2) na⟩⟩
      show (if 0 ≤ i ∧ i < ((rowsP 0 b).length : Int) then ((rowsP 0 b)[i.toNat]?).map (·.2) else none) = none
      rw [if_neg (by omega)]
end
end G

set_option Elab.async false
set_option linter.all false
set_option maxRecDepth 100000
set_option maxHeartbeats 4000000
/-! k03's law: the blocks of a statement. -/
namespace G
open PySem PySem.Spec PyProof.Rows L2
theorem lc_parts {K : PySem.W.Frag} {H1 : Hp} {p D : Addr} {ys : List V} {bs : List (List Sta)} {x0 x1 x2 : Option V} {Qd : Hp → Prop} (gp : H1 p = some (.tup ys)) (tds : TDs H1 ys (bs.map partD)) (hl : bs.length ≤ 3) (nD : H1 D = none)
    (q : ∀ H', Same H1 H' → H' D = some (.lst ys) → Qd H') :
    ∃ W : Nat → Nat → Hp → Prop, (∃ m, W 0 m (upd H1 D (.lst []))) ∧ ∀ i m H, W i m H →
      ((Itt K p).stop i H ∧ Qd H) ∨ ((Itt K p).go i H ∧ ∃ Nx : Hp → Prop, (∀ H', Nx H' → ∃ m', m' < m ∧ W (i + 1) m' H') ∧ ∀ x H', (Itt K p).yld i H x H' → gName 2 x (wipe [x0, x1, x2] [2]) H' fun σ2 H2 => wipe σ2 [2] = wipe [x0, x1, x2] [2] ∧ tB (tCB (rIsi K) (tCons (tVar 2) (tCons (tC (V.ty "tuple")) tNil))) σ2 H2 fun b H3 =>
        if b = true then tVar 2 σ2 H3 fun y H4 => ∃ acc, H4 D = some (.lst acc) ∧ acc.length < sizeLine ∧ Nx (upd H4 D (.lst (acc ++ [y]))) else Nx H3) := by
  have ly : ys.length ≤ 3 := by rw [tds.len, List.length_map]; exact hl
  have neD : p ≠ D := fun z => by rw [z, nD] at gp; cases gp
  have c0 : Ch [D] H1 (upd H1 D (.lst [])) := (Ch.refl _ _).new nD
  refine lc_tup (xs := ys) (fun i H' => Ch [D] H1 H' ∧ H' D = some (.lst (ys.take i))) ⟨c0, upd_same⟩ (fun i H' _ h => SqT.of (h.1.tu _ _ gp)) ?_ ?_
  · rintro i x H' hx ⟨ch, gD⟩
    obtain ⟨dt, edt, tdv⟩ := (TDs.ch ch _ _ tds).at hx
    rw [List.getElem?_map] at edt
    obtain ⟨b, hb, rfl⟩ := Option.map_eq_some_iff.mp edt
    obtain ⟨r, zs, rfl, gr, _⟩ := td_tup tdv
    refine ⟨rfl, _, rfl, _, _, _, _, true, rfl, .ty "tuple", .base (.tup gr), kit_ty (by decide +kernel), _, rfl, iteT ⟨_, rfl, _, gD, small1000 (by rw [List.length_take]; omega), ch.put (by simp) gD (fun xs z => by cases z), ?_⟩⟩
    rw [upd_same, take_step hx]
  · rintro H' ⟨ch, gD⟩
    rw [List.take_of_length_le (Nat.le_refl _)] at gD
    exact q H' (ch.kp.fresh nD).toSame gD
theorem act_shape2 (a : Act) : ∃ (w : Str) (ds : List PyData), a.data = .tuple (.str w :: ds) ∧ decide (V.str w = V.str "if") = false ∧ decide (V.str w = V.str "repeat") = false := by
  cases a <;> exact ⟨_, _, rfl, by decide +kernel, by decide +kernel⟩
section
variable {P : Program} {w : World} {K : PySem.W.Frag} {mg : Str → Option Value} {base : Heap}
abbrev s__law_blocks : Stmt := top 29
abbrev n__law_blocks : List Str := ["_law_row_here", "_law_has_blocks", "_law_part"]
theorem sc__law_blocks : FnScope n__law_blocks ["_law_row_here"] (defScope s__law_blocks) := ⟨rfl, rfl, rfl, by decide +kernel, rfl, by decide +kernel, by decide +kernel⟩
def spLB : Sp := fun vs H Q _ => ∃ (v : V) (s : Sta), vs = [v] ∧ TD H v s.data ∧ ∀ (H' : Hp) (p : Addr) (xs : List V), Same H H' → H p = none → H' p = some (.lst xs) → TDs H' xs ((partsOf s).map partD) → Q (.ref p) H'
theorem ok_lb {f : Addr} {fd : FuncData} (F : Fun K "_law_blocks" "_law_blocks" s__law_blocks f fd) (T : Bi mg) (z_isi : mg "isinstance" = none) (z_tuple : mg "tuple" = none) : FnOk P w K mg base CX0 1 f fd ["_law_row_here"] spLB := by
  refine F.ok sc__law_blocks (fun vs H Q E ⟨v, s, ev, _⟩ => by rw [ev]; rfl) (fun cdv A outer s0 H vs Q E hr ⟨v, s, ev, td, q⟩ => ?_)
  subst ev
  refine ⟨_, (pss_cons (ps_set (i := 1) sc__law_blocks.nd rfl (.inl rfl) (pe_and (pe_callB (show CallR _ (.builtin "isinstance") (rIsi K) from call_isi) (by rfl) z_isi (by decide +kernel) (pa_cons (pv 0) (pa_cons (pe_bltn (v := .ty "tuple") (by rfl) z_tuple rfl rfl) pa_nil))) (pe_and (pe_cmpR op_gt (pe_callB call_len_seq (by rfl) T.z_len (by decide +kernel) (pa_cons (pv 0) pa_nil)) pe_int (nomark _)) (pe_one (pe_or (pe_cmpR op_eq (pe_ix ix_tup (pv 0) pe_int (fun _ _ => rfl)) pe_str (nomark _)) (pe_one (pe_cmpR op_eq (pe_ix ix_tup (pv 0) pe_int (fun _ _ => rfl)) pe_str (nomark _))))))))
      (pss_one (ps_ret (pe_ifExp (pt_truth (pv 1) (by intro _; rfl)) (pe_lc (own := [("_law_part", 2)]) (by rfl) sc__law_blocks.nd (pi_tup (pe_slice sl_tupA (pv 0) (po_some pe_int) po_none)) (blkOk_by (N := n__law_blocks) (sc := defScope s__law_blocks) (by decide +kernel)) (fun _ _ _ _ _ => (pg_name (i := 2) sc__law_blocks.nd rfl (.inl rfl))) (fun _ _ _ _ _ => pts_one (pt_val (pe_callB (show CallR _ (.builtin "isinstance") (rIsi K) from call_isi) (by rfl) z_isi (by decide +kernel) (pa_cons (pv 2) (pa_cons (pe_bltn (v := .ty "tuple") (by rfl) z_tuple rfl rfl) pa_nil))))) (fun _ _ _ _ _ => (pv 2))) (pe_lst pa_nil))))), ?_⟩
  cases s with
  | act a =>
    obtain ⟨wd, ds, ea, ef, ef2⟩ := act_shape2 a
    have td : TD H v a.data := td
    rw [ea] at td
    obtain ⟨r, ys, rfl, gr, dss⟩ := td_tup td
    obtain ⟨v1, ys, rfl, d1, dss⟩ := tds_cons dss
    cases d1
    refine ⟨_, rfl, _, _, _, _, true, rfl, .ty "tuple", .base (.tup gr), kit_ty (by decide +kernel), _, rfl, ?_⟩
    refine iteT ⟨_, rfl, _, _, rfl, .inr (SqT.of gr), _, _, rfl, rfl, _, rfl, ite2 (fun h => ?_) (fun h => ?_)⟩
    · refine ⟨_, rfl, r, _, _, _, rfl, rfl, SqT.of gr, atI_nat (j := 0) rfl, rfl, _, rfl, ?_⟩
      rw [ef]
      refine iteF ⟨_, rfl, r, _, _, _, rfl, rfl, SqT.of gr, atI_nat (j := 0) rfl, rfl, ?_⟩
      rw [ef2]
      exact ⟨_, rfl, _, rfl, iteF ⟨line1000 (Nat.zero_le _), fun p np => q _ p [] (Same.up np) np upd_same .nil⟩⟩
    · refine ⟨_, rfl, _, rfl, iteF ⟨line1000 (Nat.zero_le _), fun p np => q _ p [] (Same.up np) np upd_same .nil⟩⟩
  | cond t y n =>
    have td : TD H v (.tuple [.str "if", t.data, .tuple (blkData y), .tuple (blkData n)]) := td
    obtain ⟨r, ys0, rfl, gr, e0⟩ := td_tup td
    obtain ⟨v1, ys1, rfl, d1, e1⟩ := tds_cons e0
    cases d1
    obtain ⟨v2, ys2, rfl, d2, e2⟩ := tds_cons e1
    have l2 := e2.len
    have l2 : ys2.length = 2 := l2
    refine ⟨_, rfl, _, _, _, _, true, rfl, .ty "tuple", .base (.tup gr), kit_ty (by decide +kernel), _, rfl, ?_⟩
    refine iteT ⟨_, rfl, _, _, rfl, .inr (SqT.of gr), _, _, rfl, rfl, _, rfl, ?_⟩
    rw [if_pos (decide_eq_true (by simp only [List.length_cons]; omega))]
    refine ⟨_, rfl, r, _, _, _, rfl, rfl, SqT.of gr, atI_nat (j := 0) rfl, rfl, _, rfl, iteT ?_⟩
    refine ⟨_, rfl, _, rfl, ?_⟩
    refine iteT ?_
    have ec : cutV (V.str (Str.ofString "if") :: v2 :: ys2) (some 2) none = ys2 := cut2 _ _ _
    refine ⟨_, rfl, _, rfl, r, _, rfl, SqT.of gr, fun h => ?_, fun _ p np => ?_⟩
    · exact absurd h.1 (sIx2 _ _ _)
    · rw [ec]
      have s1 := Same.up (o := HO.tup ys2) np
      refine ⟨p, rfl, ⟨_, SqT.of upd_same⟩, fun D nD => lc_parts (bs := [y, n]) upd_same (TDs.ch (Ch.same (S := []) s1) _ _ e2) (Nat.le_of_ble_eq_true rfl) nD fun H' s' gD => q H' D ys2 (Same.trans s1 s') (s1.free nD) gD (TDs.ch (Ch.same (S := []) (Same.trans s1 s')) _ _ e2)⟩
  | rep k b =>
    have td : TD H v (.tuple [.str "repeat", .int k, .tuple (blkData b)]) := td
    obtain ⟨r, ys0, rfl, gr, e0⟩ := td_tup td
    obtain ⟨v1, ys1, rfl, d1, e1⟩ := tds_cons e0
    cases d1
    obtain ⟨v2, ys2, rfl, d2, e2⟩ := tds_cons e1
    have l2 := e2.len
    have l2 : ys2.length = 1 := l2
    refine ⟨_, rfl, _, _, _, _, true, rfl, .ty "tuple", .base (.tup gr), kit_ty (by decide +kernel), _, rfl, ?_⟩
    refine iteT ⟨_, rfl, _, _, rfl, .inr (SqT.of gr), _, _, rfl, rfl, _, rfl, ?_⟩
    rw [if_pos (decide_eq_true (by simp only [List.length_cons]; omega))]
    refine ⟨_, rfl, r, _, _, _, rfl, rfl, SqT.of gr, atI_nat (j := 0) rfl, rfl, _, rfl, iteF ⟨_, rfl, r, _, _, _, rfl, rfl, SqT.of gr, atI_nat (j := 0) rfl, rfl, ?_⟩⟩
    refine ⟨_, rfl, _, rfl, ?_⟩
    refine iteT ?_
    have ec : cutV (V.str (Str.ofString "repeat") :: v2 :: ys2) (some 2) none = ys2 := cut2 _ _ _
    refine ⟨_, rfl, _, rfl, r, _, rfl, SqT.of gr, fun h => ?_, fun _ p np => ?_⟩
    · exact absurd h.1 (sIx2 _ _ _)
    · rw [ec]
      have s1 := Same.up (o := HO.tup ys2) np
      refine ⟨p, rfl, ⟨_, SqT.of upd_same⟩, fun D nD => lc_parts (bs := [b]) upd_same (TDs.ch (Ch.same (S := []) s1) _ _ e2) (Nat.le_of_ble_eq_true rfl) nD fun H' s' gD => q H' D ys2 (Same.trans s1 s') (s1.free nD) gD (TDs.ch (Ch.same (S := []) (Same.trans s1 s')) _ _ e2)⟩
end
end G

set_option Elab.async false
set_option linter.all false
set_option maxRecDepth 100000
set_option maxHeartbeats 4000000
/-! The weight of a block: the program's and the law's. -/
namespace G
open PySem PySem.Spec PyProof.Rows L2
mutual
def wtS : Sta → Int
  | .act _ => 1
  | .cond _ y n => 1 + (wtB y + wtB n)
  | .rep k b => 1 + (k : Int) * wtB b
def wtB : List Sta → Int
  | [] => 0
  | s :: r => wtS s + wtB r
end
theorem wtB_snoc (s : Sta) : ∀ b : List Sta, wtB (b ++ [s]) = wtB b + wtS s
  | [] => by show wtS s + 0 = 0 + wtS s; omega
  | x :: r => by
    show wtS x + wtB (r ++ [s]) = wtS x + wtB r + wtS s
    rw [wtB_snoc s r]; omega
def timesS : Sta → Int
  | .rep k _ => (k : Int)
  | _ => 1
def inW (s : Sta) : Int := ((partsOf s).map wtB).sum
theorem wtS_eq (s : Sta) : wtS s = 1 + timesS s * inW s := by
  cases s with
  | act a => rfl
  | cond t y n =>
    show 1 + (wtB y + wtB n) = 1 + 1 * (wtB y + (wtB n + 0))
    omega
  | rep k b =>
    show 1 + (k : Int) * wtB b = 1 + (k : Int) * (wtB b + 0)
    rw [Int.add_zero]
theorem head_rep {s : Sta} (h : headS s = "repeat") : ∃ k b, s = .rep k b := by
  cases s with
  | act a => cases a <;> exact absurd h (by simp only [headS, headA]; decide +kernel)
  | cond t y n => exact absurd h (by simp only [headS, headA]; decide +kernel)
  | rep k b => exact ⟨k, b, rfl⟩
theorem times_no {s : Sta} (h : ¬ headS s = "repeat") : timesS s = 1 := by
  cases s with
  | rep k b => exact absurd rfl h
  | _ => rfl
theorem parts_sta {d : Nat} {s : Sta} {i : Nat} {b : List Sta} (ok : StaOk d s) (h : (partsOf s)[i]? = some b) : ∃ d', d = d' + 1 ∧ (∀ z ∈ b, StaOk d' z) ∧ sizeB b ≤ s.size := by
  have hm := List.mem_of_getElem? h
  cases s with
  | act a => exact nomatch hm
  | cond t y n =>
    cases d with
    | zero => exact ok.elim
    | succ d =>
      refine ⟨d, rfl, ?_⟩
      have e : (Sta.cond t y n).size = 1 + (sizeB y + sizeB n) := rfl
      have ok : t.ok ∧ (∀ s ∈ y, StaOk d s) ∧ ∀ s ∈ n, StaOk d s := ok
      simp only [partsOf, List.mem_cons, List.not_mem_nil, or_false] at hm
      rcases hm with rfl | rfl
      · exact ⟨ok.2.1, by omega⟩
      · exact ⟨ok.2.2, by omega⟩
  | rep c y =>
    cases d with
    | zero => exact ok.elim
    | succ d =>
      refine ⟨d, rfl, ?_⟩
      have e : (Sta.rep c y).size = 1 + sizeB y := rfl
      have ok : c < 13 ∧ ∀ s ∈ y, StaOk d s := ok
      simp only [partsOf, List.mem_cons, List.not_mem_nil, or_false] at hm
      subst hm
      exact ⟨ok.2, by omega⟩
theorem rep_few {d k : Nat} {b : List Sta} (ok : StaOk d (.rep k b)) : k < 13 := by
  cases d with
  | zero => exact ok.elim
  | succ d => exact ok.1
def spBW (d : Nat) : Sp := fun vs H Q _ => ∃ (v : V) (b : List Sta), vs = [v] ∧ TD H v (partD b) ∧ (∀ s ∈ b, StaOk d s) ∧ sizeB b ≤ 10000 ∧ ∀ H', Same H H' → Q (.int (wtB b)) H'
def spBW' : Nat → Sp
  | 0 => fun _ _ _ _ => False
  | d + 1 => spBW d
theorem parts_len (s : Sta) : (partsOf s).length ≤ 2 := by cases s <;> simp [partsOf]
section
variable {P : Program} {w : World} {K : PySem.W.Frag} {mg : Str → Option Value} {base : Heap}
abbrev s__block_weight : Stmt := top 10
abbrev n__block_weight : List Str := ["block", "total", "statement", "inner", "times", "part"]
theorem sc__block_weight : FnScope n__block_weight ["block"] (defScope s__block_weight) := ⟨rfl, rfl, rfl, by decide +kernel, rfl, by decide +kernel, by decide +kernel⟩
theorem ok_bw {f fB fS : Addr} {fd dB dS : FuncData} {d k0 : Nat} (F : Fun K "_block_weight" "_block_weight" s__block_weight f fd) (z_sum : mg "sum" = none)
    (DB : Df K mg "blocks_of" s_blocks_of ["statement"] fB dB) (GB : FnOk P w K mg base CX0 1 fB dB ["statement"] spBO)
    (mS : mg "_block_weight" = some (.ref fS)) (kS : PySem.W.keepIn K (.ref fS) = true) (bS : Binds K dS ["block"] []) (hk0 : 1 ≤ k0) (GS : FnOk P w K mg base CX0 k0 fS dS ["block"] (spBW' d)) : FnOk P w K mg base CX0 (k0 + 1) f fd ["block"] (spBW d) := by
  refine F.ok sc__block_weight (fun vs H Q E ⟨v, b, ev, _⟩ => by rw [ev]; rfl) (fun cdv A outer s0 H vs Q E hr ⟨v, b, ev, td, ok, hz, q⟩ => ?_)
  subst ev
  have hr1 : Room 1 _ := hr.mono hk0
  refine ⟨_, (pss_cons (ps_set (i := 1) sc__block_weight.nd rfl (.inl rfl) pe_int)
      (pss_cons (ps_for PassesOwn.never rfl (pi_tup (pv 0)) (pg_name (i := 2) sc__block_weight.nd rfl (.inl rfl))
      (pss_cons (ps_set (i := 3) sc__block_weight.nd rfl (.inl rfl) (pe_callB (cr_sum rfl) (by rfl) z_sum (by decide +kernel) (pa_cons (pe_lc (g := gName 5) (tt := tYes) (own := [("part", 5)]) (by rfl) sc__block_weight.nd (pi_tup (pe_call GB hr1 (by rfl) DB.m DB.F.kp DB.b .nil pass0 (pa_cons (pv 2) pa_nil))) (blkOk_by (N := n__block_weight) (sc := defScope s__block_weight) (by decide +kernel)) (fun _ _ _ _ _ => (pg_name (i := 5) sc__block_weight.nd rfl (.inl rfl))) (fun _ _ _ _ _ => pts_nil) (fun _ _ _ _ _ => (pe_call GS hr (by rfl) mS kS bS .nil pass0 (pa_cons (pv 5) pa_nil)))) pa_nil)))
      (pss_cons (ps_set (i := 4) sc__block_weight.nd rfl (.inl rfl) (pe_ifExp (pt_cmpR op_eq (pe_ix ix_tup (pv 2) pe_int (fun _ _ => rfl)) pe_str (nomark _)) (pe_ix ix_tup (pv 2) pe_int (fun _ _ => rfl)) pe_int))
      (pss_one (ps_set (i := 1) sc__block_weight.nd rfl (.inl rfl) (pe_op op_addE (pe_op op_addE (pv 1) pe_int) (pe_op op_mul (pv 4) (pv 3))))))))
      (pss_one (ps_ret (pv 1))))), ?_⟩
  obtain ⟨r0, xs, rfl, gr0, tds⟩ := td_tup td
  refine ⟨_, rfl, r0, rfl, ⟨_, SqT.of gr0⟩, for_tup (xs := xs) (fun j σ H' => Same H H' ∧ ∃ (x2 x3 x4 x5 : Option V), σ = [some (.ref r0), some (.int (wtB (b.take j))), x2, x3, x4, x5])
    ⟨Same.refl _, none, none, none, none, rfl⟩ (fun j σ H' _ h => SqT.of (h.1 _ _ gr0)) ?_ ?_⟩
  · rintro j x σ H' hx ⟨sm, x2, x3, x4, x5, rfl⟩
    obtain ⟨dt, edt, tdv⟩ := (TDs.ch (Ch.same (S := []) sm) _ _ tds).at hx
    rw [blkData_eq, List.getElem?_map] at edt
    obtain ⟨s, hs, rfl⟩ := Option.map_eq_some_iff.mp edt
    have oks := ok s (List.mem_of_getElem? hs)
    have szs := size_mem (List.mem_of_getElem? hs)
    have pl := parts_len s
    have step : wtB (b.take (j + 1)) = wtB (b.take j) + 1 + timesS s * inW s := by
      rw [List.take_add_one, hs]
      show wtB (b.take j ++ [s]) = _
      rw [wtB_snoc, wtS_eq, Int.add_assoc]
    refine ⟨_, rfl, x, s, rfl, tdv, fun H1 p ys s1 gp tdp => ⟨p, rfl, ⟨_, SqT.of gp⟩, fun D nD => ?_⟩⟩
    have neD : p ≠ D := fun z => by rw [z, nD] at gp; cases gp
    refine lc_tup (xs := ys) (fun i H' => Ch [D] H1 H' ∧ H' D = some (.lst ((((partsOf s).map wtB).take i).map V.int))) ⟨(Ch.refl _ _).new nD, upd_same⟩ (fun i H' _ h => SqT.of (h.1.tu _ _ gp)) ?_ ?_
    · rintro i y H2 hy ⟨c2, g2⟩
      obtain ⟨dp, edp, tdy⟩ := (TDs.ch c2 _ _ tdp).at hy
      rw [List.getElem?_map] at edp
      obtain ⟨pb, hpb, rfl⟩ := Option.map_eq_some_iff.mp edp
      obtain ⟨d', rfl, okb, szb⟩ := parts_sta oks hpb
      refine ⟨rfl, _, rfl, y, pb, rfl, tdy, okb, by omega, fun H3 s3 => ⟨_, s3 _ _ g2, small1000 ?_, ?_⟩⟩
      · rw [List.length_map, List.length_take, List.length_map]; omega
      · have g3 := s3 _ _ g2
        refine ⟨(c2.trans (Ch.same s3)).put (by simp) g3 (fun xs z => by cases z), ?_⟩
        rw [upd_same, List.take_add_one, List.getElem?_map, hpb, List.map_append]
        rfl
    · rintro H2 ⟨c2, g2⟩
      have lp : ys.length = ((partsOf s).map wtB).length := by rw [tdp.len, List.length_map, List.length_map]
      rw [lp, List.take_length] at g2
      have s2 : Same H1 H2 := (c2.kp.fresh nD).toSame
      have sm2 := Same.trans sm (Same.trans s1 s2)
      have tdv := TD.ch (Ch.same (S := []) (Same.trans s1 s2)) _ _ tdv
      refine ⟨D, _, rfl, SqL.of g2, ?_⟩
      have fin : ∀ z z2 : Int, z = wtB (b.take j) + 1 → z2 = z + timesS s * inW s → z2 = wtB (b.take (j + 1)) := by
        intro z z2 e1 e2
        rw [e2, e1, step]
      obtain ⟨ds, eds⟩ := sta_head s
      have td0 := tdv
      rw [eds] at td0
      obtain ⟨r, zs, rfl, gr, dd⟩ := td_tup td0
      obtain ⟨v1, zs, rfl, d1, dd⟩ := tds_cons dd
      cases d1
      refine ⟨_, rfl, r, _, _, _, rfl, rfl, SqT.of gr, atI_nat (j := 0) rfl, rfl, _, rfl, ite2 (fun c => ?_) (fun c => ?_)⟩
      · obtain ⟨k, b', rfl⟩ := head_rep (decS.mp c)
        have kf := rep_few oks
        have td1 : TD H2 (.ref r) (.tuple [.str "repeat", .int k, .tuple (blkData b')]) := tdv
        obtain ⟨r', zs', er, gr', d0⟩ := td_tup td1
        cases er
        obtain ⟨z1, zs', rfl, e1, d0⟩ := tds_cons d0
        obtain ⟨z2, zs', rfl, e2, d0⟩ := tds_cons d0
        cases e2
        refine ⟨_, rfl, r, _, _, _, rfl, rfl, SqT.of gr', atI_nat (j := 1) rfl, ?_⟩
        exact ⟨_, rfl, _, _, rfl, rfl, fun z ez => ⟨_, rfl, _, rfl, _, _, rfl, rfl, .inl ⟨by omega, by omega⟩, _, _, rfl, rfl, fun z2 ez2 => by obtain rfl := fin z z2 ez ez2; exact ⟨sm2, _, _, _, _, rfl⟩⟩⟩
      · have tn := times_no fun z => c (decS.mpr z)
        exact ⟨_, rfl, _, _, rfl, rfl, fun z ez => ⟨_, rfl, _, rfl, _, _, rfl, rfl, .inl ⟨by decide, by decide⟩, _, _, rfl, rfl, fun z2 ez2 => by obtain rfl := fin z z2 ez (by rw [tn]; exact ez2); exact ⟨sm2, _, _, _, _, rfl⟩⟩⟩
  · rintro σ H' ⟨sm, x2, x3, x4, x5, rfl⟩
    have lx : xs.length = b.length := by rw [tds.len, blkData_eq, List.length_map]
    rw [lx, List.take_length]
    exact ⟨_, rfl, q H' sm⟩
end
end G

set_option Elab.async false
set_option linter.all false
set_option maxRecDepth 100000
set_option maxHeartbeats 4000000
/-! The weight: at the top; the law's. -/
namespace G
open PySem PySem.Spec PyProof.Rows L2
section
variable {P : Program} {w : World} {K : PySem.W.Frag} {mg : Str → Option Value} {base : Heap}
theorem ok_bwAll {f fB : Addr} {fd dB : FuncData} (D : Df K mg "_block_weight" s__block_weight ["block"] f fd) (z_sum : mg "sum" = none)
    (DB : Df K mg "blocks_of" s_blocks_of ["statement"] fB dB) (GB : FnOk P w K mg base CX0 1 fB dB ["statement"] spBO) : FnOk P w K mg base CX0 7 f fd ["block"] (spBW 5) := by
  have Z : FnOk P w K mg base CX0 1 f fd ["block"] (spBW' 0) := ⟨fun _ _ _ _ h => h.elim, fun _ _ _ _ _ _ _ _ _ _ _ _ _ h => h.elim⟩
  have B0 := ok_bw (d := 0) D.F z_sum DB GB D.m D.F.kp D.b (by decide) Z
  have B1 := ok_bw (d := 1) D.F z_sum DB GB D.m D.F.kp D.b (by decide) B0
  have B2 := ok_bw (d := 2) D.F z_sum DB GB D.m D.F.kp D.b (by decide) B1
  have B3 := ok_bw (d := 3) D.F z_sum DB GB D.m D.F.kp D.b (by decide) B2
  have B4 := ok_bw (d := 4) D.F z_sum DB GB D.m D.F.kp D.b (by decide) B3
  exact ok_bw (d := 5) D.F z_sum DB GB D.m D.F.kp D.b (by decide) B4
abbrev s_weight : Stmt := top 11
abbrev n_weight : List Str := ["program"]
theorem sc_weight : FnScope n_weight ["program"] (defScope s_weight) := ⟨rfl, rfl, rfl, by decide +kernel, rfl, by decide +kernel, by decide +kernel⟩
def spWt : Sp := fun vs H Q _ => ∃ (v : V) (g : Int) (b : List Sta), vs = [v] ∧ TD H v (.tuple [.int g, partD b]) ∧ (∀ s ∈ b, StaOk 5 s) ∧ sizeB b ≤ 10000 ∧ ∀ H', Same H H' → Q (.int (wtB b)) H'
theorem ok_wt {f fB : Addr} {fd dB : FuncData} (F : Fun K "weight" "weight" s_weight f fd) (DB : Df K mg "_block_weight" s__block_weight ["block"] fB dB) (GB : FnOk P w K mg base CX0 7 fB dB ["block"] (spBW 5)) : FnOk P w K mg base CX0 8 f fd ["program"] spWt := by
  refine F.ok sc_weight (fun vs H Q E ⟨v, g, b, ev, _⟩ => by rw [ev]; rfl) (fun cdv A outer s0 H vs Q E hr ⟨v, g, b, ev, td, ok, hz, q⟩ => ?_)
  subst ev
  refine ⟨_, (pss_one (ps_ret (pe_call GB hr (by rfl) DB.m DB.F.kp DB.b .nil pass0 (pa_cons (pe_ix ix_tup (pv 0) pe_int (fun _ _ => rfl)) pa_nil)))), ?_⟩
  obtain ⟨r0, xs, rfl, gr0, e0⟩ := td_tup td
  obtain ⟨v1, ys, rfl, d1, e1⟩ := tds_cons e0
  cases d1
  obtain ⟨v2, rfl, d2⟩ := tds1 e1
  exact ⟨_, rfl, r0, _, _, _, rfl, rfl, SqT.of gr0, atI_nat (j := 1) rfl, v2, b, rfl, d2, ok, hz, q⟩
abbrev s__law_weight : Stmt := top 31
abbrev n__law_weight : List Str := ["_law_block", "_law_total", "_law_row_here", "_law_inside", "_law_inner_here"]
theorem sc__law_weight : FnScope n__law_weight ["_law_block"] (defScope s__law_weight) := ⟨rfl, rfl, rfl, by decide +kernel, rfl, by decide +kernel, by decide +kernel⟩
theorem ok_lw {f fB fS : Addr} {fd dB dS : FuncData} {d k0 : Nat} (F : Fun K "_law_weight" "_law_weight" s__law_weight f fd) (z_sum : mg "sum" = none)
    (DB : Df K mg "_law_blocks" s__law_blocks ["_law_row_here"] fB dB) (GB : FnOk P w K mg base CX0 1 fB dB ["_law_row_here"] spLB)
    (mS : mg "_law_weight" = some (.ref fS)) (kS : PySem.W.keepIn K (.ref fS) = true) (bS : Binds K dS ["_law_block"] []) (hk0 : 1 ≤ k0) (GS : FnOk P w K mg base CX0 k0 fS dS ["_law_block"] (spBW' d)) : FnOk P w K mg base CX0 (k0 + 1) f fd ["_law_block"] (spBW d) := by
  refine F.ok sc__law_weight (fun vs H Q E ⟨v, b, ev, _⟩ => by rw [ev]; rfl) (fun cdv A outer s0 H vs Q E hr ⟨v, b, ev, td, ok, hz, q⟩ => ?_)
  subst ev
  have hr1 : Room 1 _ := hr.mono hk0
  refine ⟨_, (pss_cons (ps_set (i := 1) sc__law_weight.nd rfl (.inl rfl) pe_int)
      (pss_cons (ps_for PassesOwn.never rfl (pi_tup (pv 0)) (pg_name (i := 2) sc__law_weight.nd rfl (.inl rfl))
      (pss_cons (ps_set (i := 3) sc__law_weight.nd rfl (.inl rfl) (pe_callB (cr_sum rfl) (by rfl) z_sum (by decide +kernel) (pa_cons (pe_lc (g := gName 4) (tt := tYes) (own := [("_law_inner_here", 4)]) (by rfl) sc__law_weight.nd (pi_list (pe_call GB hr1 (by rfl) DB.m DB.F.kp DB.b .nil pass0 (pa_cons (pv 2) pa_nil))) (blkOk_by (N := n__law_weight) (sc := defScope s__law_weight) (by decide +kernel)) (fun _ _ _ _ _ => (pg_name (i := 4) sc__law_weight.nd rfl (.inl rfl))) (fun _ _ _ _ _ => pts_nil) (fun _ _ _ _ _ => (pe_call GS hr (by rfl) mS kS bS .nil pass0 (pa_cons (pv 4) pa_nil)))) pa_nil)))
      (pss_one (ps_set (i := 1) sc__law_weight.nd rfl (.inl rfl) (pe_op op_addE (pe_op op_addE (pv 1) pe_int) (pe_ifExp (pt_cmpR op_eq (pe_ix ix_tup (pv 2) pe_int (fun _ _ => rfl)) pe_str (nomark _)) (pe_op op_mul (pe_ix ix_tup (pv 2) pe_int (fun _ _ => rfl)) (pv 3)) (pv 3)))))))
      (pss_one (ps_ret (pv 1))))), ?_⟩
  obtain ⟨r0, xs, rfl, gr0, tds⟩ := td_tup td
  refine ⟨_, rfl, r0, rfl, ⟨_, SqT.of gr0⟩, for_tup (xs := xs) (fun j σ H' => Same H H' ∧ ∃ (x2 x3 x4 : Option V), σ = [some (.ref r0), some (.int (wtB (b.take j))), x2, x3, x4])
    ⟨Same.refl _, none, none, none, rfl⟩ (fun j σ H' _ h => SqT.of (h.1 _ _ gr0)) ?_ ?_⟩
  · rintro j x σ H' hx ⟨sm, x2, x3, x4, rfl⟩
    obtain ⟨dt, edt, tdv⟩ := (TDs.ch (Ch.same (S := []) sm) _ _ tds).at hx
    rw [blkData_eq, List.getElem?_map] at edt
    obtain ⟨s, hs, rfl⟩ := Option.map_eq_some_iff.mp edt
    have oks := ok s (List.mem_of_getElem? hs)
    have szs := size_mem (List.mem_of_getElem? hs)
    have pl := parts_len s
    have step : wtB (b.take (j + 1)) = wtB (b.take j) + 1 + timesS s * inW s := by
      rw [List.take_add_one, hs]
      show wtB (b.take j ++ [s]) = _
      rw [wtB_snoc, wtS_eq, Int.add_assoc]
    refine ⟨_, rfl, x, s, rfl, tdv, fun H1 p ys s1 np gp tdp => ⟨p, rfl, ⟨_, SqL.of gp⟩, fun D nD => ?_⟩⟩
    have neD : p ≠ D := fun z => by rw [z, nD] at gp; cases gp
    refine lc_list (xs := ys) (fun i H' => Ch [D] H1 H' ∧ H' D = some (.lst ((((partsOf s).map wtB).take i).map V.int))) ⟨(Ch.refl _ _).new nD, upd_same⟩ (fun i H' _ h => SqL.of (h.1.kp _ _ (by simp [neD]) gp)) ?_ ?_
    · rintro i y H2 hy ⟨c2, g2⟩
      obtain ⟨dp, edp, tdy⟩ := (TDs.ch c2 _ _ tdp).at hy
      rw [List.getElem?_map] at edp
      obtain ⟨pb, hpb, rfl⟩ := Option.map_eq_some_iff.mp edp
      obtain ⟨d', rfl, okb, szb⟩ := parts_sta oks hpb
      refine ⟨rfl, _, rfl, y, pb, rfl, tdy, okb, by omega, fun H3 s3 => ⟨_, s3 _ _ g2, small1000 ?_, ?_⟩⟩
      · rw [List.length_map, List.length_take, List.length_map]; omega
      · have g3 := s3 _ _ g2
        refine ⟨(c2.trans (Ch.same s3)).put (by simp) g3 (fun xs z => by cases z), ?_⟩
        rw [upd_same, List.take_add_one, List.getElem?_map, hpb, List.map_append]
        rfl
    · rintro H2 ⟨c2, g2⟩
      have lp : ys.length = ((partsOf s).map wtB).length := by rw [tdp.len, List.length_map, List.length_map]
      rw [lp, List.take_length] at g2
      have s2 : Same H1 H2 := (c2.kp.fresh nD).toSame
      have sm2 := Same.trans sm (Same.trans s1 s2)
      have tdv := TD.ch (Ch.same (S := []) (Same.trans s1 s2)) _ _ tdv
      refine ⟨D, _, rfl, SqL.of g2, ?_⟩
      have fin : ∀ z z2 : Int, z = wtB (b.take j) + 1 → z2 = z + timesS s * inW s → z2 = wtB (b.take (j + 1)) := by
        intro z z2 e1 e2
        rw [e2, e1, step]
      obtain ⟨ds, eds⟩ := sta_head s
      have td0 := tdv
      rw [eds] at td0
      obtain ⟨r, zs, rfl, gr, dd⟩ := td_tup td0
      obtain ⟨v1, zs, rfl, d1, dd⟩ := tds_cons dd
      cases d1
      refine ⟨_, rfl, _, _, rfl, rfl, fun z ez => ⟨_, rfl, r, _, _, _, rfl, rfl, SqT.of gr, atI_nat (j := 0) rfl, rfl, _, rfl, ite2 (fun c => ?_) (fun c => ?_)⟩⟩
      · obtain ⟨k, b', rfl⟩ := head_rep (decS.mp c)
        have kf := rep_few oks
        have td1 : TD H2 (.ref r) (.tuple [.str "repeat", .int k, .tuple (blkData b')]) := tdv
        obtain ⟨r', zs', er, gr', d0⟩ := td_tup td1
        cases er
        obtain ⟨z1, zs', rfl, e1, d0⟩ := tds_cons d0
        obtain ⟨z2, zs', rfl, e2, d0⟩ := tds_cons d0
        cases e2
        refine ⟨_, rfl, r, _, _, _, rfl, rfl, SqT.of gr', atI_nat (j := 1) rfl, ?_⟩
        exact ⟨_, rfl, _, _, rfl, rfl, .inl ⟨by omega, by omega⟩, _, _, rfl, rfl, fun z2 ez2 => by obtain rfl := fin z z2 ez ez2; exact ⟨sm2, _, _, _, rfl⟩⟩
      · have tn := times_no fun z => c (decS.mpr z)
        exact ⟨_, rfl, _, _, rfl, rfl, fun z2 ez2 => by obtain rfl := fin z z2 ez (by rw [tn, Int.one_mul]; exact ez2); exact ⟨sm2, _, _, _, rfl⟩⟩
  · rintro σ H' ⟨sm, x2, x3, x4, rfl⟩
    have lx : xs.length = b.length := by rw [tds.len, blkData_eq, List.length_map]
    rw [lx, List.take_length]
    exact ⟨_, rfl, q H' sm⟩
theorem ok_lwAll {f fB : Addr} {fd dB : FuncData} (D : Df K mg "_law_weight" s__law_weight ["_law_block"] f fd) (z_sum : mg "sum" = none)
    (DB : Df K mg "_law_blocks" s__law_blocks ["_law_row_here"] fB dB) (GB : FnOk P w K mg base CX0 1 fB dB ["_law_row_here"] spLB) : FnOk P w K mg base CX0 7 f fd ["_law_block"] (spBW 5) := by
  have Z : FnOk P w K mg base CX0 1 f fd ["_law_block"] (spBW' 0) := ⟨fun _ _ _ _ h => h.elim, fun _ _ _ _ _ _ _ _ _ _ _ _ _ h => h.elim⟩
  have B0 := ok_lw (d := 0) D.F z_sum DB GB D.m D.F.kp D.b (by decide) Z
  have B1 := ok_lw (d := 1) D.F z_sum DB GB D.m D.F.kp D.b (by decide) B0
  have B2 := ok_lw (d := 2) D.F z_sum DB GB D.m D.F.kp D.b (by decide) B1
  have B3 := ok_lw (d := 3) D.F z_sum DB GB D.m D.F.kp D.b (by decide) B2
  have B4 := ok_lw (d := 4) D.F z_sum DB GB D.m D.F.kp D.b (by decide) B3
  exact ok_lw (d := 5) D.F z_sum DB GB D.m D.F.kp D.b (by decide) B4
end
end G

set_option Elab.async false
set_option linter.all false
set_option maxRecDepth 100000
set_option maxHeartbeats 4000000
/-! k03's law: the rows of a block. -/
namespace G
open PySem PySem.Spec PyProof.Rows L2
theorem same_put {H H1 H2 : Hp} {L : Addr} (s : Same H H1) (n : H L = none) (c : Ch [L] H1 H2) : Same H H2 :=
  (Ch.lessS (S := []) ((Ch.same s).trans c) (fun a z => .inr (by rw [List.mem_singleton.mp z]; exact n))).kp.toSame
section
variable {P : Program} {w : World} {K : PySem.W.Frag} {mg : Str → Option Value} {base : Heap}
abbrev s__law_flat : Stmt := top 30
abbrev n__law_flat : List Str := ["_law_block", "_law_depth", "_law_found", "_law_row_here", "_law_inner_here"]
theorem sc__law_flat : FnScope n__law_flat ["_law_block", "_law_depth"] (defScope s__law_flat) := ⟨rfl, rfl, rfl, by decide +kernel, rfl, by decide +kernel, by decide +kernel⟩
theorem ok_lf {f fB fS : Addr} {fd dB dS : FuncData} {d k0 : Nat} (F : Fun K "_law_flat" "_law_flat" s__law_flat f fd)
    (DB : Df K mg "_law_blocks" s__law_blocks ["_law_row_here"] fB dB) (GB : FnOk P w K mg base CX0 1 fB dB ["_law_row_here"] spLB)
    (mS : mg "_law_flat" = some (.ref fS)) (kS : PySem.W.keepIn K (.ref fS) = true) (bS : Binds K dS ["_law_block", "_law_depth"] []) (hk0 : 1 ≤ k0) (GS : FnOk P w K mg base CX0 k0 fS dS ["_law_block", "_law_depth"] (spRO' d)) : FnOk P w K mg base CX0 (k0 + 1) f fd ["_law_block", "_law_depth"] (spRO d) := by
  refine F.ok sc__law_flat (fun vs H Q E ⟨v, b, k, ev, _⟩ => by rw [ev]; rfl) (fun cdv A outer s0 H vs Q E hr ⟨v, b, k, ev, td, ok, hz, q⟩ => ?_)
  subst ev
  have hr1 : Room 1 _ := hr.mono hk0
  refine ⟨_, (pss_cons (ps_set (i := 2) sc__law_flat.nd rfl (.inl rfl) (pe_lst pa_nil))
      (pss_cons (ps_for PassesOwn.never rfl (pi_tup (pv 0)) (pg_name (i := 3) sc__law_flat.nd rfl (.inl rfl))
      (pss_cons (ps_expr (pe_bm PySem.F.plainAttrs_list PySem.F.slot_list_append PySem.F.type_list_append mt_append (pv 2) (pa_cons (pe_tup (pa_cons (pv 1) (pa_cons (pv 3) pa_nil))) pa_nil)))
      (pss_one (ps_for PassesOwn.never rfl (pi_list (pe_call GB hr1 (by rfl) DB.m DB.F.kp DB.b .nil pass0 (pa_cons (pv 3) pa_nil))) (pg_name (i := 4) sc__law_flat.nd rfl (.inl rfl))
      (pss_one (ps_set (i := 2) sc__law_flat.nd rfl (.inl rfl) (pe_op op_cat (pv 2) (pe_call GS hr (by rfl) mS kS bS .nil pass0 (pa_cons (pv 4) (pa_cons (pe_op op_addE (pv 1) pe_int) pa_nil))))))))))
      (pss_one (ps_ret (pv 2))))), ?_⟩
  obtain ⟨r0, xs, rfl, gr0, tds⟩ := td_tup td
  refine ⟨Nat.zero_le _, fun Ln nLn => ?_⟩
  have s1 := Same.up (o := HO.lst []) nLn
  have gL1 : upd H Ln (HO.lst []) Ln = some (.lst []) := upd_same
  generalize upd H Ln (HO.lst []) = H1 at s1 gL1 ⊢
  refine ⟨_, rfl, r0, rfl, ⟨_, SqT.of (s1 _ _ gr0)⟩, for_tup (xs := xs) (fun j σ H' => Same H H' ∧ ∃ (L : Addr) (acc : List V) (x3 x4 : Option V), H L = none ∧ H' L = some (.lst acc) ∧ TDs H' acc ((rowsP k (b.take j)).map rowD) ∧ σ = [some (.ref r0), some (.int (k : Int)), some (.ref L), x3, x4])
    ⟨s1, Ln, [], none, none, nLn, gL1, .nil, rfl⟩ (fun j σ H' _ h => SqT.of (h.1 _ _ gr0)) ?_ ?_⟩
  · rintro j x σ H' hx ⟨sm, L, acc, x3, x4, nL, gL, tda, rfl⟩
    obtain ⟨dt, edt, tdv⟩ := (TDs.ch (Ch.same (S := []) sm) _ _ tds).at hx
    rw [blkData_eq, List.getElem?_map] at edt
    obtain ⟨s, hs, rfl⟩ := Option.map_eq_some_iff.mp edt
    have oks := ok s (List.mem_of_getElem? hs)
    have szs := size_mem (List.mem_of_getElem? hs)
    have la : acc.length ≤ 10000 := by
      rw [tda.len, List.length_map, rowsP_len]
      exact Nat.le_trans (size_take b j) hz
    have step : rowsP k (b.take (j + 1)) = rowsP k (b.take j) ++ staRows k s := by
      rw [List.take_add_one, hs]
      exact rowsP_snoc k s _
    refine ⟨_, rfl, .inl ⟨rfl, _, SqL.of gL⟩, _, rfl, _, rfl, line1000 (Nat.le_of_ble_eq_true rfl), fun t0 n0 => ?_⟩
    have s2 := Same.up (o := HO.tup [V.int (k : Int), x]) n0
    have gt : upd H' t0 (HO.tup [V.int (k : Int), x]) t0 = some (.tup [V.int (k : Int), x]) := upd_same
    have gL2 := s2 _ _ gL
    have sm2 := Same.trans sm s2
    have tda2 := TDs.ch (Ch.same (S := []) s2) _ _ tda
    have tdx2 := TD.ch (Ch.same (S := []) s2) _ _ tdv
    generalize upd H' t0 (HO.tup [V.int (k : Int), x]) = H2 at s2 gt gL2 sm2 tda2 tdx2 ⊢
    refine ⟨L, _, _, rfl, rfl, gL2, lt_line (by omega), ?_⟩
    have c3 : Ch [L] H2 (upd H2 L (.lst (acc ++ [.ref t0]))) := (Ch.refl _ _).put (by simp) gL2 (fun xs z => by cases z)
    have gL3 : upd H2 L (.lst (acc ++ [.ref t0])) L = some (.lst (acc ++ [.ref t0])) := upd_same
    have tda3 : TDs (upd H2 L (.lst (acc ++ [.ref t0]))) (acc ++ [.ref t0]) ((rowsP k (b.take j) ++ [(k, s)]).map rowD) := by
      rw [List.map_append]
      exact (TDs.ch c3 _ _ tda2).snoc (.tup (c3.tu _ _ gt) (.cons (.int _) (.cons (TD.ch c3 _ _ tdx2) .nil)))
    have tdx3 := TD.ch c3 _ _ tdx2
    have sm3 := same_put sm2 nL c3
    generalize upd H2 L (.lst (acc ++ [.ref t0])) = H3 at c3 gL3 tda3 tdx3 sm3 ⊢
    refine ⟨_, rfl, x, s, rfl, tdx3, fun H4 p ps s4 np gp tdp => ?_⟩
    have lps : ps.length = (partsOf s).length := by rw [tdp.len, List.length_map]
    have sm4 := Same.trans sm3 s4
    refine ⟨p, rfl, ⟨_, SqL.of gp⟩, for_list (xs := ps) (fun i σ H' => Same H4 H' ∧ ∃ (L : Addr) (ac : List V) (x4 : Option V), H L = none ∧ H' L = some (.lst ac) ∧ TDs H' ac ((rowsP k (b.take j) ++ [(k, s)] ++ accR k (partsOf s) i).map rowD) ∧ σ = [some (.ref r0), some (.int (k : Int)), some (.ref L), some x, x4])
      ⟨Same.refl _, L, acc ++ [.ref t0], x4, nL, s4 _ _ gL3, ?_, rfl⟩ (fun i σ H' _ h => SqL.of (h.1 _ _ gp)) ?_ ?_⟩
    · show TDs H4 _ ((rowsP k (b.take j) ++ [(k, s)] ++ []).map rowD)
      rw [List.append_nil]
      exact TDs.ch (Ch.same (S := []) s4) _ _ tda3
    · rintro i y σ H5 hy ⟨s5, L5, ac, y4, nL5, gL5, td5, rfl⟩
      obtain ⟨dp, edp, tdy⟩ := (TDs.ch (Ch.same (S := []) s5) _ _ tdp).at hy
      rw [List.getElem?_map] at edp
      obtain ⟨pb, hpb, rfl⟩ := Option.map_eq_some_iff.mp edp
      obtain ⟨d', rfl, okb, szb⟩ := parts_nest oks hpb
      have lac : ac.length ≤ 20001 := by
        have e1 := accR_le k s i
        have e2 := rowsP_len k (b.take j)
        have e3 := size_take b j
        rw [td5.len, List.length_map, List.length_append, List.length_append]
        show _ + 1 + _ ≤ 20001
        omega
      refine ⟨_, rfl, _, rfl, _, rfl, _, _, rfl, rfl, fun z ez => ⟨y, pb, k + 1, by rw [show z = ((k + 1 : Nat) : Int) by omega]; rfl, tdy, okb, by omega, fun H6 qa zs s6 nq gq tdq => ⟨L5, qa, _, _, rfl, rfl, s6 _ _ gL5, gq, Nat.le_of_lt (lt_line (by
        have e4 := rowsP_len (k + 1) pb
        have e5 := tdq.len
        rw [List.length_map] at e5
        omega)), fun np nnp => ?_⟩⟩⟩
      have sn := Same.up (o := HO.lst (ac ++ zs)) nnp
      have sm6 := Same.trans sm4 (Same.trans s5 s6)
      refine ⟨Same.trans s5 (Same.trans s6 sn), np, ac ++ zs, _, sm6.free nnp, upd_same, ?_, rfl⟩
      rw [accR_succ hpb, ← List.append_assoc, List.map_append]
      exact TDs.ch (Ch.same (S := []) sn) _ _ ((TDs.ch (Ch.same (S := []) s6) _ _ td5).append tdq)
    · rintro σ H5 ⟨s5, L5, ac, y4, nL5, gL5, td5, rfl⟩
      refine ⟨Same.trans sm4 s5, L5, ac, _, _, nL5, gL5, ?_, rfl⟩
      rw [lps] at td5
      rw [step, staRows_acc, ← List.singleton_append, ← List.append_assoc]
      exact td5
  · rintro σ H' ⟨sm, L, acc, x3, x4, nL, gL, tda, rfl⟩
    have lx : xs.length = b.length := by rw [tds.len, blkData_eq, List.length_map]
    rw [lx, List.take_length] at tda
    exact ⟨_, rfl, q H' L acc sm nL gL tda⟩
theorem ok_lfAll {f fB : Addr} {fd dB : FuncData} (D : Df K mg "_law_flat" s__law_flat ["_law_block", "_law_depth"] f fd)
    (DB : Df K mg "_law_blocks" s__law_blocks ["_law_row_here"] fB dB) (GB : FnOk P w K mg base CX0 1 fB dB ["_law_row_here"] spLB) : FnOk P w K mg base CX0 7 f fd ["_law_block", "_law_depth"] (spRO 5) := by
  have Z : FnOk P w K mg base CX0 1 f fd ["_law_block", "_law_depth"] (spRO' 0) := ⟨fun _ _ _ _ h => h.elim, fun _ _ _ _ _ _ _ _ _ _ _ _ _ h => h.elim⟩
  have B0 := ok_lf (d := 0) D.F DB GB D.m D.F.kp D.b (by decide) Z
  have B1 := ok_lf (d := 1) D.F DB GB D.m D.F.kp D.b (by decide) B0
  have B2 := ok_lf (d := 2) D.F DB GB D.m D.F.kp D.b (by decide) B1
  have B3 := ok_lf (d := 3) D.F DB GB D.m D.F.kp D.b (by decide) B2
  have B4 := ok_lf (d := 4) D.F DB GB D.m D.F.kp D.b (by decide) B3
  exact ok_lf (d := 5) D.F DB GB D.m D.F.kp D.b (by decide) B4
end
end G

set_option Elab.async false
set_option linter.all false
set_option maxRecDepth 100000
set_option maxHeartbeats 4000000
/-! k03's law: values that mostly are no places. -/
namespace G
open PySem PySem.Spec PyProof.Rows L2
inductive WPl (H : Hp) : V → PyData → Prop
  | int (i : Int) : -(10 ^ 40) ≤ i → i ≤ 10 ^ 40 → WPl H (.int i) (.int i)
  | non : WPl H .non .none
  | bl (b : Bool) : WPl H (.bl b) (.bool b)
  | str (x : Str) : x.length ≤ 1 → OkS x → WPl H (.str x) (.str x)
  | e0 {a : Addr} : H a = some (.tup []) → WPl H (.ref a) (.tuple [])
  | e1 {a : Addr} : H a = some (.tup [.int 0]) → WPl H (.ref a) (.tuple [.int 0])
  | l1 {a : Addr} : H a = some (.lst [.int 0]) → WPl H (.ref a) (.list [.int 0])
  | d0 {a : Addr} : H a = some (.dK []) → WPl H (.ref a) (.dict [])
theorem WPl.kp {H H' : Hp} {S : List Addr} {x : V} {d : PyData} (w : WPl H x d) (n : ∀ a, x = .ref a → a ∉ S) (k : Kp S H H') : WPl H' x d := by
  cases w with
  | int i h1 h2 => exact .int i h1 h2
  | non => exact .non
  | bl b => exact .bl b
  | str x h1 h2 => exact .str x h1 h2
  | e0 h => exact .e0 (k _ _ (n _ rfl) h)
  | e1 h => exact .e1 (k _ _ (n _ rfl) h)
  | l1 h => exact .l1 (k _ _ (n _ rfl) h)
  | d0 h => exact .d0 (k _ _ (n _ rfl) h)
theorem WPl.there {H : Hp} {x : V} {d : PyData} (w : WPl H x d) : ∀ a, x = .ref a → H a ≠ none := by
  intro a e
  cases w <;> cases e
  all_goals (rename_i h; rw [h]; exact fun z => nomatch z)
/-- the values at a heap, away from the deck -/
def WPs (H : Hp) (D L : Addr) (xs : List V) : Prop := ∀ x ∈ xs, ∃ d, WPl H x d ∧ ∀ a, x = .ref a → a ∉ [D, L]
theorem WPs.kp {H H' : Hp} {D L : Addr} {xs : List V} {S : List Addr} (w : WPs H D L xs) (k : Kp S H H') (h : ∀ b ∈ S, b ∈ [D, L] ∨ H b = none) : WPs H' D L xs := fun x hx => by
  obtain ⟨d, p, n⟩ := w x hx
  refine ⟨d, p.kp (fun a e m => ?_) k, n⟩
  rcases h a m with z | z
  · exact n a e z
  · exact p.there a e z
def spWP : Sp := fun vs H Q _ => ∃ (D L : Addr) (n : Nat) (c : Nat), vs = [.ref D, .int (c : Int)] ∧ Deck H D L n ∧ n < 10 ^ 12 - 10 ∧ c ≤ 1000 ∧
  ∀ (H' : Hp) (R : Addr) (xs : List V), Ch [D, L] H H' → Deck H' D L (n + 4) → H R = none → H' R = some (.lst xs) → WPs H' D L xs → R ∉ [D, L] → Q (.ref R) H'
section
variable {P : Program} {w : World} {K : PySem.W.Frag} {mg : Str → Option Value} {base : Heap}
abbrev s__law_wrong_places : Stmt := top 32
abbrev n__law_wrong_places : List Str := ["_law_deck_here", "_law_count", "_law_some", "_law_k"]
theorem sc__law_wrong_places : FnScope n__law_wrong_places ["_law_deck_here", "_law_count"] (defScope s__law_wrong_places) := ⟨rfl, rfl, rfl, by decide +kernel, rfl, by decide +kernel, by decide +kernel⟩
theorem ok_wp_law {f f2 : Addr} {fd fd2 : FuncData} (F : Fun K "_law_wrong_places" "_law_wrong_places" s__law_wrong_places f fd) (T : Bi mg)
    (D2 : Df K mg "_law_one" s__law_one ["_law_deck_here", "_law_items"] f2 fd2) (G2 : FnOk P w K mg base CX0 2 f2 fd2 ["_law_deck_here", "_law_items"] (spOne K)) : FnOk P w K mg base CX0 3 f fd ["_law_deck_here", "_law_count"] spWP := by
  refine F.ok sc__law_wrong_places (fun vs H Q E ⟨D, L, n, c, ev, _⟩ => by rw [ev]; rfl) (fun cdv A outer s H vs Q E hr ⟨D, L, n, c, ev, hD, hn, hc, q⟩ => ?_)
  subst ev
  refine ⟨_, (pss_cons (ps_set (i := 2) sc__law_wrong_places.nd rfl (.inr rfl) (pe_lst (pa_cons (pe_un un_neg pe_int) (pa_cons (pv 1) (pa_cons (pe_op op_addE (pv 1) pe_int) (pa_cons pe_non (pa_cons pe_bl (pa_cons pe_bl (pa_cons pe_str (pa_cons (pe_tup pa_nil) (pa_cons (pe_tup (pa_cons pe_int pa_nil)) (pa_cons (pe_lst (pa_cons pe_int pa_nil)) (pa_cons pe_dnewK (pa_cons (pe_op op_pow pe_int pe_int) (pa_cons (pe_op op_sub pe_int (pe_op op_pow pe_int pe_int)) (pa_cons pe_str (pa_cons (pe_un un_neg (pv 1)) (pa_cons pe_int pa_nil))))))))))))))))))
      (pss_one (ps_ret (pe_lc (te := tCall (spOne K) [] E0 (tCons (tVar 0) (tCons (tVar 2) tNil))) (own := [("_law_k", 3)]) (by rfl) sc__law_wrong_places.nd (pi_range1 (by rfl) T.z_range (pa_cons pe_int pa_nil)) (blkOk_by (N := n__law_wrong_places) (sc := defScope s__law_wrong_places) (by decide +kernel)) (fun _ _ _ _ _ => (pg_name (i := 3) sc__law_wrong_places.nd rfl (.inl rfl))) (fun _ _ _ _ _ => pts_nil) (fun _ _ _ _ _ => (pe_call G2 hr (by rfl) D2.m D2.F.kp D2.b .nil pass0 (pa_cons (pv 0) (pa_cons (pv 2) pa_nil)))))))), ?_⟩
  refine ⟨_, rfl, _, rfl, _, rfl, _, _, rfl, rfl, fun z ez => ⟨line1000 (Nat.zero_le _), fun t1 n1 => ⟨line1000 (Nat.le_of_ble_eq_true rfl), fun t2 n2 => ⟨line1000 (Nat.le_of_ble_eq_true rfl), fun l1 nl1 => fun dk ndk => ⟨_, _, rfl, rfl, ⟨by decide, by decide, by decide⟩, _, _, rfl, rfl, ⟨by decide, by decide, by decide⟩, _, _, rfl, rfl, _, rfl, _, rfl, line1000 (Nat.le_of_ble_eq_true rfl), fun A nA => ?_⟩⟩⟩⟩⟩
  have n1' : t1 ∉ [D, L] := by simpa using hD.neD n1
  have s1 := Same.up (o := HO.tup []) n1
  have g1 : upd H t1 (HO.tup []) t1 = some (.tup []) := upd_same
  have hD := hD.kp (Kp.same (S := []) s1) (fun z => nomatch z) (fun z => nomatch z)
  generalize upd H t1 (HO.tup []) = H1 at s1 g1 hD n2 nl1 ndk nA ⊢
  have n2' : t2 ∉ [D, L] := by simpa using hD.neD n2
  have s2 := Same.up (o := HO.tup [V.int 0]) n2
  have g2 : upd H1 t2 (HO.tup [V.int 0]) t2 = some (.tup [V.int 0]) := upd_same
  have g1 := s2 _ _ g1
  have hD := hD.kp (Kp.same (S := []) s2) (fun z => nomatch z) (fun z => nomatch z)
  have s1 := Same.trans s1 s2
  clear s2
  generalize upd H1 t2 (HO.tup [V.int 0]) = H2 at s1 g1 g2 hD nl1 ndk nA ⊢
  have n3' : l1 ∉ [D, L] := by simpa using hD.neD nl1
  have s2 := Same.up (o := HO.lst [V.int 0]) nl1
  have g3 : upd H2 l1 (HO.lst [V.int 0]) l1 = some (.lst [V.int 0]) := upd_same
  have g1 := s2 _ _ g1
  have g2 := s2 _ _ g2
  have hD := hD.kp (Kp.same (S := []) s2) (fun z => nomatch z) (fun z => nomatch z)
  have s1 := Same.trans s1 s2
  clear s2
  generalize upd H2 l1 (HO.lst [V.int 0]) = H3 at s1 g1 g2 g3 hD ndk nA ⊢
  have n4' : dk ∉ [D, L] := by simpa using hD.neD ndk
  have s2 := Same.up (o := HO.dK []) ndk
  have g4 : upd H3 dk (HO.dK []) dk = some (.dK []) := upd_same
  have g1 := s2 _ _ g1
  have g2 := s2 _ _ g2
  have g3 := s2 _ _ g3
  have hD := hD.kp (Kp.same (S := []) s2) (fun z => nomatch z) (fun z => nomatch z)
  have s1 := Same.trans s1 s2
  clear s2
  generalize upd H3 dk (HO.dK []) = H4 at s1 g1 g2 g3 g4 hD nA ⊢
  have n5' : A ∉ [D, L] := by simpa using hD.neD nA
  have sA := fun o => Same.up (o := o) nA
  have p39 : (10 : Int) ^ (39 : Int).toNat = 10 ^ 39 := rfl
  have W4 : WPs H4 D L [V.int (-1), .int c, .int z, .non, .bl true, .bl false, .str "0", .ref t1, .ref t2, .ref l1, .ref dk, .int (10 ^ (39 : Int).toNat), .int (0 - 10 ^ (39 : Int).toNat), .str "", .int (-(c : Int)), .int 30] := by
    intro x hx
    have no : ∀ {y : V}, (∀ a, y ≠ .ref a) → ∀ a, y = .ref a → a ∉ [D, L] := fun h a e => absurd e (h a)
    simp only [List.mem_cons, List.not_mem_nil, or_false] at hx
    rw [p39] at hx
    rcases hx with rfl | rfl | rfl | rfl | rfl | rfl | rfl | rfl | rfl | rfl | rfl | rfl | rfl | rfl | rfl | rfl
    · exact ⟨_, .int _ (by decide) (by decide), no fun a e => nomatch e⟩
    · exact ⟨_, .int _ (by omega) (by omega), no fun a e => nomatch e⟩
    · exact ⟨_, .int _ (by omega) (by omega), no fun a e => nomatch e⟩
    · exact ⟨_, .non, no fun a e => nomatch e⟩
    · exact ⟨_, .bl _, no fun a e => nomatch e⟩
    · exact ⟨_, .bl _, no fun a e => nomatch e⟩
    · exact ⟨_, .str _ (by decide +kernel) (OkS.of _), no fun a e => nomatch e⟩
    · exact ⟨_, .e0 g1, fun a e => by cases e; exact n1'⟩
    · exact ⟨_, .e1 g2, fun a e => by cases e; exact n2'⟩
    · exact ⟨_, .l1 g3, fun a e => by cases e; exact n3'⟩
    · exact ⟨_, .d0 g4, fun a e => by cases e; exact n4'⟩
    · exact ⟨_, .int _ (by decide) (by decide), no fun a e => nomatch e⟩
    · exact ⟨_, .int _ (by decide) (by decide), no fun a e => nomatch e⟩
    · exact ⟨_, .str _ (by decide +kernel) (OkS.of _), no fun a e => nomatch e⟩
    · exact ⟨_, .int _ (by omega) (by omega), no fun a e => nomatch e⟩
    · exact ⟨_, .int _ (by decide) (by decide), no fun a e => nomatch e⟩
  obtain ⟨ws, ews⟩ : ∃ ws, ws = [V.int (-1), .int c, .int z, .non, .bl true, .bl false, .str "0", .ref t1, .ref t2, .ref l1, .ref dk, .int (10 ^ (39 : Int).toNat), .int (0 - 10 ^ (39 : Int).toNat), .str "", .int (-(c : Int)), .int 30] := ⟨_, rfl⟩
  have lw : ws.length = 16 := by rw [ews]; rfl
  rw [← ews] at W4
  show gName 2 (V.ref A) (L2.start n__law_wrong_places [V.ref D, V.int (c : Int)]) (upd H4 A (HO.lst [V.int (-1), .int c, .int z, .non, .bl true, .bl false, .str "0", .ref t1, .ref t2, .ref l1, .ref dk, .int (10 ^ (39 : Int).toNat), .int (0 - 10 ^ (39 : Int).toNat), .str "", .int (-(c : Int)), .int 30])) _
  rw [← ews]
  clear ews
  have sA := sA (HO.lst ws)
  have gA : upd H4 A (HO.lst ws) A = some (.lst ws) := upd_same
  have hD := hD.kp (Kp.same (S := []) sA) (fun z => nomatch z) (fun z => nomatch z)
  have W5 := W4.kp (S := []) (Kp.same sA) (fun b z => absurd z List.not_mem_nil)
  have s5 := Same.trans s1 sA
  clear W4 sA g1 g2 g3 g4
  generalize upd H4 A (HO.lst ws) = H5 at gA hD W5 s5 ⊢
  refine ⟨4, rfl, by decide, by decide, fun R nR => ?_⟩
  have nR1 : R ∉ [D, L] := by simpa using hD.neD nR
  have neA : A ≠ R := fun e => by rw [e, nR] at gA; cases gA
  have nAl : A ∉ [R, D, L] := by
    simp only [List.mem_cons, not_or] at n5' ⊢
    exact ⟨neA, n5'⟩
  have sub : ∀ b ∈ [D, L], b ∈ [R, D, L] := fun b hb => List.mem_cons_of_mem _ hb
  refine lc_range (lo := 0) (n := 4) (fun i H' => ∃ acc : List V, Ch [R, D, L] H5 H' ∧ Deck H' D L (n + i) ∧ H' R = some (.lst acc) ∧ acc.length = i ∧ ∀ x ∈ acc, x ∈ ws) ⟨[], (Ch.refl _ _).new nR, hD.kp (Kp.same (S := []) (Same.up nR)) (fun z => nomatch z) (fun z => nomatch z), upd_same, rfl, fun x hx => absurd hx List.not_mem_nil⟩ ?_ ?_
  · rintro i H' hi ⟨acc, c6, d6, gR, la, ha⟩
    refine ⟨rfl, _, rfl, _, rfl, D, L, n + i, _, rfl, d6, by omega, .inl ⟨A, ws, rfl, .inl ⟨SqL.of (c6.kp _ _ nAl gA), n5'⟩, by omega, by omega, fun H7 y k7 d7 hy => ?_⟩⟩
    have gR7 := k7 _ _ nR1 gR
    have c7 := (c6.trans ((deck_ch d6 d7 k7).mono sub)).put (p := R) (o := .lst (acc ++ [y])) (by simp) gR7 (fun xs z => by cases z)
    refine ⟨acc, gR7, small1000 (by omega), acc ++ [y], c7, ?_, upd_same, by rw [List.length_append, la]; rfl, fun x hx => ?_⟩
    · have nD : D ∉ [R] ∧ L ∉ [R] := by
        simp only [List.mem_cons, List.not_mem_nil, or_false, not_or] at nR1 ⊢
        exact ⟨Ne.symm nR1.1, Ne.symm nR1.2⟩
      have kR : Kp [R] H7 (upd H7 R (.lst (acc ++ [y]))) := fun b o hb e => by
        rw [upd_ne (fun z => hb (by rw [z]; exact List.mem_singleton.mpr rfl))]; exact e
      exact (d7.kp kR nD.1 nD.2).mono (by omega)
    · rcases List.mem_append.mp hx with hx | hx
      · exact ha x hx
      · rw [List.mem_singleton.mp hx]; exact hy
  · rintro H' ⟨acc, c6, d6, gR, la, ha⟩
    have W6 : WPs H' D L ws := W5.kp c6.kp fun b hb => by
      rcases List.mem_cons.mp hb with rfl | hb
      · exact .inr nR
      · exact .inl hb
    refine q H' R acc ?_ d6 (s5.free nR) gR (fun x hx => W6 x (ha x hx)) nR1
    exact Ch.lessS ((Ch.same s5).trans c6) fun a hz => by
      rcases List.mem_cons.mp hz with rfl | hz
      · exact .inr (s5.free nR)
      · exact .inl hz
end
end G

set_option Elab.async false
set_option linter.all false
set_option maxRecDepth 100000
set_option maxHeartbeats 4000000
/-! Rules: lists that are new for sure; isinstance of a caught error; repr of a list with an empty dict. -/
namespace G
open PySem PySem.Spec PyProof.Rows L2
def rCatB : R2 := fun x y H Q => ∃ l b xs zs, x = .ref l ∧ y = .ref b ∧ H l = some (.lst xs) ∧ H b = some (.lst zs) ∧ xs.length + zs.length ≤ sizeLine ∧ ∀ p, H p = none → p ≠ sysModules → Q (.ref p) (upd H p (.lst (xs ++ zs)))
theorem op_catB {X : Cx} : OpR X (binaryOp .Add) rCatB := by
  intro pins s σ H x y v u Q I rx ry ⟨l, b, xs, zs, ex, ey, hl, hb, hz, q⟩
  subst ex ey
  cases rx; cases ry
  obtain ⟨_, i1, _, r1, l1, e1⟩ := I.lstM hl
  obtain ⟨_, i2, _, r2, l2, e2⟩ := I.lstM hb
  refine PySem.P.add_list e1 e2 ?_ (by simp only [List.size_toArray]; omega)
  rw [show i1.toArray ++ i2.toArray = (i1 ++ i2).toArray by simp]
  exact ⟨.ref s.heap.objs.size, _, I.lnew (t' := s.toks) (r1.append r2) (by rw [List.length_append]; omega), rfl, q _ I.fresh (Nat.ne_of_gt I.big)⟩
def tLstB (t : TA) : TE := fun σ H Q => t σ H fun xs H1 => xs.length ≤ sizeLine ∧ ∀ p, H1 p = none → p ≠ sysModules → Q (.ref p) (upd H1 p (.lst xs))
theorem pe_lstB {X : Cx} {es : List Expr} {t : TA} {pos : Pos} (h : PA X es t) : PE X (.List es pos) (tLstB t) :=
  ⟨fun pins s σ H Q I hq => wpAny_List_spliced (thn (h.run pos pins s σ H _ I hq) fun us s1 ⟨xs, H1, I1, r, z, q⟩ => ⟨by rw [← r.length]; exact z,
    .ref s1.heap.objs.size, _, I1.laid (o := .lst xs) (t' := s1.toks) (fun b u e => Heap.get?_push_of_some _ e) (Nat.le_refl _) ⟨z, us, 0, r, Heap.get?_push_size _ rfl⟩, rfl, q _ (I1.hok.fresh (Nat.le_refl _)) (Nat.ne_of_gt I1.big)⟩)⟩
/-! ### the error that a suite holds -/
section
variable {X : Cx} {a : Addr} {oe : Obj} {cls : Value} {d : Option Addr} {pn : List (Addr × Obj)}
theorem cap_inst {pins : List (Addr × Obj)} {σ : L2.St} {H : Hp} {s : Shared} {C dd : Addr} {fs : List (Str × V)} (hp : X.pn = (a, oe) :: pn) (hz : Zc (.ref C) (some dd) oe) (hf : ∃ vs, oe.data = .fields vs) (I : Inv X pins σ H s) (ea : H dd = some (.xd fs)) : ∃ od, PySem.W.InstAt s.heap a oe C (some od) := by
  obtain ⟨ha, _⟩ := I.pin (a, oe) (List.mem_append_left _ (by rw [hp]; exact List.mem_cons_self))
  obtain ⟨vs, hd⟩ := hf
  obtain ⟨mA, hns, _⟩ := (show ObjOk X.prog X.w H s.heap dd (.xd fs) from I.hok dd _ ea)
  obtain ⟨od, ho, _⟩ := lookIn_ns hns
  exact ⟨od, ha, hz.1, by unfold PySem.W.notCls; rw [hd] <;> rfl, by rw [hz.2]; exact ho⟩
/-- isinstance(e, c) -/
def rCapI (K : PySem.W.Frag) (a : Addr) (cls : Value) (d : Option Addr) : List V → Hp → VK → Prop := fun xs H Q => ∃ (C dd : Addr) (fs : List (Str × V)) (c : V) (cv : Value) (b : Bool), xs = [.ref a, c] ∧ cls = .ref C ∧ d = some dd ∧ EC K C ∧ H dd = some (.xd fs) ∧ ClsV c cv ∧ PySem.W.kitOne K (.ref C) cv = some b ∧ Q (.bl b) H
theorem call_capI (hp : X.pn = (a, oe) :: pn) (hz : Zc cls d oe) (hf : ∃ vs, oe.data = .fields vs) : CallR X (.builtin "isinstance") (rCapI X.K a cls d) := by
  rintro pins s σ H xs us Q I r ⟨C, dd, fs, c, cv, b, ex, ec, ed, T, hd, hc, e, q⟩
  subst ex ec ed
  obtain ⟨u1, u2, rfl, r1, r2⟩ := vals2 r
  obtain rfl : u1 = Value.ref a := r1
  obtain rfl := hc.eq r2
  obtain ⟨od, J⟩ := cap_inst hp hz hf I hd
  exact PySem.W.kia_one (PySem.W.kitx_exc (ox := oe) (od := some od) T.cl T.ga T.gt T.sb T.ca T.cg T.ct T.mo) I.kIn J e (fun z => nomatch z) fun tk => ⟨.bl b, H, I.tok tk, rfl, q⟩
/-- isinstance(e, (c1, ..)) -/
def rCapT (K : PySem.W.Frag) (a : Addr) (cls : Value) (d : Option Addr) : List V → Hp → VK → Prop := fun xs H Q => ∃ (C dd : Addr) (fs : List (Str × V)) (tp : Addr) (cs : List V) (vs : List Value) (b : Bool), xs = [.ref a, .ref tp] ∧ cls = .ref C ∧ d = some dd ∧ EC K C ∧ H dd = some (.xd fs) ∧ H tp = some (.tup cs) ∧ Paired ClsV cs vs ∧ PySem.W.kitAny K (.ref C) vs = some b ∧ Q (.bl b) H
theorem call_capT (hp : X.pn = (a, oe) :: pn) (hz : Zc cls d oe) (hf : ∃ vs, oe.data = .fields vs) : CallR X (.builtin "isinstance") (rCapT X.K a cls d) := by
  rintro pins s σ H xs us Q I r ⟨C, dd, fs, tp, cs, ws, b, ex, ec, ed, T, hd, hT, hc, e, q⟩
  subst ex ec ed
  obtain ⟨u1, u2, rfl, r1, r2⟩ := vals2 r
  obtain rfl : u1 = Value.ref a := r1
  obtain rfl : u2 = Value.ref tp := r2
  obtain ⟨od, J⟩ := cap_inst hp hz hf I hd
  obtain ⟨_, its, rv, ⟨oc, odx, dt, sl⟩, h1, h2, n, h3⟩ := (show ObjOk X.prog X.w H s.heap tp (.tup cs) from I.hok tp _ hT)
  obtain rfl := ClsV.all hc rv
  simp only at h2 h3
  subst h2 h3
  exact PySem.W.kia_tup (PySem.W.kitx_exc (ox := oe) (od := some od) T.cl T.ga T.gt T.sb T.ca T.cg T.ct T.mo) I.kIn J h1 e (fun z => nomatch z) fun tk => ⟨.bl b, H, I.tok tk, rfl, q⟩
end
/-! ### repr of ["none", {}, True, False] -/
def dNone : PyData := .list [.str "none", .dict [], .bool true, .bool false]
def rNone : List V → Hp → VK → Prop := fun xs H Q => ∃ l a : Addr, xs = [.ref l] ∧ H l = some (.lst [.str "none", .ref a, .bl true, .bl false]) ∧ H a = some (.dK []) ∧ l ≠ sysModules ∧ Q (.str dNone.shown) H
theorem call_reprN {X : Cx} (hg : X.A.guards = some []) (hu : X.A.units + 101 < cLine) : CallR X (.builtin "repr") rNone := by
  rintro pins s σ H xs us Q I r ⟨l, a, ex, hl, ha, ne, q⟩
  subst ex
  obtain ⟨u, rfl, rv⟩ := vals1 r
  obtain rfl : u = Value.ref l := rv
  obtain ⟨_, its, n, rr, e⟩ := (show ObjOk X.prog X.w H s.heap l (.lst [.str "none", .ref a, .bl true, .bl false]) from I.hok l _ hl)
  obtain ⟨_, hsm, ws, hkv, o, es, ep, ho, hex, hdt, _, hp, _⟩ := (show ObjOk X.prog X.w H s.heap a (.dK []) from I.hok a _ ha)
  cases hkv
  have hes : es.toList = [] := by cases h : es.toList with
    | nil => rfl
    | cons x r => rw [h] at hp; cases hp
  match its, rr with
  | [v1, v2, v3, v4], .cons q1 (.cons q2 (.cons q3 (.cons q4 .nil))) =>
    obtain ⟨t1, rfl⟩ := q1
    obtain rfl : v2 = Value.ref a := q2
    obtain rfl : v3 = Value.bool true := q3
    obtain rfl : v4 = Value.bool false := q4
    have RD : Reads s.heap (.ref a) (.dict []) [a] := Reads.dict (as := []) (bs := []) ho hex.1 hdt (by rw [hes]; exact .nil) (by rw [hes]; exact .nil)
    have R : Reads s.heap (.ref l) dNone [l, a] := Reads.list (as := [a]) e rfl rfl (.cons (as := []) (.str _ t1) (.cons (as := [a]) (bs := []) RD (.cons (as := []) (bs := []) (.bool true) (.cons (as := []) (bs := []) (.bool false) .nil))))
    refine repr_of_reads' R (by decide +kernel) (fun _ hm => ?_) hg (by have z : dNone.depth ≤ 10 := (by decide +kernel); omega) (fun _ _ e => e) (fun h' t tk hk => ⟨.str _, H, I.kept hk, ⟨_, rfl⟩, q⟩) (by rw [sizeLine_eq]; decide +kernel)
    simp only [List.mem_cons, List.not_mem_nil, or_false] at hm
    rcases hm with hm | hm
    · exact ne hm.symm
    · rw [← hm] at hsm
      simp at hsm
end G

set_option Elab.async false
set_option linter.all false
set_option maxRecDepth 100000
set_option maxHeartbeats 4000000
/-! k03's law: what statement_at returns, or its error. -/
namespace G
open PySem PySem.Spec PyProof.Rows L2 StX
theorem pe_capG {X : Cx} {a : Addr} {oe : Obj} {cls : Value} {d : Option Addr} {pn : List (Addr × Obj)} {e : Expr} {te : TE} {pos : Pos} {f : Str} (hp : X.pn = (a, oe) :: pn) (hz : Zc cls d oe) (hf : ∃ vs, oe.data = .fields vs) (he : PE X e te)
    (hb : attributeBase e f X.env (eval e X.env) = eval e X.env := by rfl) : PE X (.Attribute e f pos) (tCapF X.K a cls d f te) := by
  refine ⟨fun pins s σ H Q I h => attr_of hb (thn (he.run pins s σ H _ I h) fun u s1 ⟨y, H1, I1, ry, ey, C, dd, fs, v, ec, T, hno, ed, ea, hl, q⟩ => ?_)⟩
  subst ey
  obtain rfl : u = Value.ref a := ry
  subst ec ed
  obtain ⟨ha, _⟩ := I1.pin (a, oe) (List.mem_append_left _ (by rw [hp]; exact List.mem_cons_self))
  obtain ⟨vs, hd⟩ := hf
  obtain ⟨mA, hns, hr⟩ := (show ObjOk X.prog X.w H1 s1.heap dd (.xd fs) from I1.hok dd _ ea)
  obtain ⟨od, ho, hl2⟩ := lookIn_ns hns
  obtain ⟨u, hu, ru⟩ := RelO.some_of (v := v) (o := mA f) (by rw [← hl]; exact hr f)
  have J : PySem.W.InstAt s1.heap a oe C (some od) := ⟨ha, hz.1, by unfold PySem.W.notCls; rw [hd] <;> rfl, by rw [hz.2]; exact ho⟩
  exact PySem.HandSPX.exc_get I1.kIn J T.ga T.gt T.sb (PySem.W.findObj_own T.hd hno rfl (by rw [hl2, hu])) (handed_of ru) ⟨v, H1, I1.tok _, ru, q⟩
/-- more of the class NoPlace -/
structure NPy (K : PySem.W.Frag) (mg : Str → Option Value) (CN CG : Addr) : Prop where
  mG : mg "GoneError" = some (.ref CG)
  k1 : PySem.W.kitOne K (.ref CN) (.type "LookupError") = some true
  k2 : PySem.W.kitAny K (.ref CN) [.type "ValueError", .ref CG] = some false
  te : PySem.W.exmOne K (.ref CN) (.ref CN) = some true
section
variable {P : Program} {w : World} {K : PySem.W.Frag} {mg : Str → Option Value} {base : Heap}
abbrev s__law_told : Stmt := top 33
abbrev n__law_told : List Str := ["_law_program", "_law_place", "_law_found", "error"]
theorem sc__law_told : FnScope n__law_told ["_law_program", "_law_place"] (defScope s__law_told) := ⟨rfl, rfl, rfl, by decide +kernel, rfl, by decide +kernel, by decide +kernel⟩
def spTold (K : PySem.W.Frag) : Sp := fun vs H Q _ => ∃ (v : V) (g : Int) (b : List Sta) (x : V) (r : Bool), vs = [v, x] ∧ TD H v (.tuple [.int g, partD b]) ∧ (∀ s ∈ b, NestOk 5 s) ∧ sizeB b ≤ 10000 ∧ (∀ H', Same H H' → IntQ K H' x r) ∧ (r = false → atPl b x = none) ∧
  (∀ s, atPl b x = some s → ∀ (H' : Hp) (R : Addr) (u : V), Same H H' → H' R = some (.lst [.str "ok", u]) → TD H' u s.data → Q (.ref R) H') ∧
  (atPl b x = none → ∀ (H' : Hp) (R : Addr), Same H H' → H' R = some (.lst [.str "none", x, .bl true, .bl false]) → R ≠ sysModules → Q (.ref R) H')
theorem ok_told {f fA : Addr} {fd dA : FuncData} {CN CG : Addr} (F : Fun K "_law_told" "_law_told" s__law_told f fd) (z_isi : mg "isinstance" = none) (z_le : mg "LookupError" = none) (z_ve : mg "ValueError" = none) (N : NPx P w K mg base CN) (Y : NPy K mg CN CG)
    (DA : Df K mg "statement_at" s_statement_at ["program", "place"] fA dA) (GA : FnOk P w K mg base (L2.CX P w) 8 fA dA ["program", "place"] (spSA K CN)) : FnOk P w K mg base CX0 9 f fd ["_law_program", "_law_place"] (spTold K) := by
  refine F.ok sc__law_told (fun vs H Q E ⟨v, g, b, x, r, ev, _⟩ => by rw [ev]; rfl) (fun cdv A outer s H vs Q E hr ⟨v, g, b, x, r, ev, td, ok, hz, hx, hn, q1, q2⟩ => ?_)
  subst ev
  refine ⟨_, (pss_cons (ps_try_as (i := 3) (ts := fun a cls dd => tSeq (tAsg (tLst (tCons (tC (.str "none")) (tCons (tCapF K a cls dd "place" (tVar 3)) tNil))) (gName 2)) (tAsg (tOp rCatB (tVar 2) (tLst (tCons (tCB (rCapI K a cls dd) (tCons (tVar 3) (tCons (tC (.ty "LookupError")) tNil))) (tCons (tCB (rCapT K a cls dd) (tCons (tVar 3) (tCons (tTup (tCons (tC (.ty "ValueError")) (tCons (tC (.ref CG)) tNil))) tNil))) tNil)))) (gName 2))) rfl rfl sc__law_told.nd rfl rfl ⟨rfl, by decide, .inl N.mg⟩ takes0
        (fun W pn xe tk _ => pss_one (ps_set (i := 2) sc__law_told.nd rfl (.inl rfl) (pe_lst (pa_cons pe_str (pa_cons (pe_callS GA hr (by rfl) DA.m DA.F.kp DA.b (fun σ => passAt tk σ) (pa_cons (pv 0) (pa_cons (pv 1) pa_nil))) pa_nil)))))
        (fun a oe cls dd pn hz hf => pss_cons (ps_set (i := 2) sc__law_told.nd rfl (.inl rfl) (pe_lst (pa_cons pe_str (pa_cons (pe_capG (pn := pn) rfl hz hf (pv 3)) pa_nil))))
          (pss_one (ps_set (i := 2) sc__law_told.nd rfl (.inl rfl) (pe_op op_catB (pv 2) (pe_lst (pa_cons (pe_callB (call_capI (pn := pn) rfl hz hf) (by rfl) z_isi (by decide +kernel) (pa_cons (pv 3) (pa_cons (pe_bltn (v := .ty "LookupError") (by rfl) z_le rfl rfl) pa_nil))) (pa_cons (pe_callB (call_capT (pn := pn) rfl hz hf) (by rfl) z_isi (by decide +kernel) (pa_cons (pv 3) (pa_cons (pe_tup (pa_cons (pe_bltn (v := .ty "ValueError") (by rfl) z_ve rfl rfl) (pa_cons (pe_glob (v := .ref CG) rfl Y.mG rfl) pa_nil))) pa_nil))) pa_nil))))))))
      (pss_one (ps_ret (pv 2)))), ?_⟩
  refine ⟨_, rfl, _, rfl, v, g, b, x, r, rfl, td, ok, hz, hx, hn, fun s hs H' u s' tdu => ?_, fun n0 H' dd s' gd => ?_⟩
  · exact ⟨Nat.le_of_ble_eq_true rfl, fun p np => ⟨_, rfl, q1 s hs _ p u (Same.trans s' (Same.up np)) upd_same (TD.ch (Ch.same (S := []) (Same.up np)) _ _ tdu)⟩⟩
  · refine ⟨true, Y.te, fun _ a na => ?_, fun z => nomatch z⟩
    have eq : H' dd = some (.xd [("place", x)]) := gd
    refine ⟨_, rfl, rfl, CN, dd, _, x, rfl, N.es.c, N.nf, rfl, gd, rfl, Nat.le_of_ble_eq_true rfl, fun p np => ?_⟩
    have s1 := Same.up (o := HO.lst [V.str "none", x]) np
    have gd := s1 _ _ gd
    have gp : upd H' p (HO.lst [V.str "none", x]) p = some (.lst [.str "none", x]) := upd_same
    have s1 := Same.trans s' s1
    generalize upd H' p (HO.lst [V.str "none", x]) = H1 at s1 gd gp ⊢
    refine ⟨_, rfl, _, rfl, CN, dd, _, _, _, true, rfl, rfl, rfl, N.es.c, gd, .ty "LookupError", Y.k1, _, rfl, Nat.le_of_ble_eq_true rfl, fun t nt => ?_⟩
    have s2 := Same.up (o := HO.tup [V.ty "ValueError", V.ref CG]) nt
    have gd := s2 _ _ gd
    have gp := s2 _ _ gp
    have gt : upd H1 t (HO.tup [V.ty "ValueError", V.ref CG]) t = some (.tup [V.ty "ValueError", V.ref CG]) := upd_same
    have s2 := Same.trans s1 s2
    generalize upd H1 t (HO.tup [V.ty "ValueError", V.ref CG]) = H2 at s2 gd gp gt ⊢
    refine ⟨CN, dd, _, t, _, _, false, rfl, rfl, rfl, N.es.c, gd, gt, .cons (.ty "ValueError") (.cons (.own CG) .nil), Y.k2, Nat.le_of_ble_eq_true rfl, fun p2 np2 => ?_⟩
    have gp3 := Same.up (o := HO.lst [V.bl true, V.bl false]) np2 _ _ gp
    refine ⟨p, p2, _, _, rfl, rfl, gp3, upd_same, line1000 (Nat.le_of_ble_eq_true rfl), fun R nR neR => ⟨_, rfl, ?_⟩⟩
    exact q2 n0 _ R (Same.trans s2 (Same.trans (Same.up np2) (Same.up nR))) upd_same neR
end
end G

set_option Elab.async false
set_option linter.all false
set_option maxRecDepth 100000
set_option maxHeartbeats 4000000
/-! k03: data that may be printed; its bounds. -/
namespace G
open PySem PySem.Spec PyProof.Rows L2
def intS (i : Nat) : Str := Str.ofString (toString (i : Int))
theorem intS_len : ∀ i < 100, (intS i).length ≤ 2 := by decide +kernel
theorem log13 {i : Nat} (h : i < 13) : ((i : Nat) : Int).natAbs.log2 < 1920 := Nat.lt_of_le_of_lt (Nat.log2_le_self _) (by omega)
mutual
theorem TD.dp {K : PySem.W.Frag} {H : Hp} : ∀ (d : PyData) (v : V), TD H v d → Dp K H v d
  | .none, _, h => by cases h; exact .non
  | .bool b, _, h => by cases h; exact .bl b
  | .int i, _, h => by cases h; exact .int i
  | .str x, _, h => by cases h; exact .str x
  | .list ds, _, h => nomatch h
  | .tuple ds, _, h => by
    cases h with
    | tup h1 h2 => exact .tup (SqT.of h1) (TDs.dp ds _ h2)
  | .dict _, _, h => nomatch h
theorem TDs.dp {K : PySem.W.Frag} {H : Hp} : ∀ (ds : List PyData) (vs : List V), TDs H vs ds → DpAll K H vs ds
  | [], _, h => by cases h; exact .nil
  | d :: ds, _, h => by
    cases h with
    | cons h1 h2 => exact .cons (TD.dp d _ h1) (TDs.dp ds _ h2)
end
/-! ### the items' bounds -/
structure ShowyS (ds : List PyData) (p n : Nat) : Prop where
  s : PyData.showableAll ds = true
  h : PyData.hasDictAll ds = false
  o : OkDs ds
  p : PyData.depthAll ds ≤ p
  b : bigs ds ≤ n
structure ShowyP (d : PyData) (p n : Nat) : Prop where
  s : d.showable = true
  h : d.hasDict = false
  o : OkD d
  p : d.depth ≤ p
  b : big d ≤ n
theorem ShowyS.nil {p : Nat} : ShowyS [] p 0 := ⟨rfl, rfl, trivial, Nat.zero_le _, Nat.zero_le _⟩
theorem ShowyS.cons {d : PyData} {ds : List PyData} {p n m : Nat} (a : ShowyP d p n) (b : ShowyS ds p m) : ShowyS (d :: ds) p (n + 2 + m) := by
  have a4 := a.p
  have a5 := a.b
  have b4 := b.p
  have b5 := b.b
  refine ⟨?_, ?_, ⟨a.o, b.o⟩, ?_, ?_⟩
  · simp only [PyData.showableAll, a.s, b.s, Bool.and_self]
  · simp only [PyData.hasDictAll, a.h, b.h, Bool.or_self]
  · simp only [PyData.depthAll]
    omega
  · simp only [bigs]
    omega
theorem ShowyS.tup {ds : List PyData} {p n : Nat} (a : ShowyS ds p n) : ShowyP (.tuple ds) (p + 1) (n + 4) :=
  ⟨a.s, a.h, a.o, Nat.add_le_add_right a.p 1, Nat.add_le_add_right a.b 4⟩
theorem ShowyP.mono {d : PyData} {p n p' n' : Nat} (a : ShowyP d p n) (hp : p ≤ p') (hn : n ≤ n') : ShowyP d p' n' := ⟨a.s, a.h, a.o, Nat.le_trans a.p hp, Nat.le_trans a.b hn⟩
theorem ShowyS.mono {d : List PyData} {p n p' n' : Nat} (a : ShowyS d p n) (hp : p ≤ p') (hn : n ≤ n') : ShowyS d p' n' := ⟨a.s, a.h, a.o, Nat.le_trans a.p hp, Nat.le_trans a.b hn⟩
theorem showy_nm {x : Str} (h : Nm x) (p : Nat) : ShowyP (.str x) p 82 := ⟨rfl, rfl, h.2, Nat.zero_le _, by have := h.1; show 10 * x.length + 2 ≤ 82; omega⟩
theorem showy_kw (s : String) (h : s.length ≤ 8) (p : Nat) : ShowyP (.str (Str.ofString s)) p 82 := ⟨rfl, rfl, OkS.of s, Nat.zero_le _, by
  have e : (Str.ofString s).length = s.length := by
    show (Str.ofString s).cps.size = _
    rw [← Array.length_toList, PyProof.Rows.signs_ofString, List.length_map]
    rfl
  show 10 * (Str.ofString s).length + 2 ≤ 82
  omega⟩
theorem showy_int {i : Nat} (h : i < 13) (p : Nat) : ShowyP (.int (i : Int)) p 82 := ⟨decide_eq_true (log13 h), rfl, trivial, Nat.zero_le _, Nat.le_trans (intS_len i (by omega)) (by decide)⟩
theorem showy_tst : ∀ (t : Tst), t.nm → ShowyP t.data (t.depth + 1) (400 + 100 * t.depth)
  | .given i, h => by
    have h : i < 4 := h
    exact (((showy_kw "given" (by decide) 0).mono (Nat.le_refl _) (Nat.le_refl _) |> fun a => ShowyS.cons a (ShowyS.cons (showy_int (by omega) 0) .nil)).tup).mono (Nat.le_refl _) (Nat.le_of_ble_eq_true rfl)
  | .set x, h => (ShowyS.cons (showy_kw "set" (by decide) 0) (ShowyS.cons (showy_nm h 0) .nil)).tup.mono (Nat.le_refl _) (Nat.le_of_ble_eq_true rfl)
  | .same x y, h => (ShowyS.cons (showy_kw "same" (by decide) 0) (ShowyS.cons (showy_nm h.1 0) (ShowyS.cons (showy_nm h.2 0) .nil))).tup.mono (Nat.le_refl _) (Nat.le_of_ble_eq_true rfl)
  | .full x y, h => (ShowyS.cons (showy_kw "full" (by decide) 0) (ShowyS.cons (showy_nm h.1 0) (ShowyS.cons (showy_nm h.2 0) .nil))).tup.mono (Nat.le_refl _) (Nat.le_of_ble_eq_true rfl)
  | .wished x, h => (ShowyS.cons (showy_kw "wished" (by decide) 0) (ShowyS.cons (showy_nm h 0) .nil)).tup.mono (Nat.le_refl _) (Nat.le_of_ble_eq_true rfl)
  | .not t, h => by
    have ih := showy_tst t h
    refine ((ShowyS.cons (showy_kw "not" (by decide) _) (ShowyS.cons ih .nil)).tup).mono (Nat.le_refl _) ?_
    show 82 + 2 + (400 + 100 * t.depth + 2 + 0) + 4 ≤ 400 + 100 * (t.depth + 1)
    omega
theorem showy_tst' {t : Tst} (h : t.ok) : ShowyP t.data 4 700 := (showy_tst t h.1).mono (by have := h.2; omega) (by have := h.2; omega)
theorem showy_act {a : Act} (h : a.nm) : ShowyP a.data 5 900 := by
  cases a with
  | make x => exact (ShowyS.cons (showy_kw "make" (by decide) 0) (ShowyS.cons (showy_nm h 0) .nil)).tup.mono (by decide) (by decide)
  | keep x => exact (ShowyS.cons (showy_kw "keep" (by decide) 0) (ShowyS.cons (showy_nm h 0) .nil)).tup.mono (by decide) (by decide)
  | drop x => exact (ShowyS.cons (showy_kw "drop" (by decide) 0) (ShowyS.cons (showy_nm h 0) .nil)).tup.mono (by decide) (by decide)
  | say x => exact (ShowyS.cons (showy_kw "say" (by decide) 0) (ShowyS.cons (showy_nm h 0) .nil)).tup.mono (by decide) (by decide)
  | wish x y => exact (ShowyS.cons (showy_kw "wish" (by decide) 0) (ShowyS.cons (showy_nm h.1 0) (ShowyS.cons (showy_nm h.2 0) .nil))).tup.mono (by decide) (by decide)
  | name x y => exact (ShowyS.cons (showy_kw "name" (by decide) 0) (ShowyS.cons (showy_nm h.1 0) (ShowyS.cons (showy_nm h.2 0) .nil))).tup.mono (by decide) (by decide)
  | cut x y => exact (ShowyS.cons (showy_kw "cut" (by decide) 0) (ShowyS.cons (showy_nm h.1 0) (ShowyS.cons (showy_nm h.2 0) .nil))).tup.mono (by decide) (by decide)
  | hold x y z => exact (ShowyS.cons (showy_kw "hold" (by decide) 0) (ShowyS.cons (showy_nm h.1 0) (ShowyS.cons (showy_nm h.2.1 0) (ShowyS.cons (showy_nm h.2.2 0) .nil)))).tup.mono (by decide) (by decide)
  | weak x y z => exact (ShowyS.cons (showy_kw "weak" (by decide) 0) (ShowyS.cons (showy_nm h.1 0) (ShowyS.cons (showy_nm h.2.1 0) (ShowyS.cons (showy_nm h.2.2 0) .nil)))).tup.mono (by decide) (by decide)
  | take x y z => exact (ShowyS.cons (showy_kw "take" (by decide) 0) (ShowyS.cons (showy_nm h.1 0) (ShowyS.cons (showy_nm h.2.1 0) (ShowyS.cons (showy_nm h.2.2 0) .nil)))).tup.mono (by decide) (by decide)
  | ask t => exact (ShowyS.cons (showy_kw "ask" (by decide) 4) (ShowyS.cons (showy_tst' h) .nil)).tup.mono (by decide) (by decide)
theorem sz1 (s : Sta) : 1 ≤ s.size := by cases s <;> first | exact Nat.le_refl 1 | exact Nat.le_add_right 1 _
mutual
theorem showy_sta : ∀ (d : Nat) (s : Sta), StaOk d s → ShowyP s.data (5 + 2 * d) (1000 * s.size - 2)
  | d, .act a, h => by
    have h : a.nm := by cases d <;> exact h
    exact (showy_act h).mono (by omega) (Nat.le_of_ble_eq_true rfl)
  | 0, .cond t y n, h => h.elim
  | d + 1, .cond t y n, h => by
    have h1 := showy_blk d y h.2.1
    have h2 := showy_blk d n h.2.2
    refine (ShowyS.cons (showy_kw "if" (by decide) (5 + 2 * d + 1)) (ShowyS.cons ((showy_tst' h.1).mono (by omega) (Nat.le_refl _)) (ShowyS.cons h1.tup (ShowyS.cons h2.tup .nil)))).tup.mono (by omega) ?_
    show 82 + 2 + (700 + 2 + (1000 * sizeB y + 4 + 2 + (1000 * sizeB n + 4 + 2 + 0))) + 4 ≤ 1000 * (1 + (sizeB y + sizeB n)) - 2
    omega
  | 0, .rep k b, h => h.elim
  | d + 1, .rep k b, h => by
    have h1 := showy_blk d b h.2
    refine (ShowyS.cons (showy_kw "repeat" (by decide) (5 + 2 * d + 1)) (ShowyS.cons (showy_int h.1 _) (ShowyS.cons h1.tup .nil))).tup.mono (by omega) ?_
    show 82 + 2 + (82 + 2 + (1000 * sizeB b + 4 + 2 + 0)) + 4 ≤ 1000 * (1 + sizeB b) - 2
    omega
theorem showy_blk : ∀ (d : Nat) (b : List Sta), (∀ s ∈ b, StaOk d s) → ShowyS (blkData b) (5 + 2 * d) (1000 * sizeB b)
  | d, [], h => .nil
  | d, s :: r, h => by
    have h1 := showy_sta d s (h s (List.mem_cons_self ..))
    have h2 := showy_blk d r fun z hz => h z (List.mem_cons_of_mem _ hz)
    have := sz1 s
    refine (ShowyS.cons h1 h2).mono (Nat.le_refl _) ?_
    show 1000 * s.size - 2 + 2 + 1000 * sizeB r ≤ 1000 * (s.size + sizeB r)
    omega
end
theorem ShowyS.lst {ds : List PyData} {p n : Nat} (a : ShowyS ds p n) : ShowyP (.list ds) (p + 1) (n + 4) :=
  ⟨a.s, a.h, a.o, Nat.add_le_add_right a.p 1, Nat.add_le_add_right a.b 4⟩
theorem showy_intG {i : Int} (h : i.natAbs.log2 < 1920) (p : Nat) : ShowyP (.int i) p 1921 := ⟨decide_eq_true h, rfl, trivial, Nat.zero_le _, int_text_len_1921 h⟩
theorem log_small {i : Int} {n : Nat} (h : i.natAbs ≤ n) (hn : n.log2 < 1920) : i.natAbs.log2 < 1920 := by
  by_cases z : i.natAbs = 0
  · rw [z]; decide
  · exact Nat.lt_of_le_of_lt ((Nat.le_log2 (by omega)).mpr (Nat.le_trans (Nat.log2_self_le z) h)) hn
theorem showy_bool (b : Bool) (p : Nat) : ShowyP (.bool b) p 5 := ⟨rfl, rfl, trivial, Nat.zero_le _, Nat.le_refl _⟩
theorem showy_none (p : Nat) : ShowyP .none p 4 := ⟨rfl, rfl, trivial, Nat.zero_le _, Nat.le_refl _⟩
/-! ### repr -/
def rRp (K : PySem.W.Frag) : List V → Hp → VK → Prop := fun vs H Q => ∃ (v : V) (d : PyData), vs = [v] ∧ Dp K H v d ∧ ShowyP d 100 16000000 ∧ Q (.str d.shown) H
theorem call_rp {X : Cx} (hg : X.A.guards = some []) (hu : X.A.units + 101 < cLine) : CallR X (.builtin "repr") (fun vs H Q => rRp X.K vs H Q ∨ rNone vs H Q) := by
  intro pins s σ H vs us Q I r h
  rcases h with ⟨v, d, ev, hd, ⟨h1, h2, h3, h4, h5⟩, q⟩ | h
  · exact call_reprD hg hu pins s σ H vs us Q I r ⟨v, d, ev, hd, h1, h2, h4, Nat.le_trans (shown_le d h3) (Nat.le_trans h5 (by rw [sizeLine_eq]; decide)), q⟩
  · exact call_reprN hg hu pins s σ H vs us Q I r h
def dW (d : PyData) : PyData := .list [.str "none", d, .bool true, .bool false]
theorem showy_wpl {H : Hp} {x : V} {d : PyData} (w : WPl H x d) (n : d ≠ .dict []) : ShowyP d 3 2000 := by
  cases w with
  | int i h1 h2 => exact (showy_intG (log_small (n := 10 ^ 40) (by omega) (by decide +kernel)) 3).mono (Nat.le_refl _) (by decide)
  | non => exact (showy_none 3).mono (Nat.le_refl _) (by decide)
  | bl b => exact (showy_bool b 3).mono (Nat.le_refl _) (by decide)
  | str x h1 h2 => exact ⟨rfl, rfl, h2, Nat.zero_le _, by show 10 * x.length + 2 ≤ 2000; omega⟩
  | e0 h => exact (ShowyS.nil (p := 0)).tup.mono (by decide) (by decide)
  | e1 h => exact (ShowyS.cons (showy_int (i := 0) (by decide) 0) .nil).tup.mono (by decide) (by decide)
  | l1 h => exact (ShowyS.cons (showy_int (i := 0) (by decide) 0) .nil).lst.mono (by decide) (by decide)
  | d0 h => exact absurd rfl n
theorem dp_wpl {K : PySem.W.Frag} {H : Hp} {x : V} {d : PyData} (w : WPl H x d) (n : d ≠ .dict []) : Dp K H x d := by
  cases w with
  | int i h1 h2 => exact .int i
  | non => exact .non
  | bl b => exact .bl b
  | str x h1 h2 => exact .str x
  | e0 h => exact .tup (SqT.of h) .nil
  | e1 h => exact .tup (SqT.of h) (.cons (.int 0) .nil)
  | l1 h => exact .lst (SqL.of h) (.cons (.int 0) .nil)
  | d0 h => exact absurd rfl n
theorem repr_wpl {K : PySem.W.Frag} {H : Hp} {x : V} {d : PyData} {l : Addr} {Q : VK} (w : WPl H x d) (hl : H l = some (.lst [.str "none", x, .bl true, .bl false])) (ne : l ≠ sysModules) (q : Q (.str (dW d).shown) H) : rRp K [.ref l] H Q ∨ rNone [.ref l] H Q := by
  by_cases n : d = .dict []
  · subst n
    cases w with
    | d0 h => exact .inr ⟨l, _, rfl, hl, h, ne, q⟩
  · have s := showy_wpl w n
    exact .inl ⟨_, _, rfl, .lst (SqL.of hl) (.cons (.str _) (.cons (dp_wpl w n) (.cons (.bl true) (.cons (.bl false) .nil)))), (ShowyS.cons (showy_kw "none" (by decide) 3) (ShowyS.cons s (ShowyS.cons (showy_bool true 3) (ShowyS.cons (showy_bool false 3) .nil)))).lst.mono (by decide) (by decide), q⟩
end G

set_option Elab.async false
set_option linter.all false
set_option maxRecDepth 100000
set_option maxHeartbeats 4000000
/-! k03: bounds of what is printed; a sorted list is known by its members. -/
namespace G
open PySem PySem.Spec PyProof.Rows L2
/-! ### one sorted list alone -/
def leS (a b : Str) : Prop := a.cps.toList ≤ b.cps.toList
theorem rising_pair : ∀ (r : List Str) (p : Str), risingS p r = true → (p :: r).Pairwise leS
  | [], p, _ => List.pairwise_singleton _ _
  | x :: r, p, h => by
    have h : (!ltCps x.cps.toList p.cps.toList && risingS x r) = true := h
    rw [Bool.and_eq_true, ltCps_eq, Bool.not_eq_true', decide_eq_false_iff_not] at h
    have ih := rising_pair r x h.2
    have px : leS p x := List.not_lt.mp h.1
    refine List.pairwise_cons.mpr ⟨fun y hy => ?_, ih⟩
    rcases List.mem_cons.mp hy with rfl | hy
    · exact px
    · exact List.le_trans px ((List.pairwise_cons.mp ih).1 y hy)
theorem sorted_pair : ∀ (l : List Str), sortedS l = true → l.Pairwise leS
  | [], _ => .nil
  | x :: r, h => rising_pair r x h
theorem leS_anti {a b : Str} (h : leS a b) (g : leS b a) : a = b := by
  have e : a.cps.toList = b.cps.toList := List.le_antisymm h g
  obtain ⟨⟨x⟩⟩ := a
  obtain ⟨⟨y⟩⟩ := b
  simp only at e
  rw [e]
theorem sortD_one {xs ys zs : List Str} (a : SortD xs ys) (b : SortD xs zs) : ys = zs := by
  refine List.Perm.eq_of_pairwise (le := leS) (fun x y _ _ h g => leS_anti h g) (sorted_pair ys a.1) (sorted_pair zs b.1) ?_
  exact (List.perm_ext_iff_of_nodup a.2.1 b.2.1).mpr fun k => (a.2.2.1 k).trans (b.2.2.1 k).symm
/-! ### rows -/
theorem sta_up : ∀ {d : Nat} {s : Sta}, StaOk d s → StaOk (d + 1) s
  | d, .act a, h => by
    have h : a.nm := by cases d <;> exact h
    exact h
  | 0, .cond t y n, h => h.elim
  | d + 1, .cond t y n, h => ⟨h.1, fun s hs => sta_up (h.2.1 s hs), fun s hs => sta_up (h.2.2 s hs)⟩
  | 0, .rep k b, h => h.elim
  | d + 1, .rep k b, h => ⟨h.1, fun s hs => sta_up (h.2 s hs)⟩
theorem sta_le {d e : Nat} {s : Sta} (h : StaOk d s) (l : d ≤ e) : StaOk e s := by
  obtain ⟨k, rfl⟩ := Nat.exists_eq_add_of_le l
  clear l
  induction k with
  | zero => exact h
  | succ k ih => exact sta_up ih
mutual
theorem staRows_ok : ∀ (d k : Nat) (s : Sta), StaOk d s → ∀ p ∈ staRows k s, StaOk d p.2 ∧ p.2.size ≤ s.size ∧ p.1 ≤ k + d
  | d, k, .act a, h, p, hp => by
    have hp : p ∈ [(k, Sta.act a)] := hp
    rw [List.mem_singleton.mp hp]
    exact ⟨h, Nat.le_refl _, by omega⟩
  | 0, k, .cond t y n, h, p, hp => h.elim
  | d + 1, k, .cond t y n, h, p, hp => by
    have hp : p ∈ (k, Sta.cond t y n) :: (rowsP (k + 1) y ++ rowsP (k + 1) n) := hp
    have e : (Sta.cond t y n).size = 1 + (sizeB y + sizeB n) := rfl
    rcases List.mem_cons.mp hp with rfl | hp
    · exact ⟨h, Nat.le_refl _, by omega⟩
    rcases List.mem_append.mp hp with hp | hp
    · obtain ⟨a, b, c⟩ := rowsP_ok d (k + 1) y h.2.1 p hp
      exact ⟨sta_up a, by omega, by omega⟩
    · obtain ⟨a, b, c⟩ := rowsP_ok d (k + 1) n h.2.2 p hp
      exact ⟨sta_up a, by omega, by omega⟩
  | 0, k, .rep c b, h, p, hp => h.elim
  | d + 1, k, .rep c b, h, p, hp => by
    have hp : p ∈ (k, Sta.rep c b) :: rowsP (k + 1) b := hp
    have e : (Sta.rep c b).size = 1 + sizeB b := rfl
    rcases List.mem_cons.mp hp with rfl | hp
    · exact ⟨h, Nat.le_refl _, by omega⟩
    · obtain ⟨a, b, c⟩ := rowsP_ok d (k + 1) b h.2 p hp
      exact ⟨sta_up a, by omega, by omega⟩
theorem rowsP_ok : ∀ (d k : Nat) (b : List Sta), (∀ s ∈ b, StaOk d s) → ∀ p ∈ rowsP k b, StaOk d p.2 ∧ p.2.size ≤ sizeB b ∧ p.1 ≤ k + d
  | d, k, [], h, p, hp => absurd hp List.not_mem_nil
  | d, k, s :: r, h, p, hp => by
    have hp : p ∈ staRows k s ++ rowsP k r := hp
    have e : sizeB (s :: r) = s.size + sizeB r := rfl
    rcases List.mem_append.mp hp with hp | hp
    · obtain ⟨a, b, c⟩ := staRows_ok d k s (h s List.mem_cons_self) p hp
      exact ⟨a, by omega, c⟩
    · obtain ⟨a, b, c⟩ := rowsP_ok d k r (fun z hz => h z (List.mem_cons_of_mem _ hz)) p hp
      exact ⟨a, by omega, c⟩
end
def RowsOk (l : List (Nat × Sta)) : Prop := ∀ p ∈ l, StaOk 5 p.2 ∧ p.2.size ≤ 100 ∧ p.1 ≤ 5
theorem rows_fine {b : List Sta} (h : ∀ s ∈ b, StaOk 5 s) (z : sizeB b ≤ 100) : RowsOk (rowsP 0 b) := fun p hp => by
  obtain ⟨a, b, c⟩ := rowsP_ok 5 0 b h p hp
  exact ⟨a, by omega, by omega⟩
theorem showy_nat {i : Nat} (h : i ≤ 1000) (p : Nat) : ShowyP (.int (i : Int)) p 1921 := showy_intG (log_small (n := 1000) (by omega) (by decide)) p
theorem showy_rows : ∀ (l : List (Nat × Sta)) (i : Nat), RowsOk l → i + l.length ≤ 1000 → ShowyS (rowsD i l) 20 (l.length * 110000)
  | [], i, h, z => .nil
  | p :: r, i, h, z => by
    obtain ⟨a, b, c⟩ := h p List.mem_cons_self
    have z : i + (r.length + 1) ≤ 1000 := z
    have ih := showy_rows r (i + 1) (fun q hq => h q (List.mem_cons_of_mem _ hq)) (by omega)
    have h1 := (showy_sta 5 p.2 a).mono (p' := 15) (n' := 100000) (by decide) (by omega)
    have h2 := (ShowyS.cons (showy_nat (i := i) (by omega) 15) (ShowyS.cons (showy_nat (i := p.1) (by omega) 15) (ShowyS.cons h1 .nil))).tup.mono (p' := 20) (n' := 109998) (by decide) (by decide)
    refine (ShowyS.cons h2 ih).mono (Nat.le_refl _) ?_
    show 109998 + 2 + r.length * 110000 ≤ (r.length + 1) * 110000
    omega
def dDue (b : List Sta) : PyData := .list (rowsD 0 (rowsP 0 b))
theorem showy_due {b : List Sta} (h : ∀ s ∈ b, StaOk 5 s) (z : sizeB b ≤ 100) : ShowyP (dDue b) 100 16000000 := by
  have l : (rowsP 0 b).length ≤ 100 := by rw [rowsP_len]; exact z
  exact (showy_rows _ 0 (rows_fine h z) (by omega)).lst.mono (by decide) (by omega)
def dOk (s : Sta) : PyData := .list [.str "ok", s.data]
theorem showy_ok {s : Sta} (h : StaOk 5 s) (z : s.size ≤ 100) : ShowyP (dOk s) 100 16000000 :=
  (ShowyS.cons (showy_kw "ok" (by decide) 15) (ShowyS.cons ((showy_sta 5 s h).mono (p' := 15) (n' := 100000) (by decide) (by omega)) .nil)).lst.mono (by decide) (by decide)
/-! ### weights -/
mutual
theorem wtS_le : ∀ (d : Nat) (s : Sta), StaOk d s → 0 ≤ wtS s ∧ wtS s ≤ 13 ^ d * (s.size : Int)
  | d, .act a, h => by
    have h2 : (1 : Int) ≤ 13 ^ d := Int.pow_pos (by decide)
    exact ⟨(by show (0 : Int) ≤ 1; decide), by show (1 : Int) ≤ 13 ^ d * 1; omega⟩
  | 0, .cond t y n, h => h.elim
  | d + 1, .cond t y n, h => by
    have h2 : (1 : Int) ≤ 13 ^ d := Int.pow_pos (by decide)
    obtain ⟨a1, a2⟩ := wtB_le d y h.2.1
    obtain ⟨b1, b2⟩ := wtB_le d n h.2.2
    have e : ((Sta.cond t y n).size : Int) = 1 + ((sizeB y : Int) + sizeB n) := by
      show ((1 + (sizeB y + sizeB n) : Nat) : Int) = _
      omega
    have p : (13 : Int) ^ (d + 1) = 13 ^ d * 13 := Int.pow_succ ..
    refine ⟨by show 0 ≤ 1 + (wtB y + wtB n); omega, ?_⟩
    show 1 + (wtB y + wtB n) ≤ 13 ^ (d + 1) * ((Sta.cond t y n).size : Int)
    rw [e, p]
    have q1 : 0 ≤ (13 : Int) ^ d * (sizeB y : Int) := Int.mul_nonneg (by omega) (by omega)
    have q2 : 0 ≤ (13 : Int) ^ d * (sizeB n : Int) := Int.mul_nonneg (by omega) (by omega)
    have q3 : (13 : Int) ^ d * (1 + ((sizeB y : Int) + sizeB n)) = 13 ^ d + (13 ^ d * (sizeB y : Int) + 13 ^ d * (sizeB n : Int)) := by rw [Int.mul_add, Int.mul_add, Int.mul_one]
    rw [Int.mul_comm ((13 : Int) ^ d) 13, Int.mul_assoc, q3]
    omega
  | 0, .rep k b, h => h.elim
  | d + 1, .rep k b, h => by
    have h2 : (1 : Int) ≤ 13 ^ d := Int.pow_pos (by decide)
    obtain ⟨a1, a2⟩ := wtB_le d b h.2
    have hk : k < 13 := h.1
    have e : ((Sta.rep k b).size : Int) = 1 + (sizeB b : Int) := by
      show ((1 + sizeB b : Nat) : Int) = _
      omega
    have p : (13 : Int) ^ (d + 1) = 13 ^ d * 13 := Int.pow_succ ..
    have q0 : 0 ≤ (k : Int) * wtB b := Int.mul_nonneg (by omega) a1
    have q3 : (k : Int) * wtB b ≤ 13 * wtB b := Int.mul_le_mul_of_nonneg_right (by omega) a1
    refine ⟨by show 0 ≤ 1 + (k : Int) * wtB b; omega, ?_⟩
    show 1 + (k : Int) * wtB b ≤ 13 ^ (d + 1) * ((Sta.rep k b).size : Int)
    rw [e, p]
    have q4 : (13 : Int) ^ d * (1 + (sizeB b : Int)) = 13 ^ d + 13 ^ d * (sizeB b : Int) := by rw [Int.mul_add, Int.mul_one]
    rw [Int.mul_comm ((13 : Int) ^ d) 13, Int.mul_assoc, q4]
    omega
theorem wtB_le : ∀ (d : Nat) (b : List Sta), (∀ s ∈ b, StaOk d s) → 0 ≤ wtB b ∧ wtB b ≤ 13 ^ d * (sizeB b : Int)
  | d, [], h => ⟨Int.le_refl _, by show (0 : Int) ≤ 13 ^ d * 0; omega⟩
  | d, s :: r, h => by
    obtain ⟨a1, a2⟩ := wtS_le d s (h s List.mem_cons_self)
    obtain ⟨b1, b2⟩ := wtB_le d r fun z hz => h z (List.mem_cons_of_mem _ hz)
    have e : (sizeB (s :: r) : Int) = (s.size : Int) + sizeB r := by
      show ((s.size + sizeB r : Nat) : Int) = _
      omega
    refine ⟨by show 0 ≤ wtS s + wtB r; omega, ?_⟩
    show wtS s + wtB r ≤ 13 ^ d * (sizeB (s :: r) : Int)
    rw [e, Int.mul_add]
    omega
end
theorem showy_wt {b : List Sta} (h : ∀ s ∈ b, StaOk 5 s) (z : sizeB b ≤ 100) (p : Nat) : ShowyP (.int (wtB b)) p 1921 := by
  obtain ⟨a, c⟩ := wtB_le 5 b h
  have e : (13 : Int) ^ 5 = 371293 := by decide
  rw [e] at c
  exact showy_intG (log_small (n := 10 ^ 9) (by omega) (by decide)) p
/-! ### what is found -/
theorem places_in (w : Str) : ∀ (l : List (Nat × Sta)) (i : Nat), i + l.length ≤ 1000 → ShowyS ((placesW w i l).map .int) 0 (l.length * 1923)
  | [], i, h => .nil
  | p :: r, i, h => by
    have h : i + (r.length + 1) ≤ 1000 := h
    have ih := places_in w r (i + 1) (by omega)
    show ShowyS ((if headS p.2 = w then (i : Int) :: placesW w (i + 1) r else placesW w (i + 1) r).map .int) 0 ((r.length + 1) * 1923)
    split
    · refine (ShowyS.cons (showy_nat (i := i) (by omega) 0) ih).mono (Nat.le_refl _) ?_
      omega
    · exact ih.mono (Nat.le_refl _) (by omega)
theorem showy_strs : ∀ (l : List Str), (∀ x ∈ l, Nm x) → ShowyS (l.map .str) 0 (l.length * 84)
  | [], h => .nil
  | x :: r, h => by
    have ih := showy_strs r fun y hy => h y (List.mem_cons_of_mem _ hy)
    refine (ShowyS.cons (showy_nm (h x List.mem_cons_self) 0) ih).mono (Nat.le_refl _) ?_
    show 82 + 2 + r.length * 84 ≤ (r.length + 1) * 84
    omega
theorem wish_nm {s : Sta} {d : Nat} {y : Str} (h : StaOk d s) (e : wishOf s = some y) : Nm y := by
  cases s with
  | act a =>
    have h : a.nm := by cases d <;> exact h
    cases a <;> cases e
    exact h.2
  | _ => cases e
def dFound (b : List Sta) (ys : List Str) : PyData := .list [.tuple ((placesW "make" 0 (rowsP 0 b)).map .int), .tuple ((placesW "weak" 0 (rowsP 0 b)).map .int), .tuple (ys.map .str), .int (wtB b)]
theorem showy_found {b : List Sta} {ys : List Str} (h : ∀ s ∈ b, StaOk 5 s) (z : sizeB b ≤ 100) (so : SortD (wishesL (rowsP 0 b)) ys) : ShowyP (dFound b ys) 100 16000000 := by
  have l : (rowsP 0 b).length ≤ 100 := by rw [rowsP_len]; exact z
  have ly : ys.length ≤ 100 := Nat.le_trans so.2.2.2 (Nat.le_trans (wishesL_len _) l)
  have nm : ∀ x ∈ ys, Nm x := fun x hx => by
    obtain ⟨p, hp, e⟩ := List.mem_filterMap.mp ((so.2.2.1 x).mp hx)
    exact wish_nm (rows_fine h z p hp).1 e
  have p1 := (places_in "make" (rowsP 0 b) 0 (by omega)).tup.mono (p' := 5) (n' := 200000) (by decide) (by omega)
  have p2 := (places_in "weak" (rowsP 0 b) 0 (by omega)).tup.mono (p' := 5) (n' := 200000) (by decide) (by omega)
  have p3 := (showy_strs ys nm).tup.mono (p' := 5) (n' := 9000) (by decide) (by omega)
  exact (ShowyS.cons p1 (ShowyS.cons p2 (ShowyS.cons p3 (ShowyS.cons (showy_wt h z 5) .nil)))).lst.mono (by decide) (by decide)
end G

set_option Elab.async false
set_option linter.all false
set_option maxRecDepth 100000
set_option maxHeartbeats 4000000
/-! k03: what stands while the law compares. -/
namespace G
open PySem PySem.Spec PyProof.Rows L2
/-- the row at i: its tuple, its statement -/
theorem row_at {H : Hp} {rs : List V} {lp : List (Nat × Sta)} (td : TDs H rs (lp.map rowD)) {i : Nat} (h : i < rs.length) : ∃ (pr : Nat × Sta) (tx : Addr) (u : V), lp[i]? = some pr ∧ rs[i]? = some (.ref tx) ∧ atI rs (i : Int) = some (.ref tx) ∧ H tx = some (.tup [.int (pr.1 : Int), u]) ∧ TD H u pr.2.data := by
  obtain ⟨dt, edt, tdv⟩ := td.at (List.getElem?_eq_getElem h)
  rw [List.getElem?_map] at edt
  obtain ⟨pr, hpr, rfl⟩ := Option.map_eq_some_iff.mp edt
  obtain ⟨tx, xs2, etx, gtx, ex⟩ := td_tup tdv
  obtain ⟨u1, xs3, rfl, du1, ex2⟩ := tds_cons ex
  cases du1
  obtain ⟨u2, rfl, du2⟩ := tds1 ex2
  refine ⟨pr, tx, u2, hpr, ?_, ?_, gtx, du2⟩
  · rw [List.getElem?_eq_getElem h, etx]
  · rw [← etx]; exact atI_nat (List.getElem?_eq_getElem h)
structure LS (H : Hp) (D L : Addr) (n : Nat) (p R U : Addr) (g : Int) (blk : List Sta) (rs us : List V) : Prop where
  dk : Deck H D L n
  pr : TD H (.ref p) (.tuple [.int g, partD blk])
  r : H R = some (.lst rs)
  rt : TDs H rs ((rowsP 0 blk).map rowD)
  u : H U = some (.lst us)
  ut : TDs H us (rowsD 0 (rowsP 0 blk))
  nR : R ∉ [D, L]
  nU : U ∉ [D, L]
section
variable {H H' : Hp} {D L p R U : Addr} {n n' : Nat} {g : Int} {blk : List Sta} {rs us : List V}
theorem LS.same (l : LS H D L n p R U g blk rs us) (s : Same H H') : LS H' D L n p R U g blk rs us :=
  ⟨l.dk.kp (Kp.same (S := []) s) (fun z => nomatch z) (fun z => nomatch z), TD.ch (Ch.same (S := []) s) _ _ l.pr, s _ _ l.r, TDs.ch (Ch.same (S := []) s) _ _ l.rt, s _ _ l.u, TDs.ch (Ch.same (S := []) s) _ _ l.ut, l.nR, l.nU⟩
theorem LS.deck (l : LS H D L n p R U g blk rs us) (c : Ch [D, L] H H') (d : Deck H' D L n') : LS H' D L n' p R U g blk rs us :=
  ⟨d, TD.ch c _ _ l.pr, c.kp _ _ l.nR l.r, TDs.ch c _ _ l.rt, c.kp _ _ l.nU l.u, TDs.ch c _ _ l.ut, l.nR, l.nU⟩
theorem LS.len (l : LS H D L n p R U g blk rs us) : rs.length = (rowsP 0 blk).length := by rw [l.rt.len, List.length_map]
theorem LS.row (l : LS H D L n p R U g blk rs us) {i : Nat} (h : i < rs.length) : ∃ (pr : Nat × Sta) (tx : Addr) (u : V), (rowsP 0 blk)[i]? = some pr ∧ rs[i]? = some (.ref tx) ∧ atI rs (i : Int) = some (.ref tx) ∧ H tx = some (.tup [.int (pr.1 : Int), u]) ∧ TD H u pr.2.data := row_at l.rt h
theorem LS.vb (l : LS H D L n p R U g blk rs us) : ∃ vb, H p = some (.tup [.int g, vb]) ∧ TD H vb (partD blk) := by
  obtain ⟨r0, xs, e, gr0, e0⟩ := td_tup l.pr
  cases e
  obtain ⟨v1, ys, rfl, d1, e1⟩ := tds_cons e0
  cases d1
  obtain ⟨v2, rfl, d2⟩ := tds1 e1
  exact ⟨v2, gr0, d2⟩
end
theorem atPl_at {b : List Sta} {i : Nat} {p : Nat × Sta} (h : (rowsP 0 b)[i]? = some p) : atPl b (.int (i : Int)) = some p.2 := by
  have lt := (List.getElem?_eq_some_iff.mp h).1
  show (if 0 ≤ (i : Int) ∧ (i : Int) < ((rowsP 0 b).length : Int) then ((rowsP 0 b)[(i : Int).toNat]?).map (·.2) else none) = _
  rw [if_pos ⟨by omega, by omega⟩, Int.toNat_natCast, h]
  rfl
theorem atPl_no {b : List Sta} {i : Int} (h : ¬ (0 ≤ i ∧ i < ((rowsP 0 b).length : Int))) : atPl b (.int i) = none := if_neg h
/-- which value is an int -/
theorem wpl_q {K : PySem.W.Frag} {H : Hp} {x : V} {d : PyData} (w : WPl H x d) : (∃ i, x = .int i) ∨ (∃ b, x = .bl b) ∨ ((∀ b : List Sta, atPl b x = none) ∧ ∃ n, kitB n "int" = some false ∧ ∀ H', Same H H' → TyX K H' x (.type n)) := by
  cases w with
  | int i h1 h2 => exact .inl ⟨i, rfl⟩
  | bl b => exact .inr (.inl ⟨b, rfl⟩)
  | non => exact .inr (.inr ⟨fun _ => rfl, "NoneType", by decide +kernel, fun _ _ => .base .non⟩)
  | str x h1 h2 => exact .inr (.inr ⟨fun _ => rfl, "str", by decide +kernel, fun _ _ => .base (.str x)⟩)
  | e0 h => exact .inr (.inr ⟨fun _ => rfl, "tuple", by decide +kernel, fun _ s => .base (.tup (s _ _ h))⟩)
  | e1 h => exact .inr (.inr ⟨fun _ => rfl, "tuple", by decide +kernel, fun _ s => .base (.tup (s _ _ h))⟩)
  | l1 h => exact .inr (.inr ⟨fun _ => rfl, "list", by decide +kernel, fun _ s => .base (.lst (s _ _ h))⟩)
  | d0 h => exact .inr (.inr ⟨fun _ => rfl, "dict", by decide +kernel, fun _ s => .base (.dK (s _ _ h))⟩)
theorem placesW_snoc (w : Str) : ∀ (l : List (Nat × Sta)) (i : Nat) (p : Nat × Sta), placesW w i (l ++ [p]) = placesW w i l ++ (if headS p.2 = w then [((i + l.length : Nat) : Int)] else [])
  | [], i, p => by
    show (if headS p.2 = w then (i : Int) :: [] else []) = _
    rfl
  | x :: r, i, p => by
    have ih := placesW_snoc w r (i + 1) p
    have e : i + (x :: r).length = i + 1 + r.length := by show i + (r.length + 1) = _; omega
    rw [e]
    show (if headS x.2 = w then (i : Int) :: placesW w (i + 1) (r ++ [p]) else placesW w (i + 1) (r ++ [p])) = (if headS x.2 = w then (i : Int) :: placesW w (i + 1) r else placesW w (i + 1) r) ++ _
    split
    · rw [ih]; rfl
    · exact ih
theorem placesW_take {w : Str} {l : List (Nat × Sta)} {i : Nat} {p : Nat × Sta} (h : l[i]? = some p) : placesW w 0 (l.take (i + 1)) = placesW w 0 (l.take i) ++ (if headS p.2 = w then [(i : Int)] else []) := by
  have lt := (List.getElem?_eq_some_iff.mp h).1
  rw [List.take_add_one, h]
  show placesW w 0 (l.take i ++ [p]) = _
  rw [placesW_snoc, List.length_take, Nat.zero_add, Nat.min_eq_left (Nat.le_of_lt lt)]
theorem placesW_len (w : Str) : ∀ (l : List (Nat × Sta)) (i : Nat), (placesW w i l).length ≤ l.length
  | [], i => Nat.le_refl _
  | p :: r, i => by
    have ih := placesW_len w r (i + 1)
    show (if headS p.2 = w then (i : Int) :: placesW w (i + 1) r else placesW w (i + 1) r).length ≤ r.length + 1
    split
    · exact Nat.succ_le_succ ih
    · exact Nat.le_succ_of_le ih
theorem wishesL_take {l : List (Nat × Sta)} {i : Nat} {p : Nat × Sta} (h : l[i]? = some p) : wishesL (l.take (i + 1)) = wishesL (l.take i) ++ (wishOf p.2).toList := by
  rw [List.take_add_one, h]
  unfold wishesL
  rw [List.filterMap_append]
  show _ ++ [p].filterMap _ = _
  rw [List.filterMap_cons]
  cases wishOf p.2 <;> rfl
theorem tds_ints {H : Hp} : ∀ l : List Int, TDs H (l.map V.int) (l.map .int)
  | [] => .nil
  | i :: r => .cons (.int i) (tds_ints r)
theorem tds_strs {H : Hp} : ∀ l : List Str, TDs H (l.map V.str) (l.map .str)
  | [] => .nil
  | i :: r => .cons (.str i) (tds_strs r)
end G

set_option Elab.async false
set_option linter.all false
set_option maxRecDepth 100000
set_option maxHeartbeats 8000000
/-! k03: the law. -/
namespace G
open PySem PySem.Spec PyProof.Rows L2
def rTupO (K : PySem.W.Frag) : List V → Hp → VK → Prop := fun xs H Q => ∃ p ys, xs = [.ref p] ∧ ((SqL K H p ys ∧ ∀ l, H l = none → Q (.ref l) (upd H l (.tup ys))) ∨ (SqT K H p ys ∧ Q (.ref p) H))
def rLenS (K : PySem.W.Frag) : List V → Hp → VK → Prop := fun xs H Q => ∃ p ys, xs = [.ref p] ∧ (SqL K H p ys ∨ SqT K H p ys) ∧ Q (.int ys.length) H
def E9 : XK := fun _ _ _ => False
theorem pass9 {X : Cx} {P : Program} {w : World} : Passes (L2.CX P w) X E9 := fun pins σ H s e s' I c => by
  obtain ⟨a, B, H', cls, d, rfl, fl, _, _, _, _, _, hW⟩ := c
  exact hW.elim
theorem nostop9 {K : PySem.W.Frag} : NoStop K E9 := fun _ _ _ z => z.elim
section
variable {P : Program} {w : World} {K : PySem.W.Frag} {mg : Str → Option Value} {base : Heap}
abbrev s_law : Stmt := top 34
abbrev n_law : List Str := ["_law_script", "_law_deck_here", "_law_turn", "_law_program", "_law_pool_here", "_law_rows_here", "_law_due", "_law_time", "_law_place", "_law_is_place", "_law_words", "_law_places", "_law_wishes", "_law_found", "_law_depth", "_law_row_here", "_law_word_here", "_law_k"]
theorem sc_law : FnScope n_law ["_law_script"] (defScope s_law) := ⟨rfl, rfl, rfl, by decide +kernel, rfl, by decide +kernel, by decide +kernel⟩
/-- what is free in the module -/
structure Zs (mg : Str → Option Value) : Prop where
  range : mg "range" = none
  len : mg "len" = none
  repr : mg "repr" = none
  list : mg "list" = none
  tuple : mg "tuple" = none
  set : mg "set" = none
  sorted : mg "sorted" = none
  isi : mg "isinstance" = none
  int : mg "int" = none
  bool : mg "bool" = none
theorem ok_law {f fD fW fF fL fE fT fP fM fK fS fG fH : Addr} {fd dD dW dF dL dE dT dP dM dK dS dG dH : FuncData} (F : Fun K "law" "law" s_law f fd) (Z : Zs mg)
    (DD : Df K mg "_law_deck" s__law_deck ["_law_script"] fD dD) (GD : FnOk P w K mg base CX0 1 fD dD ["_law_script"] (spDeck K))
    (DW : Df K mg "_law_draw" s__law_draw ["_law_deck_here", "_law_many"] fW dW) (GW : FnOk P w K mg base CX0 1 fW dW ["_law_deck_here", "_law_many"] spDraw)
    (DF : Df K mg "_law_free" s__law_free ["_law_deck_here", "_law_most"] fF dF) (GF : FnOk P w K mg base CX0 15 fF dF ["_law_deck_here", "_law_most"] spFree)
    (DL : Df K mg "_law_flat" s__law_flat ["_law_block", "_law_depth"] fL dL) (GL : FnOk P w K mg base CX0 7 fL dL ["_law_block", "_law_depth"] (spRO 5))
    (DE : Df K mg "each_statement" s_each_statement ["program"] fE dE) (GE : GFn P w K mg base 8 fE dE ["program"] spEL)
    (DT : Df K mg "_law_told" s__law_told ["_law_program", "_law_place"] fT dT) (GT : FnOk P w K mg base CX0 9 fT dT ["_law_program", "_law_place"] (spTold K))
    (DP : Df K mg "_law_wrong_places" s__law_wrong_places ["_law_deck_here", "_law_count"] fP dP) (GP : FnOk P w K mg base CX0 3 fP dP ["_law_deck_here", "_law_count"] spWP)
    (DM : Df K mg "make_places" s_make_places ["program"] fM dM) (GM : FnOk P w K mg base CX0 11 fM dM ["program"] (spPl "make"))
    (DK : Df K mg "weak_places" s_weak_places ["program"] fK dK) (GK : FnOk P w K mg base CX0 11 fK dK ["program"] (spPl "weak"))
    (DS : Df K mg "wishes_of" s_wishes_of ["program"] fS dS) (GS : FnOk P w K mg base CX0 10 fS dS ["program"] spWs)
    (DG : Df K mg "weight" s_weight ["program"] fG dG) (GG : FnOk P w K mg base CX0 8 fG dG ["program"] spWt)
    (DH : Df K mg "_law_weight" s__law_weight ["_law_block"] fH dH) (GH : FnOk P w K mg base CX0 7 fH dH ["_law_block"] (spBW 5)) : FnOkG P w K mg base 16 f fd ["_law_script"] (spLawN K 63) := by
  refine G.Fun.okG F sc_law (fun vs H Q E ⟨a, ns, ev, _⟩ => by rw [ev]; rfl) (fun cdv A outer s H vs Q E gA hr ⟨a, ns, ev, hS, hlen, q⟩ => ?_)
  subst ev
  have hr1 : Room 1 _ := hr.mono (by decide)
  have hr3 : Room 3 _ := hr.mono (by decide)
  have hr7 : Room 7 _ := hr.mono (by decide)
  have hr8 : Room 8 _ := hr.mono (by decide)
  have hr9 : Room 9 _ := hr.mono (by decide)
  have hr10 : Room 10 _ := hr.mono (by decide)
  have hr11 : Room 11 _ := hr.mono (by decide)
  have hu101 : (A.deeper (envOfC "law" (defScope s_law) s.heap.objs.size f cdv)).units + 101 < cLine := by have := hr.un; omega
  have gu : (A.deeper (envOfC "law" (defScope s_law) s.heap.objs.size f cdv)).guards = some [] := gA
  refine ⟨_, (pss_cons (ps_set (i := 1) sc_law.nd rfl (.inl rfl) (pe_call GD hr1 (by rfl) DD.m DD.F.kp DD.b .nil pass0 (pa_cons (pv 0) pa_nil)))
      (pss_cons (ps_for PassesOwn.never rfl (pi_range1 (by rfl) Z.range (pa_cons pe_int pa_nil)) (pg_name (i := 2) sc_law.nd rfl (.inl rfl)) (pss_cons (ps_asg (pe_call GF hr (by rfl) DF.m DF.F.kp DF.b .nil pass0 (pa_cons (pv 1) (pa_cons (pe_call GW hr1 (by rfl) DW.m DW.F.kp DW.b .nil pass0 (pa_cons (pv 1) (pa_cons pe_int pa_nil))) pa_nil))) (pg_tup rfl (pgs_cons (pg_name (i := 3) sc_law.nd rfl (.inl rfl)) (pgs_cons (pg_name (i := 4) sc_law.nd rfl (.inl rfl)) pgs_nil))))
      (pss_cons (ps_set (i := 5) sc_law.nd rfl (.inr rfl) (pe_call GL hr7 (by rfl) DL.m DL.F.kp DL.b .nil pass0 (pa_cons (pe_ix ix_tup (pv 3) pe_int (fun _ _ => rfl)) (pa_cons pe_int pa_nil))))
      (pss_cons (ps_setLc (i := 6) (g := gName 8) (tt := tYes) (te := tTup (tCons (tVar 8) (tCons (tOp (rIxT K) (tOp (rIxL K) (tVar 5) (tVar 8)) (tC (.int 0))) (tCons (tOp (rIxT K) (tOp (rIxL K) (tVar 5) (tVar 8)) (tC (.int 1))) tNil)))) (own := [("_law_place", 8)]) (by rfl) sc_law.nd rfl rfl (sw_true rfl rfl rfl (by decide +kernel)) (pi_range1 (by rfl) Z.range (pa_cons (pe_callB (show CallR _ (.builtin "len") (rLenS K) from call_len_seq) (by rfl) Z.len (by decide +kernel) (pa_cons (pv 5) pa_nil)) pa_nil)) (blkOk_by (N := n_law) (sc := defScope s_law) (by decide +kernel)) (fun _ _ _ _ _ => pg_name (i := 8) sc_law.nd rfl (.inl rfl)) (fun _ _ _ _ _ => pts_nil) (fun _ _ _ _ _ => pe_tup (pa_cons (pv 8) (pa_cons (pe_ix ix_tup (pe_ix ix_list (pv 5) (pv 8) (fun _ _ => rfl)) pe_int (fun _ _ => rfl)) (pa_cons (pe_ix ix_tup (pe_ix ix_list (pv 5) (pv 8) (fun _ _ => rfl)) pe_int (fun _ _ => rfl)) pa_nil)))))
      (pss_cons (ps_for PassesOwn.never rfl (pi_range1 (by rfl) Z.range (pa_cons pe_int pa_nil)) (pg_name (i := 7) sc_law.nd rfl (.inl rfl)) (pss_cons (ps_if (pt_cmpR op_ne (pe_callB (call_rp gu hu101) (by rfl) Z.repr (by decide +kernel) (pa_cons (pe_listG (pgen_call (E := E9) GE hr8 (by rfl) DE.m DE.F.kp DE.b .nil (pa_cons (pv 3) pa_nil)) pass9 nostop9 hr11 (by rfl) Z.list (by decide +kernel)) pa_nil)) (pe_callB (call_rp gu hu101) (by rfl) Z.repr (by decide +kernel) (pa_cons (pv 6) pa_nil)) (nomark _)) (pss_one (ps_ret pe_bl)) pss_nil)
      (pss_one (ps_for PassesOwn.never rfl (pi_range1 (by rfl) Z.range (pa_cons (pe_callB (show CallR _ (.builtin "len") (rLenS K) from call_len_seq) (by rfl) Z.len (by decide +kernel) (pa_cons (pv 5) pa_nil)) pa_nil)) (pg_name (i := 8) sc_law.nd rfl (.inl rfl)) (pss_one (ps_if (pt_cmpR op_ne (pe_callB (call_rp gu hu101) (by rfl) Z.repr (by decide +kernel) (pa_cons (pe_call GT hr9 (by rfl) DT.m DT.F.kp DT.b .nil pass0 (pa_cons (pv 3) (pa_cons (pv 8) pa_nil))) pa_nil)) (pe_callB (call_rp gu hu101) (by rfl) Z.repr (by decide +kernel) (pa_cons (pe_lst (pa_cons pe_str (pa_cons (pe_ix ix_tup (pe_ix ix_list (pv 5) (pv 8) (fun _ _ => rfl)) pe_int (fun _ _ => rfl)) pa_nil))) pa_nil)) (nomark _)) (pss_one (ps_ret pe_bl)) pss_nil))))))
      (pss_cons (ps_for PassesOwn.never rfl (pi_list (pe_call GP hr3 (by rfl) DP.m DP.F.kp DP.b .nil pass0 (pa_cons (pv 1) (pa_cons (pe_callB (show CallR _ (.builtin "len") (rLenS K) from call_len_seq) (by rfl) Z.len (by decide +kernel) (pa_cons (pv 5) pa_nil)) pa_nil)))) (pg_name (i := 8) sc_law.nd rfl (.inl rfl)) (pss_cons (ps_set (i := 9) sc_law.nd rfl (.inl rfl) (pe_and (pe_callB (show CallR _ (.builtin "isinstance") (rIsi K) from call_isi) (by rfl) Z.isi (by decide +kernel) (pa_cons (pv 8) (pa_cons (pe_bltn (v := .ty "int") (by rfl) Z.int rfl rfl) pa_nil))) (pe_and (pe_not (pe_callB (show CallR _ (.builtin "isinstance") (rIsi K) from call_isi) (by rfl) Z.isi (by decide +kernel) (pa_cons (pv 8) (pa_cons (pe_bltn (v := .ty "bool") (by rfl) Z.bool rfl rfl) pa_nil)))) (pe_one (pe_chain op_le op_lt pe_int (pv 8) (pe_callB (show CallR _ (.builtin "len") (rLenS K) from call_len_seq) (by rfl) Z.len (by decide +kernel) (pa_cons (pv 5) pa_nil)))))))
      (pss_one (ps_if (PW.pt (pw_and (pt_not (pt_truth (pv 9) (by intro _; rfl))) (pw_and1 (pt_cmpR op_ne (pe_callB (call_rp gu hu101) (by rfl) Z.repr (by decide +kernel) (pa_cons (pe_call GT hr9 (by rfl) DT.m DT.F.kp DT.b .nil pass0 (pa_cons (pv 3) (pa_cons (pv 8) pa_nil))) pa_nil)) (pe_callB (call_rp gu hu101) (by rfl) Z.repr (by decide +kernel) (pa_cons (pe_lstB (pa_cons pe_str (pa_cons (pv 8) (pa_cons pe_bl (pa_cons pe_bl pa_nil))))) pa_nil)) (nomark _))))) (pss_one (ps_ret pe_bl)) pss_nil))))
      (pss_cons (ps_set (i := 10) sc_law.nd rfl (.inr rfl) (pe_lc (g := gTup K 2 (gCons (gName 14) (gCons (gName 15) gNil))) (tt := tYes) (te := tOp (rIxT K) (tVar 15) (tC (.int 0))) (own := [("_law_depth", 14), ("_law_row_here", 15)]) (by rfl) sc_law.nd (pi_list (pv 5)) (blkOk_by (N := n_law) (sc := defScope s_law) (by decide +kernel)) (fun _ _ _ _ _ => pg_tup rfl (pgs_cons (pg_name (i := 14) sc_law.nd rfl (.inl rfl)) (pgs_cons (pg_name (i := 15) sc_law.nd rfl (.inl rfl)) pgs_nil))) (fun _ _ _ _ _ => pts_nil) (fun _ _ _ _ _ => (pe_ix ix_tup (pv 15) pe_int (fun _ _ => rfl)))))
      (pss_cons (ps_setLc (i := 11) (g := gName 16) (tt := tYes) (te := tCB (rTupO K) (tCons (tLc (iRng1 (tCons (tCB (rLenS K) (tCons (tVar 5) tNil)) tNil)) (gName 17) (tTest (tOp rEq (tOp (rIxL K) (tVar 10) (tVar 17)) (tVar 16))) (tVar 17) [17]) tNil)) (own := [("_law_word_here", 16)]) (by rfl) sc_law.nd rfl rfl (sw_true rfl rfl rfl (by decide +kernel)) (pi_list (pe_lst (pa_cons pe_str (pa_cons pe_str pa_nil)))) (blkOk_by (N := n_law) (sc := defScope s_law) (by decide +kernel)) (fun _ _ _ _ _ => pg_name (i := 16) sc_law.nd rfl (.inr rfl)) (fun _ _ _ _ _ => pts_nil) (fun _ _ _ _ _ => pe_callTy (show CallR _ (.type "tuple") (rTupO K) from call_tuple_of) (by rfl) Z.tuple (by decide +kernel) (pa_cons (pe_lc (g := gName 17) (tt := tTest (tOp rEq (tOp (rIxL K) (tVar 10) (tVar 17)) (tVar 16))) (te := tVar 17) (own := [("_law_k", 17)]) (by rfl) sc_law.nd (pi_range1 (by rfl) Z.range (pa_cons (pe_callB (show CallR _ (.builtin "len") (rLenS K) from call_len_seq) (by rfl) Z.len (by decide +kernel) (pa_cons (pv 5) pa_nil)) pa_nil)) (blkOk_by (N := n_law) (sc := ({ kind := .function, names := [((".0" : Str), .local), ("_law_word_here", .cell), ("tuple", .globalImplicit), ("range", .globalImplicit), ("len", .globalImplicit), ("_law_rows_here", .cell), ("_law_words", .cell)], isGenerator := false, isCoroutine := false } : Scope)) (by decide +kernel)) (fun _ _ _ _ _ => pg_name (i := 17) sc_law.nd rfl (.inl rfl)) (fun _ _ _ _ _ => pts_one (pt_cmpR op_eq (pe_ix ix_list (pv 10) (pv 17) (fun _ _ => rfl)) (pv 16) (nomark _))) (fun _ _ _ _ _ => pv 17)) pa_nil)))
      (pss_cons (ps_set (i := 12) sc_law.nd rfl (.inl rfl) (pe_callTy call_tuple_of (by rfl) Z.tuple (by decide +kernel) (pa_cons (pe_callB (cr_sortT rfl) (by rfl) Z.sorted (by decide +kernel) (pa_cons (pe_callTy (cr_setT rfl) (by rfl) Z.set (by decide +kernel) (pa_cons (pe_lc (g := gTup K 2 (gCons (gName 14) (gCons (gName 15) gNil))) (tt := tTest (tOp rEq (tOp (rIxT K) (tVar 15) (tC (.int 0))) (tC (.str "wish")))) (te := tOp (rIxT K) (tVar 15) (tC (.int 2))) (own := [("_law_depth", 14), ("_law_row_here", 15)]) (by rfl) sc_law.nd (pi_list (pv 5)) (blkOk_by (N := n_law) (sc := defScope s_law) (by decide +kernel)) (fun _ _ _ _ _ => pg_tup rfl (pgs_cons (pg_name (i := 14) sc_law.nd rfl (.inl rfl)) (pgs_cons (pg_name (i := 15) sc_law.nd rfl (.inl rfl)) pgs_nil))) (fun _ _ _ _ _ => pts_one (pt_cmpR op_eq (pe_ix ix_tup (pv 15) pe_int (fun _ _ => rfl)) pe_str (nomark _))) (fun _ _ _ _ _ => (pe_ix ix_tup (pv 15) pe_int (fun _ _ => rfl)))) pa_nil)) pa_nil)) pa_nil)))
      (pss_cons (ps_set (i := 13) sc_law.nd rfl (.inl rfl) (pe_lst (pa_cons (pe_call GM hr11 (by rfl) DM.m DM.F.kp DM.b .nil pass0 (pa_cons (pv 3) pa_nil)) (pa_cons (pe_call GK hr11 (by rfl) DK.m DK.F.kp DK.b .nil pass0 (pa_cons (pv 3) pa_nil)) (pa_cons (pe_call GS hr10 (by rfl) DS.m DS.F.kp DS.b .nil pass0 (pa_cons (pv 3) pa_nil)) (pa_cons (pe_call GG hr8 (by rfl) DG.m DG.F.kp DG.b .nil pass0 (pa_cons (pv 3) pa_nil)) pa_nil))))))
      (pss_one (ps_if (pt_cmpR op_ne (pe_callB (call_rp gu hu101) (by rfl) Z.repr (by decide +kernel) (pa_cons (pv 13) pa_nil)) (pe_callB (call_rp gu hu101) (by rfl) Z.repr (by decide +kernel) (pa_cons (pe_op op_cat (pv 11) (pe_lst (pa_cons (pv 12) (pa_cons (pe_call GH hr7 (by rfl) DH.m DH.F.kp DH.b .nil pass0 (pa_cons (pe_ix ix_tup (pv 3) pe_int (fun _ _ => rfl)) pa_nil)) pa_nil)))) pa_nil)) (nomark _)) (pss_one (ps_ret pe_bl)) pss_nil))))))))))))
      (pss_one (ps_ret pe_bl)))), ?_⟩
  refine ⟨_, rfl, a, ns, rfl, hS, hlen, fun H1 D L s1 hD nD nL => ?_⟩
  refine ⟨_, rfl, by decide, by decide, for_range (lo := 0) (n := 2) (fun j σ H' => Deck H' D L (0 + j * (10 ^ 10)) ∧ ∃ (x2 x3 x4 x5 x6 x7 x8 x9 x10 x11 x12 x13 x14 x15 x16 x17 : Option V), σ = [some (.ref a), some (.ref D), x2, x3, x4, x5, x6, x7, x8, x9, x10, x11, x12, x13, x14, x15, x16, x17]) ⟨hD.mono (by omega), none, none, none, none, none, none, none, none, none, none, none, none, none, none, none, none, rfl⟩ ?_ ?_⟩
  · rintro j σ H' hj ⟨hD', x2, x3, x4, x5, x6, x7, x8, x9, x10, x11, x12, x13, x14, x15, x16, x17, rfl⟩
    refine ⟨_, rfl, _, rfl, D, L, _, 31, rfl, hD', by omega, by decide, by decide, fun H2 r k2 hD2 r0 r1 => ⟨D, L, _, r, rfl, hD2, by omega, ⟨by omega, by omega⟩, fun H3 t p ap g blk k3 hD3 gt tdp hg hok hsz hp => ?_⟩⟩
    have hz : sizeB blk ≤ 31 := by omega
    have nest : ∀ s ∈ blk, NestOk 5 s := fun s hs => nest_of (hok s hs)
    have tdp : TD H3 (.ref p) (.tuple [.int g, partD blk]) := tdp
    refine ⟨t, _, rfl, SqT.of gt, rfl, _, _, rfl, _, _, rfl, rfl, ?_⟩
    obtain ⟨r9, xs9, e9, gp, e0⟩ := td_tup tdp
    cases e9
    obtain ⟨v1, ys9, rfl, d1, e1⟩ := tds_cons e0
    cases d1
    obtain ⟨vb, rfl, tdb⟩ := tds1 e1
    refine ⟨_, rfl, p, _, _, _, rfl, rfl, SqT.of gp, atI_nat (j := 1) rfl, vb, blk, 0, rfl, tdb, nest, by omega, fun H4 R rs s4 nR gR tdR => ?_⟩
    have nR1 : R ∉ [D, L] := by simpa using hD3.neD nR
    have hD4 := hD3.kp (Kp.same (S := []) s4) (fun z => nomatch z) (fun z => nomatch z)
    have tdp4 := TD.ch (Ch.same (S := []) s4) _ _ tdp
    have lr : rs.length = (rowsP 0 blk).length := by rw [tdR.len, List.length_map]
    have lr31 : rs.length ≤ 31 := by rw [lr, rowsP_len]; exact hz
    refine ⟨_, rfl, R, _, rfl, .inl (SqL.of gR), _, rfl, by omega, by omega, fun U nU => ?_⟩
    have neU : R ≠ U := fun z => by rw [z, nU] at gR; cases gR
    have nU1 : U ∉ [D, L] := by simpa using hD4.neD nU
    refine lc_range (lo := 0) (n := (rs.length : Int).toNat) (fun i H' => Ch [U] H4 H' ∧ ∃ acc, H' U = some (.lst acc) ∧ TDs H' acc (rowsD 0 ((rowsP 0 blk).take i))) ⟨(Ch.refl _ _).new nU, [], upd_same, .nil⟩ ?_ ?_
    · rintro i H5 hi ⟨c5, acc, gU, tda⟩
      have gR5 := c5.kp _ _ (by simp [neU]) gR
      have hlt : i < rs.length := by omega
      obtain ⟨pr, tx, u, hpr, _, aR, gtx, du⟩ := row_at (TDs.ch c5 _ _ tdR) hlt
      have aR0 : atI rs (0 + (i : Int)) = some (.ref tx) := by rw [Int.zero_add]; exact aR
      refine ⟨rfl, _, rfl, _, rfl, _, rfl, R, rs, _, _, rfl, rfl, SqL.of gR5, aR0, tx, _, _, _, rfl, rfl, SqT.of gtx, atI_nat (j := 0) rfl, _, rfl, _, rfl, R, rs, _, _, rfl, rfl, SqL.of gR5, aR0, tx, _, _, _, rfl, rfl, SqT.of gtx, atI_nat (j := 1) rfl, line1000 (Nat.le_of_ble_eq_true rfl), fun T nT => ?_⟩
      have la : acc.length ≤ 31 := by
        rw [tda.len, rowsD_len, List.length_take]
        omega
      have sT := Same.up (o := HO.tup [V.int (0 + (i : Int)), V.int (pr.1 : Int), u]) nT
      have gU6 := sT _ _ gU
      refine ⟨acc, gU6, small1000 (by omega), (c5.trans (Ch.same sT)).put (by simp) gU6 (fun xs z => by cases z), _, upd_same, ?_⟩
      have cp : Ch [U] (upd H5 T (HO.tup [V.int (0 + (i : Int)), V.int (pr.1 : Int), u])) (upd (upd H5 T (HO.tup [V.int (0 + (i : Int)), V.int (pr.1 : Int), u])) U (.lst (acc ++ [.ref T]))) := (Ch.refl _ _).put (by simp) gU6 (fun xs z => by cases z)
      rw [rowsD_take hpr]
      refine TDs.ch cp _ _ ((TDs.ch (Ch.same (S := []) sT) _ _ tda).snoc (.tup upd_same (.cons ?_ (.cons (.int _) (.cons (TD.ch (Ch.same (S := []) sT) _ _ du) .nil)))))
      rw [Int.zero_add]
      exact .int _
    · rintro H5 ⟨c5, us, gU, tdU⟩
      rw [Int.toNat_natCast, lr, List.take_length] at tdU
      have s5 : Same H4 H5 := (c5.kp.fresh nU).toSame
      have LS0 : LS H5 D L (j * 10 ^ 10 + (1 + 9 * 10 ^ 9)) p R U g blk rs us := ⟨(hD4.kp (Kp.same (S := []) s5) (fun z => nomatch z) (fun z => nomatch z)).mono (by omega), TD.ch (Ch.same (S := []) s5) _ _ tdp4, s5 _ _ gR, TDs.ch (Ch.same (S := []) s5) _ _ tdR, gU, tdU, nR1, nU1⟩
      clear tdU gU c5 s5 gR tdR tdp4 hD4 s4 e0 e1 tdb gp tdp gt k3 k2 hD2 hD3 hp
      obtain ⟨N0, hN0⟩ : ∃ N0, N0 = j * 10 ^ 10 + (1 + 9 * 10 ^ 9) := ⟨_, rfl⟩
      rw [← hN0] at LS0
      have st : ∀ {i : Nat} {pr : Nat × Sta}, (rowsP 0 blk)[i]? = some pr → StaOk 5 pr.2 ∧ pr.2.size ≤ 100 ∧ pr.1 ≤ 5 := fun h => rows_fine hok (by omega) _ (List.mem_of_getElem? h)
      generalize H5 = H0 at LS0 ⊢
      refine ⟨_, rfl, by decide, by decide, for_range (lo := 0) (n := 2) (fun j2 σ H' => LS H' D L N0 p R U g blk rs us ∧ ∃ (x2 x7 x8 x9 x10 x11 x12 x13 x14 x15 x16 x17 : Option V), σ = [some (.ref a), some (.ref D), x2, some (.ref p), some (.ref ap), some (.ref R), some (.ref U), x7, x8, x9, x10, x11, x12, x13, x14, x15, x16, x17]) ⟨LS0, _, _, _, _, _, _, _, _, _, _, _, _, rfl⟩ ?_ ?_⟩
      · rintro j2 σ H5 hj2 ⟨l5, y2, y7, y8, y9, y10, y11, y12, y13, y14, y15, y16, y17, rfl⟩
        have sh := showy_due hok (by omega)
        refine ⟨_, rfl, .ref p, g, blk, rfl, l5.pr, nest, by omega, fun H6 out s6 tdo E nE => .inl ⟨_, dDue blk, rfl, .lst (SqL.of upd_same) (TDs.dp _ _ (TDs.ch (Ch.same (S := []) (Same.up nE)) _ _ tdo)), sh, ?_⟩⟩
        have l6 := l5.same (Same.trans s6 (Same.up (o := HO.lst out) nE))
        refine ⟨_, rfl, .inl ⟨_, dDue blk, rfl, .lst (SqL.of l6.u) (TDs.dp _ _ l6.ut), sh, rfl, _, rfl, ?_⟩⟩
        rw [decide_eq_true rfl]
        refine iteF ?_
        refine ⟨_, rfl, R, _, rfl, .inl (SqL.of l6.r), _, rfl, by omega, by omega, for_range (lo := 0) (n := (rs.length : Int).toNat) (fun k σ H' => LS H' D L N0 p R U g blk rs us ∧ ∃ (x2 x7 x8 x9 x10 x11 x12 x13 x14 x15 x16 x17 : Option V), σ = [some (.ref a), some (.ref D), x2, some (.ref p), some (.ref ap), some (.ref R), some (.ref U), x7, x8, x9, x10, x11, x12, x13, x14, x15, x16, x17]) ⟨l6, _, _, _, _, _, _, _, _, _, _, _, _, rfl⟩ ?_ ?_⟩
        · rintro k σ H7 hk ⟨l7, y2, y7, y8, y9, y10, y11, y12, y13, y14, y15, y16, y17, rfl⟩
          have hlt : k < rs.length := by omega
          obtain ⟨pr, tx, u, hpr, _, _, _, _⟩ := l7.row hlt
          have ap := atPl_at hpr
          have shO := showy_ok (st hpr).1 (st hpr).2.1
          refine ⟨_, rfl, _, rfl, .ref p, g, blk, _, true, rfl, l7.pr, nest, by omega, (fun _ _ => intQ_int _), (fun z => nomatch z), (fun s2 hs2 H8 R8 u8 s8 g8 td8 => ?_), (fun n0 => ?_)⟩
          · have hs2 : atPl blk (.int (0 + (k : Int))) = some s2 := hs2
            rw [Int.zero_add, ap] at hs2
            cases hs2
            have l8 := l7.same s8
            obtain ⟨pr', tx', u', hpr', _, aR', gtx', du'⟩ := l8.row hlt
            rw [hpr] at hpr'
            cases hpr'
            refine .inl ⟨_, dOk pr.2, rfl, .lst (SqL.of g8) (.cons (.str _) (.cons (TD.dp _ _ td8) .nil)), shO, ?_⟩
            refine ⟨_, rfl, _, rfl, R, rs, _, _, rfl, rfl, SqL.of l8.r, (by rw [Int.zero_add]; exact aR'), tx', _, _, _, rfl, rfl, SqT.of gtx', atI_nat (j := 1) rfl, line1000 (Nat.le_of_ble_eq_true rfl), fun T nT => .inl ⟨_, dOk pr.2, rfl, .lst (SqL.of upd_same) (.cons (.str _) (.cons (TD.dp _ _ (TD.ch (Ch.same (S := []) (Same.up nT)) _ _ du')) .nil)), shO, rfl, _, rfl, ?_⟩⟩
            rw [decide_eq_true rfl]
            exact iteF ⟨l8.same (Same.up nT), _, _, _, _, _, _, _, _, _, _, _, _, rfl⟩
          · have n0 : atPl blk (.int (0 + (k : Int))) = none := n0
            rw [Int.zero_add, ap] at n0
            cases n0
        · rintro σ H7 ⟨l7, y2, y7, y8, y9, y10, y11, y12, y13, y14, y15, y16, y17, rfl⟩
          exact ⟨l7, _, _, _, _, _, _, _, _, _, _, _, _, rfl⟩
      · rintro σ H5 ⟨l5, y2, y7, y8, y9, y10, y11, y12, y13, y14, y15, y16, y17, rfl⟩
        clear LS0
        have ed : (10 : Nat) ^ 12 - 10 = 999999999990 := rfl
        refine ⟨_, rfl, _, rfl, R, _, rfl, .inl (SqL.of l5.r), D, L, N0, rs.length, rfl, l5.dk, by omega, by omega, fun H6 W xs c6 d6 nW gW pW nW1 => ?_⟩
        have l6 := l5.deck c6 d6
        refine ⟨W, rfl, ⟨_, SqL.of gW⟩, for_list (xs := xs) (fun k σ H' => Same H6 H' ∧ ∃ (x2 x7 x8 x9 x10 x11 x12 x13 x14 x15 x16 x17 : Option V), σ = [some (.ref a), some (.ref D), x2, some (.ref p), some (.ref ap), some (.ref R), some (.ref U), x7, x8, x9, x10, x11, x12, x13, x14, x15, x16, x17]) ⟨Same.refl _, _, _, _, _, _, _, _, _, _, _, _, _, rfl⟩ (fun k σ H' _ h => SqL.of (h.1 _ _ gW)) ?_ ?_⟩
        · rintro k x σ H7 hx ⟨s7, y2, y7, y8, y9, y10, y11, y12, y13, y14, y15, y16, y17, rfl⟩
          have l7 := l6.same s7
          obtain ⟨dx, wx, _⟩ := (pW.kp (S := []) (Kp.same s7) (fun b z => absurd z List.not_mem_nil)) x (List.mem_of_getElem? hx)
          have up : ∀ {H' : Hp}, Same H7 H' → WPl H' x dx := fun s => wx.kp (S := []) (fun _ _ => List.not_mem_nil) (Kp.same s)
          have kint : PySem.W.kitOne K (.type "int") (.type "int") = some true := kit_ty (by decide +kernel)
          have kib : PySem.W.kitOne K (.type "int") (.type "bool") = some false := kit_ty (by decide +kernel)
          have kbi : PySem.W.kitOne K (.type "bool") (.type "int") = some true := kit_ty (by decide +kernel)
          have kbb : PySem.W.kitOne K (.type "bool") (.type "bool") = some true := kit_ty (by decide +kernel)
          rcases wpl_q (K := K) wx with ⟨i, rfl⟩ | ⟨b, rfl⟩ | ⟨no, nm, hn, ty⟩
          · refine ⟨_, rfl, _, _, _, _, true, rfl, .ty "int", .base (.int i), kint, _, rfl, iteT ?_⟩
            refine ⟨_, rfl, _, _, _, _, false, rfl, .ty "bool", .base (.int i), kib, _, rfl, _, rfl, iteT ?_⟩
            by_cases c0 : 0 ≤ i
            · refine ⟨_, rfl, _, _, rfl, rfl, _, rfl, ?_⟩
              rw [decide_eq_true c0]
              refine iteT ⟨_, rfl, R, _, rfl, .inl (SqL.of l7.r), _, _, rfl, rfl, ?_⟩
              show gName 9 (V.bl (decide (i < (rs.length : Int)))) _ _ _
              by_cases c1 : i < (rs.length : Int)
              · rw [decide_eq_true c1]
                exact ⟨_, rfl, _, rfl, iteF (iteF ⟨s7, _, _, _, _, _, _, _, _, _, _, _, _, rfl⟩)⟩
              · have np : atPl blk (.int i) = none := atPl_no (by omega)
                rw [decide_eq_false c1]
                refine ⟨_, rfl, _, rfl, iteT ?_⟩
                refine ⟨_, rfl, _, rfl, .ref p, g, blk, _, true, rfl, l7.pr, nest, by omega, (fun H' s => intQ_int i), (fun z => nomatch z), (fun s2 hs2 => absurd hs2 (by rw [np]; exact fun z => nomatch z)), fun n0 H8 R8 s8 g8 ne8 => repr_wpl (up s8) g8 ne8 ?_⟩
                refine ⟨_, rfl, line1000 (Nat.le_of_ble_eq_true rfl), fun l nl nel => repr_wpl (up (Same.trans s8 (Same.up nl))) upd_same nel ⟨rfl, _, rfl, ?_⟩⟩
                rw [decide_eq_true rfl]
                exact iteF ⟨Same.trans s7 (Same.trans s8 (Same.up nl)), _, _, _, _, _, _, _, _, _, _, _, _, rfl⟩
            · have np : atPl blk (.int i) = none := atPl_no (by omega)
              refine ⟨_, rfl, _, _, rfl, rfl, _, rfl, ?_⟩
              rw [decide_eq_false c0]
              refine iteF ?_
              refine ⟨_, rfl, _, rfl, iteT ?_⟩
              refine ⟨_, rfl, _, rfl, .ref p, g, blk, _, true, rfl, l7.pr, nest, by omega, (fun H' s => intQ_int i), (fun z => nomatch z), (fun s2 hs2 => absurd hs2 (by rw [np]; exact fun z => nomatch z)), fun n0 H8 R8 s8 g8 ne8 => repr_wpl (up s8) g8 ne8 ?_⟩
              refine ⟨_, rfl, line1000 (Nat.le_of_ble_eq_true rfl), fun l nl nel => repr_wpl (up (Same.trans s8 (Same.up nl))) upd_same nel ⟨rfl, _, rfl, ?_⟩⟩
              rw [decide_eq_true rfl]
              exact iteF ⟨Same.trans s7 (Same.trans s8 (Same.up nl)), _, _, _, _, _, _, _, _, _, _, _, _, rfl⟩
          · refine ⟨_, rfl, _, _, _, _, true, rfl, .ty "int", .base (.bl b), kbi, _, rfl, iteT ?_⟩
            refine ⟨_, rfl, _, _, _, _, true, rfl, .ty "bool", .base (.bl b), kbb, _, rfl, _, rfl, iteF ?_⟩
            have np : atPl blk (.bl b) = none := rfl
            refine ⟨_, rfl, _, rfl, iteT ?_⟩
            refine ⟨_, rfl, _, rfl, .ref p, g, blk, _, false, rfl, l7.pr, nest, by omega, (fun H' s => intQ_bl b), (fun _ => rfl), (fun s2 hs2 => absurd hs2 (by rw [np]; exact fun z => nomatch z)), fun n0 H8 R8 s8 g8 ne8 => repr_wpl (up s8) g8 ne8 ?_⟩
            refine ⟨_, rfl, line1000 (Nat.le_of_ble_eq_true rfl), fun l nl nel => repr_wpl (up (Same.trans s8 (Same.up nl))) upd_same nel ⟨rfl, _, rfl, ?_⟩⟩
            rw [decide_eq_true rfl]
            exact iteF ⟨Same.trans s7 (Same.trans s8 (Same.up nl)), _, _, _, _, _, _, _, _, _, _, _, _, rfl⟩
          · refine ⟨_, rfl, _, _, _, _, false, rfl, .ty "int", ty _ (Same.refl _), kit_ty hn, _, rfl, iteF ?_⟩
            refine ⟨_, rfl, _, rfl, iteT ?_⟩
            refine ⟨_, rfl, _, rfl, .ref p, g, blk, x, false, rfl, l7.pr, nest, by omega, (fun H' s => intQ_no (ty _ s) hn), (fun _ => no blk), (fun s2 hs2 => absurd hs2 (by rw [no blk]; exact fun z => nomatch z)), fun n0 H8 R8 s8 g8 ne8 => repr_wpl (up s8) g8 ne8 ?_⟩
            refine ⟨_, rfl, line1000 (Nat.le_of_ble_eq_true rfl), fun l nl nel => repr_wpl (up (Same.trans s8 (Same.up nl))) upd_same nel ⟨rfl, _, rfl, ?_⟩⟩
            rw [decide_eq_true rfl]
            exact iteF ⟨Same.trans s7 (Same.trans s8 (Same.up nl)), _, _, _, _, _, _, _, _, _, _, _, _, rfl⟩
        · rintro σ H7 ⟨s7, y2, y7, y8, y9, y10, y11, y12, y13, y14, y15, y16, y17, rfl⟩
          have l7 := l6.same s7
          clear l6 l5 c6 gW pW
          refine ⟨_, rfl, R, rfl, ⟨_, SqL.of l7.r⟩, fun Wd nWd => ?_⟩
          have neRW : R ≠ Wd := fun z => by have e := l7.r; rw [z, nWd] at e; cases e
          refine lc_list (xs := rs) (fun i H' => Ch [Wd] H7 H' ∧ H' Wd = some (.lst (((rowsP 0 blk).take i).map fun p => V.str (headS p.2)))) ⟨(Ch.refl _ _).new nWd, upd_same⟩ (fun i H' _ h => SqL.of (h.1.kp _ _ (by simp [neRW]) l7.r)) ?_ ?_
          · rintro i x H8 hx ⟨c8, gW⟩
            have hlt : i < rs.length := (List.getElem?_eq_some_iff.mp hx).1
            obtain ⟨pr, tx, u, hpr, ex, _, gtx, du⟩ := row_at (TDs.ch c8 _ _ l7.rt) hlt
            rw [hx] at ex
            cases ex
            obtain ⟨ds, eds⟩ := sta_head pr.2
            rw [eds] at du
            obtain ⟨r8, zs, rfl, gr, dd⟩ := td_tup du
            obtain ⟨v1, zs, rfl, d1, dd⟩ := tds_cons dd
            cases d1
            refine ⟨tx, _, rfl, SqT.of gtx, rfl, _, _, rfl, _, _, rfl, rfl, rfl, _, rfl, r8, _, _, _, rfl, rfl, SqT.of gr, atI_nat (j := 0) rfl, _, gW, small1000 (by rw [List.length_map, List.length_take]; omega), c8.put (by simp) gW (fun xs z => by cases z), ?_⟩
            rw [upd_same, List.take_add_one, hpr, List.map_append]
            rfl
          · rintro H8 ⟨c8, gW⟩
            rw [l7.len, List.take_length] at gW
            have s8 : Same H7 H8 := (c8.kp.fresh nWd).toSame
            have l8 := l7.same s8
            clear c8
            obtain ⟨wl, ewl⟩ : ∃ wl : List V, wl = (rowsP 0 blk).map fun p => V.str (headS p.2) := ⟨_, rfl⟩
            rw [← ewl] at gW
            refine ⟨line1000 (Nat.le_of_ble_eq_true rfl), fun l nl => ?_⟩
            have sl := Same.up (o := HO.lst [V.str "make", V.str "weak"]) nl
            have gl : upd H8 l (HO.lst [V.str "make", V.str "weak"]) l = some (.lst [.str "make", .str "weak"]) := upd_same
            have l9 := l8.same sl
            have gW9 := sl _ _ gW
            generalize upd H8 l (HO.lst [V.str "make", V.str "weak"]) = H9 at sl gl l9 gW9 ⊢
            refine ⟨l, rfl, ⟨_, SqL.of gl⟩, fun PL nPL => ?_⟩
            have ne1 : R ≠ PL := fun z => by have e := l9.r; rw [z, nPL] at e; cases e
            have ne2 : Wd ≠ PL := fun z => by rw [z, nPL] at gW9; cases gW9
            have ne3 : l ≠ PL := fun z => by rw [z, nPL] at gl; cases gl
            refine lc_list (xs := [V.str "make", V.str "weak"]) (fun i H' => Ch [PL] H9 H' ∧ ∃ acc, H' PL = some (.lst acc) ∧ acc.length = i ∧ TDs H' acc ((([("make" : Str), "weak"]).take i).map fun w => PyData.tuple ((placesW w 0 (rowsP 0 blk)).map .int))) ⟨(Ch.refl _ _).new nPL, [], upd_same, rfl, .nil⟩ (fun i H' _ h => SqL.of (h.1.kp _ _ (by simp [ne3]) gl)) ?_ ?_
            · rintro i x H10 hx ⟨c10, acc, gP, la, tda⟩
              obtain ⟨wd, hw, rfl, hi2⟩ : ∃ wd : Str, ([("make" : Str), "weak"])[i]? = some wd ∧ x = .str wd ∧ i < 2 := by
                match i, hx with
                | 0, hx => cases hx; exact ⟨_, rfl, rfl, by decide⟩
                | 1, hx => cases hx; exact ⟨_, rfl, rfl, by decide⟩
                | i + 2, hx => simp at hx
              have gR10 := c10.kp _ _ (by simp [ne1]) l9.r
              have gW10 := c10.kp _ _ (by simp [ne2]) gW9
              refine ⟨rfl, _, rfl, R, _, rfl, .inl (SqL.of gR10), _, rfl, by omega, by omega, fun In nIn => ?_⟩
              have ne4 : Wd ≠ In := fun z => by rw [z, nIn] at gW10; cases gW10
              refine lc_range (lo := 0) (n := (rs.length : Int).toNat) (fun k H' => Ch [In] H10 H' ∧ H' In = some (.lst ((placesW wd 0 ((rowsP 0 blk).take k)).map V.int))) ⟨(Ch.refl _ _).new nIn, upd_same⟩ ?_ ?_
              · rintro k H11 hk ⟨c11, gI⟩
                have hlt : k < (rowsP 0 blk).length := by omega
                obtain ⟨pr, hpr⟩ : ∃ pr, (rowsP 0 blk)[k]? = some pr := ⟨_, List.getElem?_eq_getElem hlt⟩
                have aW : atI wl (0 + (k : Int)) = some (V.str (headS pr.2)) := by
                  rw [Int.zero_add, ewl]
                  exact atI_nat (by rw [List.getElem?_map, hpr]; rfl)
                have gW11 := c11.kp _ _ (by simp [ne4]) gW10
                have pl := placesW_len wd ((rowsP 0 blk).take k) 0
                rw [List.length_take] at pl
                refine ⟨rfl, _, rfl, _, rfl, Wd, wl, _, _, rfl, rfl, SqL.of gW11, aW, _, rfl, rfl, _, rfl, ite2 (fun c => ?_) (fun c => ?_)⟩
                · have c := decS.mp c
                  refine ⟨_, rfl, _, gI, small1000 (by rw [List.length_map]; omega), c11.put (by simp) gI (fun xs z => by cases z), ?_⟩
                  rw [upd_same, placesW_take hpr, if_pos c, List.map_append, Int.zero_add]
                  rfl
                · have c : ¬ headS pr.2 = wd := fun z => c (decS.mpr z)
                  refine ⟨c11, ?_⟩
                  rw [gI, placesW_take hpr, if_neg c, List.append_nil]
              · rintro H11 ⟨c11, gI⟩
                rw [Int.toNat_natCast, lr, List.take_length] at gI
                have s11 : Same H10 H11 := (c11.kp.fresh nIn).toSame
                refine ⟨In, _, rfl, .inl ⟨SqL.of gI, fun T nT => ?_⟩⟩
                have sT := Same.trans s11 (Same.up (o := HO.tup ((placesW wd 0 (rowsP 0 blk)).map V.int)) nT)
                have gT : upd H11 T (HO.tup ((placesW wd 0 (rowsP 0 blk)).map V.int)) T = some (.tup ((placesW wd 0 (rowsP 0 blk)).map V.int)) := upd_same
                have gP11 := sT _ _ gP
                have cP : Ch [PL] (upd H11 T (HO.tup ((placesW wd 0 (rowsP 0 blk)).map V.int))) (upd (upd H11 T (HO.tup ((placesW wd 0 (rowsP 0 blk)).map V.int))) PL (.lst (acc ++ [.ref T]))) := (Ch.refl _ _).put (by simp) gP11 (fun xs z => by cases z)
                refine ⟨acc, gP11, small1000 (by omega), c10.trans ((Ch.same sT).trans cP), _, upd_same, by rw [List.length_append, la]; rfl, ?_⟩
                rw [List.take_add_one, hw, List.map_append]
                exact TDs.ch cP _ _ ((TDs.ch (Ch.same (S := []) sT) _ _ tda).snoc (.tup gT (tds_ints _)))
            · rintro H10 ⟨c10, acc, gP, la, tda⟩
              have s10 : Same H9 H10 := (c10.kp.fresh nPL).toSame
              have l10 := l9.same s10
              clear c10 l9 gW9 gl
              refine ⟨_, rfl, R, rfl, ⟨_, SqL.of l10.r⟩, fun Q1 nQ => ?_⟩
              have ne5 : R ≠ Q1 := fun z => by have e := l10.r; rw [z, nQ] at e; cases e
              refine lc_list (xs := rs) (fun i H' => Ch [Q1] H10 H' ∧ H' Q1 = some (.lst ((wishesL ((rowsP 0 blk).take i)).map V.str))) ⟨(Ch.refl _ _).new nQ, upd_same⟩ (fun i H' _ h => SqL.of (h.1.kp _ _ (by simp [ne5]) l10.r)) ?_ ?_
              · rintro i x H11 hx ⟨c11, gQ⟩
                have hlt : i < rs.length := (List.getElem?_eq_some_iff.mp hx).1
                obtain ⟨pr, tx, u, hpr, ex, _, gtx, du⟩ := row_at (TDs.ch c11 _ _ l10.rt) hlt
                rw [hx] at ex
                cases ex
                obtain ⟨ds, eds⟩ := sta_head pr.2
                have du0 := du
                rw [eds] at du
                obtain ⟨r8, zs, rfl, gr, dd⟩ := td_tup du
                obtain ⟨v1, zs, rfl, d1, dd⟩ := tds_cons dd
                cases d1
                have wll := wishesL_len ((rowsP 0 blk).take i)
                rw [List.length_take] at wll
                refine ⟨tx, _, rfl, SqT.of gtx, rfl, _, _, rfl, _, _, rfl, rfl, rfl, _, rfl, r8, _, _, _, rfl, rfl, SqT.of gr, atI_nat (j := 0) rfl, rfl, _, rfl, ite2 (fun c => ?_) (fun c => ?_)⟩
                · obtain ⟨x0, wd, ep⟩ := head_wish (decS.mp c)
                  rw [ep] at du0
                  have du0 : TD H11 (.ref r8) (.tuple [.str "wish", .str x0, .str wd]) := du0
                  obtain ⟨r', zs', er, gr', d0⟩ := td_tup du0
                  cases er
                  obtain ⟨z1, zs', rfl, e1, d0⟩ := tds_cons d0
                  obtain ⟨z2, zs', rfl, e2, d0⟩ := tds_cons d0
                  obtain ⟨z3, rfl, e3⟩ := tds1 d0
                  cases e3
                  refine ⟨_, rfl, r8, _, _, _, rfl, rfl, SqT.of gr', atI_nat (j := 2) rfl, _, gQ, small1000 (by rw [List.length_map]; omega), c11.put (by simp) gQ (fun xs z => by cases z), ?_⟩
                  rw [upd_same, wishesL_take hpr, ep, List.map_append]
                  rfl
                · have c : ¬ headS pr.2 = "wish" := fun z => c (decS.mpr z)
                  refine ⟨c11, ?_⟩
                  rw [gQ, wishesL_take hpr, wish_no c]
                  simp
              · rintro H11 ⟨c11, gQ⟩
                rw [l10.len, List.take_length] at gQ
                have s11 : Same H10 H11 := (c11.kp.fresh nQ).toSame
                have l11 := l10.same s11
                have gP11 := s11 _ _ gP
                have tda11 := TDs.ch (Ch.same (S := []) s11) _ _ tda
                have wll := wishesL_len (rowsP 0 blk)
                clear c11 l10 gP tda
                refine ⟨Q1, _, rfl, SqL.of gQ, by omega, fun S nS => ⟨S, wishesL (rowsP 0 blk), rfl, upd_same, by omega, fun ys p1 so np1 => ⟨p1, _, rfl, .inl ⟨SqL.of upd_same, fun T nT => ?_⟩⟩⟩⟩
                have s12 := Same.trans (Same.up nS) (Same.trans (Same.up np1) (Same.up (o := HO.tup (ys.map V.str)) nT))
                have l12 := l11.same s12
                have gP12 := s12 _ _ gP11
                have tda12 := TDs.ch (Ch.same (S := []) s12) _ _ tda11
                clear s12 l11 gP11 tda11
                refine ⟨_, rfl, .ref p, rfl, .ref p, g, blk, "make", rfl, l12.pr, nest, by omega, fun Ha Ta sa ga => ?_⟩
                have gTa := sa _ _ (show upd _ T (HO.tup (ys.map V.str)) T = some (.tup (ys.map V.str)) from upd_same)
                have lA := l12.same sa
                refine ⟨_, rfl, .ref p, rfl, .ref p, g, blk, "weak", rfl, lA.pr, nest, by omega, fun Hb Tb sb gb => ?_⟩
                have lB := lA.same sb
                refine ⟨_, rfl, .ref p, g, blk, rfl, lB.pr, nest, by omega, fun Hc Tc yc sc soc gc => ?_⟩
                have lC := lB.same sc
                obtain rfl := sortD_one so soc
                refine ⟨_, rfl, .ref p, g, blk, rfl, lC.pr, hok, by omega, fun Hd sd => ⟨line1000 (Nat.le_of_ble_eq_true rfl), fun Fd nFd => ?_⟩⟩
                have sF := Same.up (o := HO.lst [V.ref Ta, V.ref Tb, V.ref Tc, V.int (wtB blk)]) nFd
                have lD := (lC.same sd).same sF
                have gFd : upd Hd Fd (HO.lst [V.ref Ta, V.ref Tb, V.ref Tc, V.int (wtB blk)]) Fd = some (.lst [.ref Ta, .ref Tb, .ref Tc, .int (wtB blk)]) := upd_same
                have sBD := Same.trans sb (Same.trans sc (Same.trans sd sF))
                have ga := sBD _ _ ga
                have gb := (Same.trans sc (Same.trans sd sF)) _ _ gb
                have gc := (Same.trans sd sF) _ _ gc
                have gT := sBD _ _ gTa
                have gP := sBD _ _ (sa _ _ gP12)
                have tda := TDs.ch (Ch.same (S := []) (Same.trans sa sBD)) _ _ tda12
                clear sBD gTa gP12 tda12 lA lB lC l12
                generalize upd Hd Fd (HO.lst [V.ref Ta, V.ref Tb, V.ref Tc, V.int (wtB blk)]) = HD at lD gFd ga gb gc gT gP tda ⊢
                have shF := showy_found (ys := ys) hok (by omega) so
                refine ⟨_, rfl, .inl ⟨_, dFound blk ys, rfl, .lst (SqL.of gFd) (.cons (TD.dp _ _ (.tup ga (tds_ints _))) (.cons (TD.dp _ _ (.tup gb (tds_ints _))) (.cons (TD.dp _ _ (.tup gc (tds_strs _))) (.cons (.int _) .nil)))), shF, ?_⟩⟩
                obtain ⟨vb', gp', tdb'⟩ := lD.vb
                refine ⟨_, rfl, _, rfl, _, rfl, p, _, _, _, rfl, rfl, SqT.of gp', atI_nat (j := 1) rfl, vb', blk, rfl, tdb', hok, by omega, fun He se => ⟨line1000 (Nat.le_of_ble_eq_true rfl), fun l2 nl2 => ?_⟩⟩
                have s2 := Same.trans se (Same.up (o := HO.lst [V.ref T, V.int (wtB blk)]) nl2)
                have gl2 : upd He l2 (HO.lst [V.ref T, V.int (wtB blk)]) l2 = some (.lst [.ref T, .int (wtB blk)]) := upd_same
                have lE := lD.same s2
                have gP := s2 _ _ gP
                have gT := s2 _ _ gT
                have tda := TDs.ch (Ch.same (S := []) s2) _ _ tda
                generalize upd He l2 (HO.lst [V.ref T, V.int (wtB blk)]) = HE at lE gl2 gP gT tda ⊢
                have la : acc.length = 2 := la
                refine ⟨PL, l2, acc, _, rfl, rfl, gP, gl2, line1000 (by rw [la]; exact Nat.le_of_ble_eq_true rfl), fun q2 nq2 => ?_⟩
                have sq := Same.up (o := HO.lst (acc ++ [V.ref T, V.int (wtB blk)])) nq2
                have fin := TDs.ch (Ch.same (S := []) sq) _ _ (tda.append (.cons (.tup gT (tds_strs ys)) (.cons (.int (wtB blk)) .nil)))
                refine .inl ⟨_, dFound blk ys, rfl, .lst (SqL.of upd_same) (TDs.dp _ _ fin), shF, rfl, _, rfl, ?_⟩
                rw [decide_eq_true rfl]
                refine iteF ⟨(lE.same sq).dk.mono ?_, _, _, _, _, _, _, _, _, _, _, _, _, _, _, _, _, rfl⟩
                rw [hN0]
                omega
  · rintro σ H' ⟨hD', x2, x3, x4, x5, x6, x7, x8, x9, x10, x11, x12, x13, x14, x15, x16, x17, rfl⟩
    exact q H'
end
end G

set_option Elab.async false
set_option linter.all false
set_option maxRecDepth 100000
set_option maxHeartbeats 8000000
/-! The head of maybegone_k03_places_of_statements: what the Hook looks at, what follows from it. Written by mkHF.py. -/
namespace G
open PySem PySem.Spec PyProof.Rows L2 StX ClX
def fn : List He.DefD := ([dDef "is_integer" s_is_integer, dDef "blocks_of" s_blocks_of, dDef "rows_of" s_rows_of, dDef "each_statement" s_each_statement, dDef "statement_at" s_statement_at, dDef "_block_weight" s__block_weight, dDef "weight" s_weight, dDef "wishes_of" s_wishes_of, dDef "_places_with" s__places_with, dDef "make_places" s_make_places, dDef "weak_places" s_weak_places, dDef "_law_deck" s__law_deck, dDef "_law_draw" s__law_draw, dDef "_law_one" s__law_one, dDef "_law_kept" s__law_kept, dDef "_law_name" s__law_name, dDef "_law_word" s__law_word, dDef "_law_pool" s__law_pool, dDef "_law_any_test" s__law_any_test, dDef "_law_row" s__law_row, dDef "_law_rows" s__law_rows, dDef "_law_inner" s__law_inner, dDef "_law_free" s__law_free, dDef "_law_blocks" s__law_blocks, dDef "_law_flat" s__law_flat, dDef "_law_weight" s__law_weight, dDef "_law_wrong_places" s__law_wrong_places, dDef "_law_told" s__law_told, dDef "law" s_law, dMet "NoPlace" "__init__" "NoPlace.__init__" s_ninit] : List _)
def fa : List He.Fa := ([.glo "is_integer", .glo "blocks_of", .glo "rows_of", .glo "each_statement", .glo "statement_at", .glo "_block_weight", .glo "weight", .glo "wishes_of", .glo "_places_with", .glo "make_places", .glo "weak_places", .glo "_law_deck", .glo "_law_draw", .glo "_law_one", .glo "_law_kept", .glo "_law_name", .glo "_law_word", .glo "_law_pool", .glo "_law_any_test", .glo "_law_row", .glo "_law_rows", .glo "_law_inner", .glo "_law_free", .glo "_law_blocks", .glo "_law_flat", .glo "_law_weight", .glo "_law_wrong_places", .glo "_law_told", .glo "law", .free "len"] : List _) ++ ([.free "abs", .free "int", .free "range", .free "tuple", .glo "NoPlace", .glo "GoneError", .free "isinstance", .free "bool", .free "enumerate", .free "sum", .free "sorted", .free "set", .free "LookupError", .free "ValueError", .free "repr", .free "list"] : List _)
def ts : List He.Tab := []
def ex (K : PySem.W.Frag) : Bool := ciB K (He.ga K "NoPlace") (He.ma K (He.ga K "NoPlace") "__init__") [.type "LookupError", .type "Exception", .type "BaseException", .type "object"] "LookupError.__new__" "place" &&
  (PySem.W.typeIn K (.ref (He.ga K "NoPlace")) == some (.type "type") && (PySem.W.exmOne K (.ref (He.ga K "NoPlace")) (.ref (He.ga K "NoPlace")) == some true && (PySem.W.kitOne K (.ref (He.ga K "NoPlace")) (.type "LookupError") == some true && PySem.W.kitAny K (.ref (He.ga K "NoPlace")) [.type "ValueError", .ref (He.ga K "GoneError")] == some false)))
theorem facts {P : Program} {w : World} {K : PySem.W.Frag} {h : Heap} {mg : Str → Option Value} {f : Addr} (X : K.In h) (G : h.Ns mainGlobals mg) (hfa : mg ("law" : Str) = some (.ref f)) (cX : SaysS fa fn ts ex w K) :
    ∃ fd : FuncData, (∀ (s : Shared) (v : Value), BindsTo s fd ⟨[v], []⟩ [("_law_script", v)]) ∧ ∀ base : Heap, K.In base → base.Ns mainGlobals mg → FnOkG P w K mg base 16 f fd ["_law_script"] (spLawN K 63) := by
  have c := cX.t.d
  obtain ⟨dis_integer, Dis_integer⟩ := dfx (st := s_is_integer) (ps := ["value"]) X G c 0 0 (fun _ _ _ _ _ _ us hl => match us, hl with | [_], _ => rfl) rfl rfl
  obtain ⟨dblocks_of, Dblocks_of⟩ := dfx (st := s_blocks_of) (ps := ["statement"]) X G c 1 1 (fun _ _ _ _ _ _ us hl => match us, hl with | [_], _ => rfl) rfl rfl
  obtain ⟨drows_of, Drows_of⟩ := dfx (st := s_rows_of) (ps := ["block", "depth"]) X G c 2 2 (fun _ _ _ _ _ _ us hl => match us, hl with | [_, _], _ => rfl) rfl rfl
  obtain ⟨deach_statement, Deach_statement⟩ := dfx (st := s_each_statement) (ps := ["program"]) X G c 3 3 (fun _ _ _ _ _ _ us hl => match us, hl with | [_], _ => rfl) rfl rfl
  obtain ⟨dstatement_at, Dstatement_at⟩ := dfx (st := s_statement_at) (ps := ["program", "place"]) X G c 4 4 (fun _ _ _ _ _ _ us hl => match us, hl with | [_, _], _ => rfl) rfl rfl
  obtain ⟨d_block_weight, D_block_weight⟩ := dfx (st := s__block_weight) (ps := ["block"]) X G c 5 5 (fun _ _ _ _ _ _ us hl => match us, hl with | [_], _ => rfl) rfl rfl
  obtain ⟨dweight, Dweight⟩ := dfx (st := s_weight) (ps := ["program"]) X G c 6 6 (fun _ _ _ _ _ _ us hl => match us, hl with | [_], _ => rfl) rfl rfl
  obtain ⟨dwishes_of, Dwishes_of⟩ := dfx (st := s_wishes_of) (ps := ["program"]) X G c 7 7 (fun _ _ _ _ _ _ us hl => match us, hl with | [_], _ => rfl) rfl rfl
  obtain ⟨d_places_with, D_places_with⟩ := dfx (st := s__places_with) (ps := ["program", "word"]) X G c 8 8 (fun _ _ _ _ _ _ us hl => match us, hl with | [_, _], _ => rfl) rfl rfl
  obtain ⟨dmake_places, Dmake_places⟩ := dfx (st := s_make_places) (ps := ["program"]) X G c 9 9 (fun _ _ _ _ _ _ us hl => match us, hl with | [_], _ => rfl) rfl rfl
  obtain ⟨dweak_places, Dweak_places⟩ := dfx (st := s_weak_places) (ps := ["program"]) X G c 10 10 (fun _ _ _ _ _ _ us hl => match us, hl with | [_], _ => rfl) rfl rfl
  obtain ⟨d_law_deck, D_law_deck⟩ := dfx (st := s__law_deck) (ps := ["_law_script"]) X G c 11 11 (fun _ _ _ _ _ _ us hl => match us, hl with | [_], _ => rfl) rfl rfl
  obtain ⟨d_law_draw, D_law_draw⟩ := dfx (st := s__law_draw) (ps := ["_law_deck_here", "_law_many"]) X G c 12 12 (fun _ _ _ _ _ _ us hl => match us, hl with | [_, _], _ => rfl) rfl rfl
  obtain ⟨d_law_one, D_law_one⟩ := dfx (st := s__law_one) (ps := ["_law_deck_here", "_law_items"]) X G c 13 13 (fun _ _ _ _ _ _ us hl => match us, hl with | [_, _], _ => rfl) rfl rfl
  obtain ⟨d_law_kept, D_law_kept⟩ := dfx (st := s__law_kept) (ps := []) X G c 14 14 (fun _ _ _ _ _ _ us hl => match us, hl with | [], _ => rfl) rfl rfl
  obtain ⟨d_law_name, D_law_name⟩ := dfx (st := s__law_name) (ps := ["_law_deck_here"]) X G c 15 15 (fun _ _ _ _ _ _ us hl => match us, hl with | [_], _ => rfl) rfl rfl
  obtain ⟨d_law_word, D_law_word⟩ := dfx (st := s__law_word) (ps := ["_law_deck_here"]) X G c 16 16 (fun _ _ _ _ _ _ us hl => match us, hl with | [_], _ => rfl) rfl rfl
  obtain ⟨d_law_pool, D_law_pool⟩ := dfx (st := s__law_pool) (ps := ["_law_deck_here"]) X G c 17 17 (fun _ _ _ _ _ _ us hl => match us, hl with | [_], _ => rfl) rfl rfl
  obtain ⟨d_law_any_test, D_law_any_test⟩ := dfx (st := s__law_any_test) (ps := ["_law_deck_here", "_law_pool_here"]) X G c 18 18 (fun _ _ _ _ _ _ us hl => match us, hl with | [_, _], _ => rfl) rfl rfl
  obtain ⟨d_law_row, D_law_row⟩ := dfx (st := s__law_row) (ps := ["_law_deck_here", "_law_pool_here"]) X G c 19 19 (fun _ _ _ _ _ _ us hl => match us, hl with | [_, _], _ => rfl) rfl rfl
  obtain ⟨d_law_rows, D_law_rows⟩ := dfx (st := s__law_rows) (ps := ["_law_deck_here", "_law_pool_here", "_law_left", "_law_depth", "_law_times"]) X G c 20 20 (fun _ _ _ _ _ _ us hl => match us, hl with | [_, _, _, _, _], _ => rfl) rfl rfl
  obtain ⟨d_law_inner, D_law_inner⟩ := dfx (st := s__law_inner) (ps := ["_law_deck_here", "_law_pool_here", "_law_left", "_law_depth", "_law_times"]) X G c 21 21 (fun _ _ _ _ _ _ us hl => match us, hl with | [_, _, _, _, _], _ => rfl) rfl rfl
  obtain ⟨d_law_free, D_law_free⟩ := dfx (st := s__law_free) (ps := ["_law_deck_here", "_law_most"]) X G c 22 22 (fun _ _ _ _ _ _ us hl => match us, hl with | [_, _], _ => rfl) rfl rfl
  obtain ⟨d_law_blocks, D_law_blocks⟩ := dfx (st := s__law_blocks) (ps := ["_law_row_here"]) X G c 23 23 (fun _ _ _ _ _ _ us hl => match us, hl with | [_], _ => rfl) rfl rfl
  obtain ⟨d_law_flat, D_law_flat⟩ := dfx (st := s__law_flat) (ps := ["_law_block", "_law_depth"]) X G c 24 24 (fun _ _ _ _ _ _ us hl => match us, hl with | [_, _], _ => rfl) rfl rfl
  obtain ⟨d_law_weight, D_law_weight⟩ := dfx (st := s__law_weight) (ps := ["_law_block"]) X G c 25 25 (fun _ _ _ _ _ _ us hl => match us, hl with | [_], _ => rfl) rfl rfl
  obtain ⟨d_law_wrong_places, D_law_wrong_places⟩ := dfx (st := s__law_wrong_places) (ps := ["_law_deck_here", "_law_count"]) X G c 26 26 (fun _ _ _ _ _ _ us hl => match us, hl with | [_, _], _ => rfl) rfl rfl
  obtain ⟨d_law_told, D_law_told⟩ := dfx (st := s__law_told) (ps := ["_law_program", "_law_place"]) X G c 27 27 (fun _ _ _ _ _ _ us hl => match us, hl with | [_, _], _ => rfl) rfl rfl
  obtain ⟨dlaw, Dlaw⟩ := dfx (st := s_law) (ps := ["_law_script"]) X G c 28 28 (fun _ _ _ _ _ _ us hl => match us, hl with | [_], _ => rfl) rfl rfl
  obtain ⟨dNI, FNI, BNI⟩ := inx (st := s_ninit) (ps := ["self", "place"]) c 29 (fun _ _ _ _ _ _ us hl => match us, hl with | [_, _], _ => rfl) rfl
  have TB : Bi mg := ⟨(He.free_ok X G (c.fact 29 rfl)), (He.free_ok X G (c.fact 30 rfl)), (He.free_ok X G (c.fact 31 rfl)), (He.free_ok X G (c.fact 32 rfl))⟩
  have e := hfa.symm.trans Dlaw.m
  cases e
  refine ⟨dlaw, fun s v => ?_, fun base _ _ => ?_⟩
  · obtain ⟨oc, od, kV, doc, pm, an, cdv, ct, osl, rfl, _⟩ := Dlaw.F.ex
    exact .of_eq rfl
  have G1 := ok_deck (k := 0) (P := P) (w := w) (base := base) D_law_deck.F TB
  have G2 := ok_draw (k := 0) (P := P) (w := w) (base := base) D_law_draw.F TB
  have G3 := ok_one D_law_one.F TB G2 D_law_draw.F.kp D_law_draw.b D_law_draw.m
  have G4 := ok_kept (k := 0) (P := P) (w := w) (mg := mg) (base := base) D_law_kept.F
  have G5 := ok_name D_law_name.F TB ⟨D_law_draw.F, D_law_draw.b, D_law_draw.m⟩ G2 ⟨D_law_one.F, D_law_one.b, D_law_one.m⟩ G3 ⟨D_law_kept.F, D_law_kept.b, D_law_kept.m⟩ G4
  have G6 := ok_word D_law_word.F TB ⟨D_law_draw.F, D_law_draw.b, D_law_draw.m⟩ G2 ⟨D_law_one.F, D_law_one.b, D_law_one.m⟩ G3
  have G7 := ok_pool D_law_pool.F TB ⟨D_law_draw.F, D_law_draw.b, D_law_draw.m⟩ G2 ⟨D_law_name.F, D_law_name.b, D_law_name.m⟩ G5 ⟨D_law_word.F, D_law_word.b, D_law_word.m⟩ G6
  have G8 := ok_any_test D_law_any_test.F TB ⟨D_law_draw.F, D_law_draw.b, D_law_draw.m⟩ G2 ⟨D_law_one.F, D_law_one.b, D_law_one.m⟩ G3
  have G9 := ok_row D_law_row.F ⟨D_law_one.F, D_law_one.b, D_law_one.m⟩ G3 ⟨D_law_any_test.F, D_law_any_test.b, D_law_any_test.m⟩ G8
  have G10 := rows_all TB (He.free_ok X G (c.fact 33 rfl)) ⟨D_law_draw.F, D_law_draw.b, D_law_draw.m⟩ G2 ⟨D_law_one.F, D_law_one.b, D_law_one.m⟩ G3 ⟨D_law_any_test.F, D_law_any_test.b, D_law_any_test.m⟩ G8 ⟨D_law_row.F, D_law_row.b, D_law_row.m⟩ G9 ⟨D_law_rows.F, D_law_rows.b, D_law_rows.m⟩ ⟨D_law_inner.F, D_law_inner.b, D_law_inner.m⟩
  have G11 := ok_free D_law_free.F ⟨D_law_pool.F, D_law_pool.b, D_law_pool.m⟩ G7 ⟨D_law_rows.F, D_law_rows.b, D_law_rows.m⟩ G10
  have m0 := cX.more
  obtain ⟨m1, m0⟩ := He.ba m0
  obtain ⟨m2, m0⟩ := He.ba m0
  obtain ⟨m3, m0⟩ := He.ba m0
  obtain ⟨m4, m5⟩ := He.ba m0
  obtain ⟨emN, esN, nfN⟩ := ci_of baseLE m1
  have NX : NPx P w K mg base (He.ga K "NoPlace") := ⟨⟨_, dNI, emN, ok_ninit FNI, BNI⟩, esN, nfN, (He.glo_ok X G (c.fact 34 rfl)), beq_iff_eq.mp m2⟩
  have NY : NPy K mg (He.ga K "NoPlace") (He.ga K "GoneError") := ⟨(He.glo_ok X G (c.fact 35 rfl)), beq_iff_eq.mp m4, beq_iff_eq.mp m5, beq_iff_eq.mp m3⟩
  have T1 := ok_int (P := P) (w := w) (base := base) Dis_integer.F (He.free_ok X G (c.fact 36 rfl)) (He.free_ok X G (c.fact 31 rfl)) (He.free_ok X G (c.fact 37 rfl))
  have T2 := ok_bo (mg := mg) (P := P) (w := w) (base := base) (k := 0) Dblocks_of.F
  have T3 := ok_roAll ⟨Drows_of.F, Drows_of.b, Drows_of.m⟩ ⟨Dblocks_of.F, Dblocks_of.b, Dblocks_of.m⟩ T2
  have T4 := ok_es Deach_statement.F (He.free_ok X G (c.fact 38 rfl)) ⟨Drows_of.F, Drows_of.b, Drows_of.m⟩ T3
  have T5 := ok_el Deach_statement.F (He.free_ok X G (c.fact 38 rfl)) ⟨Drows_of.F, Drows_of.b, Drows_of.m⟩ T3
  have T6 := ok_sa Dstatement_at.F (He.free_ok X G (c.fact 29 rfl)) NX ⟨Drows_of.F, Drows_of.b, Drows_of.m⟩ T3 ⟨Dis_integer.F, Dis_integer.b, Dis_integer.m⟩ T1
  have T7 := ok_bwAll ⟨D_block_weight.F, D_block_weight.b, D_block_weight.m⟩ (He.free_ok X G (c.fact 39 rfl)) ⟨Dblocks_of.F, Dblocks_of.b, Dblocks_of.m⟩ T2
  have T8 := ok_wt Dweight.F ⟨D_block_weight.F, D_block_weight.b, D_block_weight.m⟩ T7
  have T9 := ok_ws Dwishes_of.F (He.free_ok X G (c.fact 33 rfl)) (He.free_ok X G (c.fact 40 rfl)) (He.free_ok X G (c.fact 41 rfl)) ⟨Deach_statement.F, Deach_statement.b, Deach_statement.m⟩ T4
  have T10 := ok_pw D_places_with.F (He.free_ok X G (c.fact 33 rfl)) ⟨Deach_statement.F, Deach_statement.b, Deach_statement.m⟩ T4
  have T11 := ok_mp Dmake_places.F ⟨D_places_with.F, D_places_with.b, D_places_with.m⟩ T10
  have T12 := ok_wp Dweak_places.F ⟨D_places_with.F, D_places_with.b, D_places_with.m⟩ T10
  have L3 := ok_lb (P := P) (w := w) (base := base) D_law_blocks.F TB (He.free_ok X G (c.fact 36 rfl)) (He.free_ok X G (c.fact 33 rfl))
  have L4 := ok_lfAll ⟨D_law_flat.F, D_law_flat.b, D_law_flat.m⟩ ⟨D_law_blocks.F, D_law_blocks.b, D_law_blocks.m⟩ L3
  have L5 := ok_lwAll ⟨D_law_weight.F, D_law_weight.b, D_law_weight.m⟩ (He.free_ok X G (c.fact 39 rfl)) ⟨D_law_blocks.F, D_law_blocks.b, D_law_blocks.m⟩ L3
  have L6 := ok_wp_law D_law_wrong_places.F TB ⟨D_law_one.F, D_law_one.b, D_law_one.m⟩ G3
  have L7 := ok_told D_law_told.F (He.free_ok X G (c.fact 36 rfl)) (He.free_ok X G (c.fact 42 rfl)) (He.free_ok X G (c.fact 43 rfl)) NX NY ⟨Dstatement_at.F, Dstatement_at.b, Dstatement_at.m⟩ T6
  exact ok_law Dlaw.F ⟨(He.free_ok X G (c.fact 32 rfl)), (He.free_ok X G (c.fact 29 rfl)), (He.free_ok X G (c.fact 44 rfl)), (He.free_ok X G (c.fact 45 rfl)), (He.free_ok X G (c.fact 33 rfl)), (He.free_ok X G (c.fact 41 rfl)), (He.free_ok X G (c.fact 40 rfl)), (He.free_ok X G (c.fact 36 rfl)), (He.free_ok X G (c.fact 31 rfl)), (He.free_ok X G (c.fact 37 rfl))⟩ ⟨D_law_deck.F, D_law_deck.b, D_law_deck.m⟩ G1 ⟨D_law_draw.F, D_law_draw.b, D_law_draw.m⟩ G2 ⟨D_law_free.F, D_law_free.b, D_law_free.m⟩ G11 ⟨D_law_flat.F, D_law_flat.b, D_law_flat.m⟩ L4 ⟨Deach_statement.F, Deach_statement.b, Deach_statement.m⟩ T5 ⟨D_law_told.F, D_law_told.b, D_law_told.m⟩ L7 ⟨D_law_wrong_places.F, D_law_wrong_places.b, D_law_wrong_places.m⟩ L6 ⟨Dmake_places.F, Dmake_places.b, Dmake_places.m⟩ T11 ⟨Dweak_places.F, Dweak_places.b, Dweak_places.m⟩ T12 ⟨Dwishes_of.F, Dwishes_of.b, Dwishes_of.m⟩ T9 ⟨Dweight.F, Dweight.b, Dweight.m⟩ T8 ⟨D_law_weight.F, D_law_weight.b, D_law_weight.m⟩ L5
end G

set_option Elab.async false
set_option linter.all false
set_option maxRecDepth 100000
set_option maxHeartbeats 0
namespace G
open PySem PySem.Spec PyProof.Rows L2
abbrev RR : PySem.W.OpenRow := PySem.W.OpenLaw.row PySem.Challenge.rw_maybegone_k03_places_of_statements
abbrev hk : PySem.W.Hook := hookS 5 fa fn ts ex
def ob (s : PySem.W.SharedT) : AlS := obsS 5 fa fn ts ex (HandSHeadRun.getT s)
theorem ob_eq (s : PySem.W.SharedT) : ob s = hk.obs s.abs := obsS_eq (HandSHeadRun.getT_eq s)
def loose : List PySem.Str := (["GoneError", "NoPlace", "is_integer", "blocks_of", "rows_of", "each_statement", "statement_at", "_block_weight", "weight", "wishes_of", "_places_with", "make_places", "weak_places", "_law_deck", "_law_draw", "_law_one", "_law_kept", "_law_name", "_law_word", "_law_pool", "_law_any_test", "_law_row", "_law_rows", "_law_inner", "_law_free", "_law_blocks", "_law_flat", "_law_weight", "_law_wrong_places", "_law_told"] : List PySem.Str)
theorem run0 (w : World) : HandSHeadRun.RunEq RR (PySem.W.view RR.prog [34]) hk ob 30000 loose (w.withFollow "special-get-raises" false) := by
  intro os
  kernel_rfl
theorem run1 (w : World) : HandSHeadRun.RunEq RR (PySem.W.view RR.prog [34]) hk ob 30000 loose (w.withFollow "special-get-raises" true) := by
  intro os
  kernel_rfl
theorem run (w : World) : HandSHeadRun.RunEq RR (PySem.W.view RR.prog [34]) hk ob 30000 loose w :=
  PySem.W.byRow2 "special-get-raises" (P := fun w => HandSHeadRun.RunEq RR (PySem.W.view RR.prog [34]) hk ob 30000 loose w) run0 run1 w
end G
open PySem PySem.W PySem.Calls PyProof.Rows
set_option maxRecDepth 100000 in
set_option maxHeartbeats 0 in
theorem PySem.Challenge.cw_maybegone_k03_places_of_statements_holds : PySem.Challenge.rw_maybegone_k03_places_of_statements.Holds := by
  w_on; o_law
  refine HandSHeadRun.head_any (r := OpenLaw.row PySem.Challenge.rw_maybegone_k03_places_of_statements) (q := view (OpenLaw.row PySem.Challenge.rw_maybegone_k03_places_of_statements).prog [34]) (H := _root_.G.hk) (ob := _root_.G.ob) (M := 30000) (loose := _root_.G.loose) (d := HandSHeadRun.topDef (OpenLaw.row PySem.Challenge.rw_maybegone_k03_places_of_statements).prog 34) (kwd := []) _root_.G.ob_eq
    (by kernel_rfl) (fun s => by kernel_rfl) _root_.G.run (by kernel_rfl) (by kernel_rfl) (by kernel_rfl) (by rfl) (by first | assumption | decide +kernel) (by decide +kernel) ⟨rfl, rfl, rfl, rfl, rfl, by decide +kernel⟩ ?hw ?hc
  case hw => w_witness2
  case hc =>
    refine _root_.G.walk_ofGE (l := PySem.Challenge.rw_maybegone_k03_places_of_statements) (n := 63) (k := 16) (x := "_law_script") rfl (by decide) (by kernel_rfl) ⟨rfl, by decide, by decide⟩ ?F
    intro w mg fa h Y Gn hmg0
    obtain ⟨K, KX, c⟩ := Y
    have hmg : mg ("law" : PySem.Str) = some (.ref fa) := by
      have e : (HandSHeadRun.topDef (OpenLaw.row PySem.Challenge.rw_maybegone_k03_places_of_statements).prog 34).name = ("law" : PySem.Str) := by kernel_rfl
      rw [← e]
      exact hmg0
    obtain ⟨fd, hb, hF⟩ := _root_.G.facts (P := (PySem.Challenge.rw_maybegone_k03_places_of_statements).prog) (w := w) KX Gn hmg c
    exact ⟨K, fd, KX, hb, hF⟩
