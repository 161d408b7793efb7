import PyProof.Rows.All
import Wide.All
import OpenK.AllK
import Wide.FinOn
import HandS.ForMost
import HandS.Style
import HandS.IsInst
import HandS.More
import HandS.Evl
import HandS.Zip
import HandS.Walk
import HandS.SetFor
import HandS.Defaults
import HandS.ForExc
import HandS.CallSlots
import HandS.Sort
import KE.KDictCopyH
import HandS.SlotsOwn
import HandS.OwnIter
import HandS.IterNext
import HandS.ClsMeth
import HandS.Deep
import HandS.TupLe
import HandS.SortRule
import PyProof.P3Eq
import HandS.DictComp
import HandS.SetBool
import HandS.Strs
import HandS.SortInts
import HandS.TupSets
import HandS.IterVal
import HandS.Comp
import KE.GoesComp2
import KE.KExcSuper
import HandS.ExcInit
import HandS.Nested
import HandS.ExcField
import HandS.ExcIs
import HandS.TryMany
import HandS.TryOnly
import HandS.ExcOwn
import HandS.WordsExc
import KE.KExcIs
import HandS.FStr
import PyProof.Rows.RegStrFacts
import HandS.Conv
import HandS.Text
import HandS.Star
import PySem.Challenge.RW_coretower_k04_paper_is_a_set_of_pairs
import HandS.WordsDict
import HandS.TupAny
import KE.RegKSuper
set_option Elab.async false
set_option linter.all false
set_option maxRecDepth 100000
set_option maxHeartbeats 4000000
/-! ### small things over the layer: frames, loops, tests -/
namespace My
open PySem L2
section
variable {P : Program} {w : World} {K : PySem.W.Frag} {mg : Str → Option Value} {base : Heap}
/-- a def of the text, where it stands -/
structure Df (K : PySem.W.Frag) (mg : Str → Option Value) (x : Str) (st : Stmt) (ps : List Str) (f : Addr) (fd : FuncData) : Prop where
  F : Fun K x x st f fd
  g : mg x = some (.ref f)
  b : Binds K fd ps []
theorem cxK {CX : CXT} {N : List Str} {q : Str} {sc : Scope} {f : Addr} {cdv : Value} {A : Around} {outer : List Env} {s : Shared} {H : Hp} {E : XK} : (cxOf CX P w K mg base N q sc f cdv A outer s H E).K = K := rfl
theorem cxnK {CX : CXT} {N : List Str} {q : Str} {sc : Scope} {f : Addr} {cdv : Value} {A : Around} {outer : List Env} {s : Shared} {H : Hp} {E : XK} : (cxOf CX P w K mg base N q sc f cdv A outer s H E).nox.K = K := rfl
end
/-! ### frames -/
/-- what stood outside of S stands as it did -/
def Kp (S : List Addr) (H H' : Hp) : Prop := ∀ b o, b ∉ S → H b = some o → H' b = some o
theorem Kp.refl (S : List Addr) (H : Hp) : Kp S H H := fun _ _ _ h => h
theorem Kp.trans {S : List Addr} {H H1 H2 : Hp} (a : Kp S H H1) (b : Kp S H1 H2) : Kp S H H2 := fun c o hc h => b c o hc (a c o hc h)
theorem Kp.mono {S T : List Addr} {H H' : Hp} (a : Kp S H H') (h : ∀ x ∈ S, x ∈ T) : Kp T H H' := fun c o hc e => a c o (fun z => hc (h c z)) e
theorem Kp.of0 {T : List Addr} {H H' : Hp} (a : Kp [] H H') : Kp T H H' := a.mono fun x hx => nomatch hx
theorem Kp.new {S : List Addr} {H : Hp} {p : Addr} {o : HO} (h : H p = none) : Kp S H (upd H p o) := fun a u _ e => by
  rw [upd_ne (ne_of_none e h)]
  exact e
/-- a write to something that was not there at the beginning -/
theorem Kp.wr {S : List Addr} {H H' : Hp} {p : Addr} {o : HO} (a : Kp S H H') (h : H p = none) : Kp S H (upd H' p o) := fun b u hb e => by
  rw [upd_ne (ne_of_none e h)]
  exact a b u hb e
theorem Kp.put {S : List Addr} {H H' : Hp} {p : Addr} {o : HO} (a : Kp S H H') (h : p ∈ S) : Kp S H (upd H' p o) := fun b u hb e => by
  rw [upd_ne (fun z => hb (by rw [z]; exact h))]
  exact a b u hb e
theorem Kp.ls {S : List Addr} {K : PySem.W.Frag} {H H' : Hp} {a : Addr} {xs : List V} (k : Kp S H H') (ha : a ∉ S) (h : SqL K H a xs) : SqL K H' a xs := by
  rcases h with (h | ⟨o, h⟩) | h
  · exact .inl (.inl (k _ _ ha h))
  · exact .inl (.inr ⟨o, k _ _ ha h⟩)
  · exact .inr h
theorem Kp.tp {S : List Addr} {K : PySem.W.Frag} {H H' : Hp} {a : Addr} {xs : List V} (k : Kp S H H') (ha : a ∉ S) (h : SqT K H a xs) : SqT K H' a xs := by
  rcases h with (h | ⟨o, h⟩) | h
  · exact .inl (.inl (k _ _ ha h))
  · exact .inl (.inr ⟨o, k _ _ ha h⟩)
  · exact .inr h
theorem Kp.free {S : List Addr} {H H' : Hp} {p : Addr} (k : Kp S H H') (hp : H' p = none) (hs : ∀ a ∈ S, ∃ o, H' a = some o) : H p = none := by
  cases e : H p with
  | none => rfl
  | some o =>
    by_cases h : p ∈ S
    · obtain ⟨u, hu⟩ := hs p h
      rw [hp] at hu; cases hu
    · rw [k p o h e] at hp; cases hp
theorem Kp.free0 {H H' : Hp} {p : Addr} (k : Kp [] H H') (hp : H' p = none) : H p = none := k.free hp fun a h => nomatch h
theorem not1 {a b : Addr} (h : b ≠ a) : b ∉ [a] := fun z => h (List.mem_singleton.mp z)
theorem not0 {b : Addr} : b ∉ ([] : List Addr) := fun z => nomatch z
theorem sq_l {K : PySem.W.Frag} {H : Hp} {a : Addr} {xs : List V} (h : H a = some (.lst xs)) : SqL K H a xs := .inl (.inl h)
theorem sq_t {K : PySem.W.Frag} {H : Hp} {a : Addr} {xs : List V} (h : H a = some (.tup xs)) : SqT K H a xs := .inl (.inl h)
theorem small {n : Nat} (h : n ≤ 100000) : n ≤ sizeLine := Nat.le_trans h (by decide)
theorem smallL {n : Nat} (h : n ≤ 100000) : n < sizeLine := Nat.lt_of_le_of_lt h (by decide)
theorem ne_kind {H : Hp} {a b : Addr} {o u : HO} (h : H a = some o) (h' : H b = some u) (d : o ≠ u) : a ≠ b := ne_of h h' d
/-! ### subscripts -/
theorem atI_of {α : Type} {xs : List α} {i : Int} {v : α} (h0 : 0 ≤ i) (h : xs[i.toNat]? = some v) : atI xs i = some v := by
  have e := atI_nat h
  rwa [Int.toNat_of_nonneg h0] at e
theorem ixN_of {n : Nat} {i : Int} (h0 : 0 ≤ i) (h : i < n) : ixN n i = some i.toNat := by
  unfold ixN
  rw [if_pos h0, if_pos h]
theorem atI_ex {α : Type} {xs : List α} {i : Int} (h0 : 0 ≤ i) (h : i < xs.length) : ∃ v, v ∈ xs ∧ atI xs i = some v := by
  have hl : i.toNat < xs.length := by omega
  exact ⟨xs[i.toNat], List.getElem_mem hl, atI_of h0 (List.getElem?_eq_getElem hl)⟩
/-! ### isinstance -/
section
variable {K : PySem.W.Frag} {H : Hp} {Q : VK}
theorem isi_mk {x : V} {n m : String} {b : Bool} (h : TyOf K H x (.type n)) (k : kitB n m = some b) (q : Q (.bl b) H) : rIsi K [x, .ty m] H Q := ⟨x, _, _, _, b, rfl, .ty m, .base h, kit_ty k, q⟩
theorem isi_int_str {i : Int} (q : Q (.bl false) H) : rIsi K [.int i, .ty "str"] H Q := isi_mk (.int i) (by decide +kernel) q
theorem isi_str_str {i : Str} (q : Q (.bl true) H) : rIsi K [.str i, .ty "str"] H Q := isi_mk (.str i) (by decide +kernel) q
theorem isi_int_int {i : Int} (q : Q (.bl true) H) : rIsi K [.int i, .ty "int"] H Q := isi_mk (.int i) (by decide +kernel) q
theorem isi_int_bool {i : Int} (q : Q (.bl false) H) : rIsi K [.int i, .ty "bool"] H Q := isi_mk (.int i) (by decide +kernel) q
theorem isi_bl_bool {i : Bool} (q : Q (.bl true) H) : rIsi K [.bl i, .ty "bool"] H Q := isi_mk (.bl i) (by decide +kernel) q
end
theorem sc_ii {i j : Int} : scal (.int i) (.int j) = true := rfl
theorem sc_ss {i j : Str} : scal (.str i) (.str j) = true := rfl
theorem sc_bb {i j : Bool} : scal (.bl i) (.bl j) = true := rfl
theorem sc_ni {j : Int} : scal .non (.int j) = true := rfl
theorem sc_in {j : Int} : scal (.int j) .non = true := rfl
theorem sc_is {i : Int} {j : Str} : scal (.int i) (.str j) = true := rfl
theorem sc_si {i : Int} {j : Str} : scal (.str j) (.int i) = true := rfl
theorem sc_nn : scal .non .non = true := rfl
/-! ### loops -/
section
variable {K : PySem.W.Frag} {g : TG} {tb : TS} {D : Ends} {σ : St} {H : Hp}
theorem forL {a : Addr} {xs : List V} {i : Nat} (Pv : Nat → L2.St → Hp → Prop) (hσ : σ[i]? = some (some (.ref a))) (hS : SqL K H a xs) (h0 : Pv 0 σ H) (hl : ∀ j σ H, j ≤ xs.length → Pv j σ H → SqL K H a xs)
    (hs : ∀ j x σ H, xs[j]? = some x → Pv j σ H → g x σ H fun σ2 H2 => tb { D with nx := Pv (j + 1), ct := Pv (j + 1), bk := D.nx } σ2 H2) (hd : ∀ σ H, Pv xs.length σ H → D.nx σ H) : tFor (iList K (tVar i)) g tb D σ H :=
  ⟨_, hσ, a, rfl, ⟨xs, hS⟩, for_list Pv h0 hl hs hd⟩
theorem forT {a : Addr} {xs : List V} {i : Nat} (Pv : Nat → L2.St → Hp → Prop) (hσ : σ[i]? = some (some (.ref a))) (hS : SqT K H a xs) (h0 : Pv 0 σ H) (hl : ∀ j σ H, j ≤ xs.length → Pv j σ H → SqT K H a xs)
    (hs : ∀ j x σ H, xs[j]? = some x → Pv j σ H → g x σ H fun σ2 H2 => tb { D with nx := Pv (j + 1), ct := Pv (j + 1), bk := D.nx } σ2 H2) (hd : ∀ σ H, Pv xs.length σ H → D.nx σ H) : tFor (iTup K (tVar i)) g tb D σ H :=
  ⟨_, hσ, a, rfl, ⟨xs, hS⟩, for_tup Pv h0 hl hs hd⟩
/-- behind the reckoning of the bound: range(m) -/
theorem forR {ta : TA} {Qx : Hp → Int → Prop} (h : ta σ H fun vs H1 => ∃ m : Int, vs = [.int m] ∧ -(2 ^ 62) ≤ m ∧ m < 2 ^ 62 ∧ ∃ Pv : Nat → L2.St → Hp → Prop, Pv 0 σ H1 ∧
    (∀ j σ H, j < m.toNat → Pv j σ H → g (.int (0 + j)) σ H fun σ2 H2 => tb { D with nx := Pv (j + 1), ct := Pv (j + 1), bk := D.nx } σ2 H2) ∧ (∀ σ H, Pv m.toNat σ H → D.nx σ H))
    (mono : ∀ Q Q' : List V → Hp → Prop, (∀ vs H, Q vs H → Q' vs H) → ta σ H Q → ta σ H Q') : tFor (iRng1 ta) g tb D σ H := by
  refine mono _ _ ?_ h
  rintro vs H1 ⟨m, e, h1, h2, Pv, a, b, c⟩
  exact ⟨m, e, h1, h2, for_range Pv a b c⟩
end
/-! ### dicts -/
section
variable {κ : Type} [DecidableEq κ]
theorem keys_putK (kvs : List (κ × V)) (k : κ) (v : V) (h : (kvs.map (·.1)).Nodup) : ((putK kvs k v).map (·.1)).Nodup := by
  cases e : valV kvs k with
  | none => exact nd_putK v h e
  | some y =>
    have ha : (kvs.any fun kv => decide (kv.1 = k)) = true := by
      unfold valV at e
      cases q : kvs.find? fun kv => decide (kv.1 = k) with
      | none => rw [q] at e; cases e
      | some p => exact List.any_eq_true.mpr ⟨p, List.mem_of_find?_eq_some q, by simpa using List.find?_some q⟩
    unfold putK
    rw [if_pos ha, List.map_map]
    have e2 : ((fun kv : κ × V => kv.1) ∘ fun kv : κ × V => if kv.1 = k then (kv.1, v) else kv) = fun kv => kv.1 := by
      funext p
      show (if p.1 = k then (p.1, v) else p).1 = p.1
      split <;> rfl
    rw [e2]
    exact h
theorem mem_putK {kvs : List (κ × V)} {k : κ} {v : V} {p : κ × V} (h : p ∈ putK kvs k v) : p ∈ kvs ∨ p = (k, v) := by
  unfold putK at h
  split at h
  · obtain ⟨q, hq, e⟩ := List.mem_map.mp h
    split at e
    · rename_i hk
      exact .inr (by rw [← e, hk])
    · exact .inl (by rw [← e]; exact hq)
  · rcases List.mem_append.mp h with h | h
    · exact .inl h
    · exact .inr (List.mem_singleton.mp h)
theorem valV_mem {kvs : List (κ × V)} {k : κ} {v : V} (h : (kvs.map (·.1)).Nodup) (hm : (k, v) ∈ kvs) : valV kvs k = some v := by
  induction kvs with
  | nil => nomatch hm
  | cons p r ih =>
    rw [List.map_cons, List.nodup_cons] at h
    by_cases e : p.1 = k
    · rw [valV_pos e]
      rcases List.mem_cons.mp hm with z | z
      · rw [← z]
      · exact absurd (List.mem_map.mpr ⟨_, z, rfl⟩) (by rw [← e]; exact h.1)
    · rw [valV_neg e]
      rcases List.mem_cons.mp hm with z | z
      · exact absurd (by rw [← z]) e
      · exact ih h.2 z
end
end My

set_option Elab.async false
set_option linter.all false
set_option maxRecDepth 100000
set_option maxHeartbeats 4000000
namespace My
open PySem L2
/-! ### data that stands in tracked tuples and lists -/
mutual
inductive Dq (H : Hp) : V → PyData → Prop
  | non : Dq H .non .none
  | bl (b : Bool) : Dq H (.bl b) (.bool b)
  | int (i : Int) : Dq H (.int i) (.int i)
  | str (x : Str) : Dq H (.str x) (.str x)
  | lst {a : Addr} {xs : List V} {ds : List PyData} : H a = some (.lst xs) → DqAll H xs ds → Dq H (.ref a) (.list ds)
  | tup {a : Addr} {xs : List V} {ds : List PyData} : H a = some (.tup xs) → DqAll H xs ds → Dq H (.ref a) (.tuple ds)
inductive DqAll (H : Hp) : List V → List PyData → Prop
  | nil : DqAll H [] []
  | cons {v : V} {vs : List V} {d : PyData} {ds : List PyData} : Dq H v d → DqAll H vs ds → DqAll H (v :: vs) (d :: ds)
end
mutual
theorem Dq.kp {H H' : Hp} (k : Kp [] H H') : ∀ {d : PyData} {v : V}, Dq H v d → Dq H' v d
  | _, _, .non => .non
  | _, _, .bl b => .bl b
  | _, _, .int i => .int i
  | _, _, .str x => .str x
  | _, _, .lst e h => .lst (k _ _ not0 e) (DqAll.kp k h)
  | _, _, .tup e h => .tup (k _ _ not0 e) (DqAll.kp k h)
theorem DqAll.kp {H H' : Hp} (k : Kp [] H H') : ∀ {ds : List PyData} {vs : List V}, DqAll H vs ds → DqAll H' vs ds
  | _, _, .nil => .nil
  | _, _, .cons h t => .cons (Dq.kp k h) (DqAll.kp k t)
end
mutual
theorem Dq.dp {K : PySem.W.Frag} {H : Hp} : ∀ {d : PyData} {v : V}, Dq H v d → Dp K H v d
  | _, _, .non => .non
  | _, _, .bl b => .bl b
  | _, _, .int i => .int i
  | _, _, .str x => .str x
  | _, _, .lst e h => .lst (sq_l e) (DqAll.dp h)
  | _, _, .tup e h => .tup (sq_t e) (DqAll.dp h)
theorem DqAll.dp {K : PySem.W.Frag} {H : Hp} : ∀ {ds : List PyData} {vs : List V}, DqAll H vs ds → DpAll K H vs ds
  | _, _, .nil => .nil
  | _, _, .cons h t => .cons (Dq.dp h) (DqAll.dp t)
end
theorem DqAll.len {H : Hp} : ∀ {ds : List PyData} {vs : List V}, DqAll H vs ds → vs.length = ds.length
  | _, _, .nil => rfl
  | _, _, .cons h t => by rw [List.length_cons, List.length_cons, t.len]
theorem DqAll.get {H : Hp} : ∀ {ds : List PyData} {vs : List V}, DqAll H vs ds → ∀ {i : Nat} {v : V}, vs[i]? = some v → ∃ d, ds[i]? = some d ∧ Dq H v d
  | _, _, .nil, _, _, e => nomatch e
  | _, _, .cons h t, 0, _, e => by cases e; exact ⟨_, rfl, h⟩
  | _, _, .cons h t, i + 1, _, e => t.get (i := i) e
/-- its class -/
def tyD : PyData → String
  | .none => "NoneType"
  | .bool _ => "bool"
  | .int _ => "int"
  | .str _ => "str"
  | .list _ => "list"
  | .tuple _ => "tuple"
  | _ => "object"
theorem Dq.ty {K : PySem.W.Frag} {H : Hp} {v : V} {d : PyData} (h : Dq H v d) : TyOf K H v (.type (tyD d)) := by
  cases h with
  | non => exact .non
  | bl b => exact .bl b
  | int i => exact .int i
  | str x => exact .str x
  | lst e h => exact .lst e
  | tup e h => exact .tup e
def six (d : PyData) : Prop := match d with
  | .none | .bool _ | .int _ | .str _ | .list _ | .tuple _ => True
  | _ => False
theorem Dq.six {H : Hp} {v : V} {d : PyData} (h : Dq H v d) : six d := by
  cases h <;> exact True.intro
def isStrD : PyData → Bool | .str _ => true | _ => false
def isTupD : PyData → Bool | .tuple _ => true | _ => false
def isLstD : PyData → Bool | .list _ => true | _ => false
def isIntD : PyData → Bool | .int _ | .bool _ => true | _ => false
def isBoolD : PyData → Bool | .bool _ => true | _ => false
section
variable {K : PySem.W.Frag} {H : Hp} {Q : VK} {v : V} {d : PyData}
theorem isi_D (h : Dq H v d) {m : String} {b : Bool} (k : kitB (tyD d) m = some b) (q : Q (.bl b) H) : rIsi K [v, .ty m] H Q := isi_mk h.ty k q
theorem isi_Dstr (h : Dq H v d) (q : Q (.bl (isStrD d)) H) : rIsi K [v, .ty "str"] H Q := isi_D h (by cases h <;> simp only [tyD, isStrD, isTupD, isLstD, isIntD, isBoolD] <;> decide +kernel) q
theorem isi_Dtup (h : Dq H v d) (q : Q (.bl (isTupD d)) H) : rIsi K [v, .ty "tuple"] H Q := isi_D h (by cases h <;> simp only [tyD, isStrD, isTupD, isLstD, isIntD, isBoolD] <;> decide +kernel) q
theorem isi_Dlst (h : Dq H v d) (q : Q (.bl (isLstD d)) H) : rIsi K [v, .ty "list"] H Q := isi_D h (by cases h <;> simp only [tyD, isStrD, isTupD, isLstD, isIntD, isBoolD] <;> decide +kernel) q
theorem isi_Dint (h : Dq H v d) (q : Q (.bl (isIntD d)) H) : rIsi K [v, .ty "int"] H Q := isi_D h (by cases h <;> simp only [tyD, isStrD, isTupD, isLstD, isIntD, isBoolD] <;> decide +kernel) q
theorem isi_Dbool (h : Dq H v d) (q : Q (.bl (isBoolD d)) H) : rIsi K [v, .ty "bool"] H Q := isi_D h (by cases h <;> simp only [tyD, isStrD, isTupD, isLstD, isIntD, isBoolD] <;> decide +kernel) q
end
/-! ### xs.remove(text) -/
def eqs (z : Str) (v : Value) : Bool := match v with
  | .str y _ => y == z
  | _ => false
theorem str_beq' (w z : Str) : (w == z) = (w.cps.toList == z.cps.toList) := by
  rw [Bool.eq_iff_iff, beq_iff_eq, beq_iff_eq]
  constructor
  · rintro rfl; rfl
  · intro h
    obtain ⟨a⟩ := w
    obtain ⟨b⟩ := z
    obtain ⟨a⟩ := a
    obtain ⟨b⟩ := b
    have h' : a = b := h
    rw [h']
def rRemS : V → List V → Hp → VK → Prop := fun x xs H Q => ∃ (l : Addr) (zs : List Str) (z : Str) (j : Nat), x = .ref l ∧ xs = [.str z] ∧ H l = some (.lst (zs.map V.str)) ∧ zs[j]? = some z ∧ (∀ m : Nat, m < j → zs[m]? ≠ some z) ∧ Q .non (upd H l (.lst ((zs.eraseIdx j).map V.str)))
theorem vals_str : ∀ {zs : List Str} {us : List Value}, Vals (zs.map V.str) us → ∀ {i : Nat} {u : Value}, us[i]? = some u → ∃ y t, u = .str y t ∧ zs[i]? = some y
  | [], _, r, _, _, e => by cases r; cases e
  | z :: zs, us, r, i, u, e => by
    rw [List.map_cons] at r
    cases r with
    | cons r0 rt =>
      match i, e with
      | 0, e =>
        cases e
        obtain ⟨t, rfl⟩ := r0
        exact ⟨z, t, rfl, rfl⟩
      | i + 1, e => exact vals_str rt (i := i) e
theorem erase_mapS : ∀ (l : List Str) (j : Nat), (l.map V.str).eraseIdx j = (l.eraseIdx j).map V.str
  | [], j => by simp
  | _ :: _, 0 => by simp
  | _ :: r, j + 1 => by simp [erase_mapS r j]
theorem eqs_ok (w z : Str) (tw t : Tok) : MeetsSeq.EqGives (.str w tw) (.str z t) (eqs z (.str w tw)) := by
  have e : eqs z (.str w tw) = (w.cps.toList == z.cps.toList) := (str_beq' w z)
  rw [e]
  exact SeqRoads2.EqGives.str w z tw t
theorem mt_removeS {X : Cx} : MtM X "list.remove" rRemS := by
  intro pins s σ H x xs v us Q I rx rxs h
  obtain ⟨l, zs, z, j, rfl, rfl, hH, hj, hno, q⟩ := h
  cases rx
  obtain ⟨u, rfl, ru⟩ := rxs.one
  obtain ⟨t, rfl⟩ := ru
  obtain ⟨hz, its, n, r, hl, e⟩ := I.lstM hH
  rw [List.length_map] at hl hz
  have hjn : j < zs.length := (List.getElem?_eq_some_iff.mp hj).1
  have hjl : j < its.toArray.size := by rw [List.size_toArray]; omega
  have each : ∀ y, y ∈ its.toArray → MeetsSeq.EqGives y (.str z t) (eqs z y) := fun y hy => by
    obtain ⟨i, hi, e1⟩ := List.mem_iff_getElem.mp (show y ∈ its by simpa using hy)
    obtain ⟨w, tw, rfl, _⟩ := vals_str r (i := i) (by rw [List.getElem?_eq_getElem hi, e1])
    exact eqs_ok w z tw t
  have at_ : ∀ m (hm : m < its.toArray.size), ∃ t', its.toArray[m] = .str (zs[m]'(by rw [List.size_toArray] at hm; omega)) t' := fun m hm => by
    have hm' : m < its.length := by simpa using hm
    obtain ⟨w, tw, ew, ez⟩ := vals_str r (i := m) (List.getElem?_eq_getElem hm')
    have hmz : m < zs.length := by omega
    rw [List.getElem?_eq_getElem hmz] at ez
    exact ⟨tw, by rw [Option.some.inj ez]; simpa using ew⟩
  refine call_meets PySem.F.slot_list_remove ⟨_, e, rfl⟩ PySem.F.entry_list_remove (PySem.F.args_list_remove_2 _ _) (MeetsSeq.list_remove l its.toArray n (.str z t) (eqs z) each j hjl ?_ ?_ (by rw [List.size_toArray]; omega)) ⟨e, ?_⟩
  · obtain ⟨t', et⟩ := at_ j hjl
    rw [List.getElem?_eq_getElem hjn] at hj
    rw [et, Option.some.inj hj]
    exact beq_self_eq_true z
  · intro m hm hmj
    obtain ⟨t', et⟩ := at_ m hm
    rw [et]
    refine beq_eq_false_iff_ne.mpr fun e2 => hno m hmj ?_
    rw [← e2]
    exact List.getElem?_eq_getElem _
  · have rr := r.eraseIdx j
    rw [erase_mapS] at rr
    refine ⟨.non, _, I.lset (its' := its.eraseIdx j) (t' := s.toks) hH e ?_ rr ?_, rfl, q⟩
    · show its.toArray.eraseIdxIfInBounds j = (its.eraseIdx j).toArray
      rw [List.eraseIdxIfInBounds_toArray]
    · have := List.length_eraseIdx_le zs j
      rw [List.length_map]
      omega
/-! ### repr of data, nothing being shown -/
def rReprD (K : PySem.W.Frag) : List V → Hp → VK → Prop := fun xs H Q => ∃ (a : Addr) (d : PyData), xs = [.ref a] ∧ Dp K H (.ref a) d ∧ d.showable = true ∧ d.hasDict = false ∧ d.depth ≤ 60 ∧ d.shown.length ≤ sizeLine ∧ Q (.str d.shown) H
theorem call_reprD {X : Cx} (gd : X.A.guards = some [] ∧ X.A.units + 64 < cLine) : CallR X (.builtin "repr") (rReprD X.K) := by
  intro pins s σ H xs us Q I r h
  obtain ⟨a, d, rfl, hd, hs, hn, hp, hz, q⟩ := h
  obtain ⟨u, rfl, ru⟩ := vals1 r
  obtain ⟨as, rd⟩ := Dp.reads I d (.ref a) u hd ru
  cases (show u = Value.ref a from ru)
  refine repr_of_reads' rd hs (PyData.noDict_hsm hn) gd.1 (by omega) (fun _ _ e => e) (fun h' t tk hk => ⟨.str _, H, I.kept (t' := tk) hk, ⟨_, rfl⟩, q⟩) hz
/-! ### an own class made where what is raised is wished for at the slots -/
def tMakeS (C : Addr) (sp : Sp) (dvs : List V) (E : L2.St → XK) (t : TA) : TE := fun σ H Q => t σ H fun vs H1 => ∀ o d, H1 o = none → H1 d = none → d ≠ o → sp (.ref o :: (vs ++ dvs)) (upd (upd H1 d (.own o)) o (.ins C d [])) (fun v H2 => v = .non ∧ Q (.ref o) H2) (E σ)
section
variable {X : Cx} {CX : CXT} {k : Nat} {f C : Addr} {fd : FuncData} {ps : List Str} {sp : Sp} {dvs : List V} {ds : List Value} {E : L2.St → XK} {x : Str} {p pos : Pos} {e : Expr} {es : List Expr} {t : TA}
theorem pe_makeS (M : Mk X.K C f) (F : FnOk X.prog X.w X.K X.mg X.base CX k f fd ps sp) (hr : Room (k + 1) X.A) (hg : Gl X x) (hm : X.mg x = some (.ref C)) (hb : Binds X.K fd ps ds) (hd : Vals dvs ds) (hx : ∀ σ, PassesAt CX X σ (E σ)) (ha : PA X (e :: es) t)
    (hdb : (x == ("__debug__" : Str)) = false := by decide) (he : starEach (e :: es) X.env = (false, eval e X.env) :: starEach es X.env := by rfl) (hpl : (backTo pos (starEach es X.env)).any (·.1) = false := by rfl) :
    PE X (.Call (.Name x p) (e :: es) [] pos) (tMakeS C sp dvs E t) := by
  refine ⟨fun pins s σ H Q I h => wpAny_Call_Name_kw (ld_glob I hg hm ?_ hdb)⟩
  refine PySem.W.callWith_K (h₀ := X.base) I.ok.mod.kin M.kp (thn (ha.run pos pins s σ H _ I h) fun us s1 ⟨vs, H1, I1, r, q⟩ => ⟨I1.kIn, ?_⟩) he hpl
  have g0 : H1 (s1.heap.objs.size + 1) = none := I1.hok.fresh (Nat.le_succ _)
  have g1 : H1 s1.heap.objs.size = none := I1.hok.fresh (Nat.le_refl _)
  have todo := q _ _ g0 g1 (Nat.ne_of_lt (Nat.lt_succ_self _))
  have J := Inv.made (C := C) I1
  have rr : Vals (V.ref (s1.heap.objs.size + 1) :: (vs ++ dvs)) (Value.ref (s1.heap.objs.size + 1) :: (us ++ ds)) := .cons rfl (r.append hd)
  have many : (Value.ref (s1.heap.objs.size + 1) :: us ++ ds).length = ps.length := (rr.length.symm.trans (F.len _ _ _ _ todo))
  refine wpAny_call (make_map (f := f) I1.kIn M.makes M.init (beq_iff_eq.mp M.fn) (codeAny_mono (F.run _ X.stack _ _ ⟨_, []⟩ _ _ _ (E σ) (hr.make C us []) (J.env0.make C us []) (hb _ (Value.ref (s1.heap.objs.size + 1) :: us) J.kIn many) rr todo) fun
    | .error er, s2, z => hx σ pins _ _ er s2 J z
    | .ok (.ret u), s2, z => ?_
    | .ok .next, _, z => False.elim z
    | .ok .brk, _, z => False.elim z
    | .ok .cont, _, z => False.elim z))
  obtain ⟨v, H3, J3, rv, rfl, z3⟩ := J.after z
  exact ⟨rv, .ref (s1.heap.objs.size + 1), H3, J3, rfl, z3⟩
end
end My

set_option Elab.async false
set_option linter.all false
set_option maxRecDepth 100000
set_option maxHeartbeats 4000000
/-! ### d.values() as a value, list(d.values()) -/
namespace My
open PySem L2 PySem.W
/-- at q: the view of the values of the dict at d -/
def viewO (q d : Addr) : HO := .ext fun h => h.get? q = some ({ cls := .type "dict_values", data := .fields #[.ref d] } : Obj)
theorem view_ok {P : Program} {w : World} {H : Hp} {h : Heap} {q d : Addr} (e : h.get? q = some ({ cls := .type "dict_values", data := .fields #[.ref d] } : Obj)) : ObjOk P w H h q (viewO q d) := ⟨e, ⟨_, e⟩, fun _ _ z k => k _ z⟩
theorem view_at {P : Program} {w : World} {H : Hp} {h : Heap} {q d : Addr} (ok : HOk P w H h) (e : H q = some (viewO q d)) : h.get? q = some ({ cls := .type "dict_values", data := .fields #[.ref d] } : Obj) := by
  have x : ObjOk P w H h q (.ext fun h => h.get? q = some ({ cls := .type "dict_values", data := .fields #[.ref d] } : Obj)) := ok q _ e
  exact x.1
def tVals (td : TE) : TE := fun σ H Q => td σ H fun x H1 => ∃ (a : Addr) (kvs : List (Key × V)), x = .ref a ∧ H1 a = some (.dK kvs) ∧ ∀ q, H1 q = none → Q (.ref q) (upd H1 q (viewO q a))
def rListV : List V → Hp → VK → Prop := fun xs H Q => ∃ (q a : Addr) (kvs : List (Key × V)), xs = [.ref q] ∧ H q = some (viewO q a) ∧ H a = some (.dK kvs) ∧ ∀ p, H p = none → Q (.ref p) (upd H p (.lst (kvs.map fun kv => kv.2)))
theorem vals_of : ∀ {kvs : List (Key × V)} {vs : List (Key × Value)} {us : List Value}, KV kvs vs → us.length = vs.length → (∀ (j : Nat) (v : Value), us[j]? = some v → ∃ k, vs[j]? = some (k, v)) → Vals (kvs.map fun kv => kv.2) us
  | [], [], [], _, _, _ => .nil
  | p :: r, q :: vs, u :: us, h, hl, e => by
    cases h with
    | cons h1 h2 =>
      obtain ⟨k, e1⟩ := e 0 u rfl
      have e1' : q = (k, u) := Option.some.inj e1
      subst e1'
      exact .cons h1.2 (vals_of h2 (by simpa using hl) fun j v z => e (j + 1) v z)
  | [], _ :: _, _, h, _, _ => by cases h
  | _ :: _, [], _, h, _, _ => by cases h
  | [], [], _ :: _, _, hl, _ => by cases hl
  | _ :: _, _ :: _, [], _, hl, _ => by cases hl
section
variable {X : Cx} {o : Expr} {td : TE} {apos cpos : Pos}
theorem pe_values (he : PE X o td) (hbase : attributeBase o "values" X.env (eval o X.env) = eval o X.env := by rfl) (hline : (apos.endLine == cpos.line) = true := by rfl) : PE X (.Call (.Attribute o "values" apos) [] [] cpos) (tVals td) := by
  refine ⟨fun pins s σ H Q I h => ?_⟩
  refine wpAny_Call_method (T := "dict") (id := "dict.values") hbase rfl hline F.plainAttrs_dict F.slot_dict_values F.type_dict_values (thn (he.run pins s σ H _ I h) fun u s1 ⟨x, H1, I1, rx, d, kvs, ex, hd, q⟩ => ?_)
  subst ex
  cases (show u = Value.ref d from rx)
  obtain ⟨_, hs, vs, rel, dof⟩ := dk_of I1.hok hd
  refine ⟨dof.typeIs, dof.mapOf.noDict, ?_⟩
  have got := Heap.get?_push_size s1.heap (o := ({ cls := .type "dict_values", data := .fields #[.ref d] } : Obj)) rfl
  have J : Inv X pins σ (upd H1 s1.heap.objs.size (viewO s1.heap.objs.size d)) { s1 with heap := s1.heap.push { cls := .type "dict_values", data := .fields #[.ref d] } } := I1.laid (t' := s1.toks) (fun b ob q => Heap.get?_push_of_some _ q) (Nat.le_refl _) (view_ok got)
  exact method_meetsIn F.slot_dict_values F.entry_dict_values rfl (PySem.evalArgs_none ⟨rfl, dof.typeIs, F.args_dict_values_1 _, _, meets_dict_values (mixKind X.prog X.w) d hs, ⟨vs, dof⟩, ⟨.ref s1.heap.objs.size, _, J, rfl, q _ (I1.hok.fresh (Nat.le_refl _))⟩⟩)
theorem call_listV (hcalm : X.calm = true) : CallR X (.type "list") rListV := by
  intro pins s σ H xs us Q I r h
  obtain ⟨v, a, kvs, rfl, hv, ha, q⟩ := h
  obtain ⟨u, rfl, rx⟩ := vals1 r
  cases (show u = Value.ref v from rx)
  obtain ⟨z, hs, vs, rel, dof⟩ := dk_of I.hok ha
  obtain ⟨es, ep, raw, sz, each⟩ := dof.raw
  have hl := KV.length rel
  refine PySem.W.kdl_call (KdlSrc.rawValues (r := v) (d := a) (es := es) (ep := ep)) (I.ok.hd hcalm) ⟨⟨_, view_at I.hok hv, rfl, rfl⟩, raw⟩ (by omega) fun h' tk acc c' hk hD hacc => ?_
  have av : Vals (kvs.map fun kv => kv.2) acc.toList := vals_of rel (by rw [Array.length_toList, hacc.1, sz]) fun j u ej => by
    rw [Array.getElem?_toList] at ej
    obtain ⟨hi, rfl⟩ := hacc.2 j u ej
    have hj : j < vs.length := by omega
    have e1 : vs[j]? = some (vs[j].1, vs[j].2) := List.getElem?_eq_getElem hj
    have e2 := (each j hi _ _ e1).2
    exact ⟨vs[j].1, by rw [e1, e2]⟩
  refine ⟨.ref s.heap.objs.size, upd H s.heap.objs.size (.lst (kvs.map fun kv => kv.2)), I.laid (t' := tk) hk (Nat.le_refl _) ?_, rfl, q _ (I.hok.fresh (Nat.le_refl _))⟩
  exact (show ObjOk X.prog X.w _ _ _ (.lst _) from ⟨by rw [List.length_map]; exact z, acc.toList, c', av, by rw [Array.toArray_toList]; exact hD⟩)
end
end My

set_option Elab.async false
set_option linter.all false
set_option maxRecDepth 100000
set_option maxHeartbeats 4000000
/-! ### operators, in, len, list of instances of an own class that define them -/
namespace My
open PySem PySem.Spec PyProof.Rows L2
section
variable {X : Cx} {CX : CXT} {pins : List (Addr × Obj)} {σ : L2.St} {H : Hp} {s : Shared} {C g a : Addr} {fd : FuncData} {ps : List Str} {sp : Sp} {E : XK} {k : Nat} {A1 : Around}
theorem inst_of {dx : Addr} {fs : List (Str × V)} (I : Inv X pins σ H s) (ha : H a = some (.ins C dx fs)) : ∃ ox od, PySem.W.InstAt s.heap a ox C (some od) := by
  obtain ⟨mA, J, _⟩ := ins_get I.hok ha
  obtain ⟨od, J', _⟩ := J.look
  exact ⟨_, od, J'⟩
theorem env_under (sb : Sub X k A1) (I : Inv X pins σ H s) : Env0 X.prog X.w X.K X.mg X.base A1 X.stack s H := by
  obtain ⟨f1, f2, f3, f4, f5, f6, f7, f8⟩ := I.env0
  exact ⟨(sb.fr).trans f1, f2, f3, f4, f5, f6, f7, f8⟩
/-- a def of the class runs somewhere below the body -/
theorem run_under {Q : VK} {us : List Value} {vs : List V} (F : FnOk X.prog X.w X.K X.mg X.base CX k g fd ps sp) (sb : Sub X k A1) (hb : Binds X.K fd ps []) (hx : Passes CX X E) (I : Inv X pins σ H s) (r : Vals vs us) (h : sp vs H Q E) :
    wpAny (model X.prog X.w) A1 (call (.ref g) us) (EP X pins σ Q) X.xe s := by
  have len := F.len _ _ _ _ h
  have bnd := hb s us I.kIn (by rw [List.append_nil, ← r.length]; exact len)
  rw [List.append_nil] at bnd
  refine wpAny_call (codeAny_mono (F.run A1 X.stack s H ⟨us, []⟩ us vs Q E sb.room (env_under sb I) bnd r h) ?_)
  rintro (e | fl) s' z
  · exact hx pins σ H s e s' I z
  · cases fl <;> first | exact I.after z | exact z.elim
/-- x op y, both instances of the class at C -/
def rBinO (C : Addr) (sp : Sp) (E : XK) : R2 := fun x y H Q => ∃ (a dx : Addr) (fs : List (Str × V)) (b dy : Addr) (gs : List (Str × V)), x = .ref a ∧ y = .ref b ∧ H a = some (.ins C dx fs) ∧ H b = some (.ins C dy gs) ∧ sp [.ref a, .ref b] H Q E
/-- what stands of an operator's def -/
structure BinC (K : PySem.W.Frag) (C g : Addr) (op : Operator) : Prop where
  one : PySem.W.selfFirst K C = true
  at_ : PySem.W.findIn K (.ref C) (PySem.dunder op.info.2) = some (some (.ref g))
  fn : PySem.W.isFn K (.ref g) = true
theorem sub_here (hr : Room k X.A) : Sub X k X.A := ⟨hr, rfl⟩
theorem op_binO {op : Operator} (c : BinC X.K C g op) (F : FnOk X.prog X.w X.K X.mg X.base CX k g fd ps sp) (hb : Binds X.K fd ps []) (hr : Room k X.A) (hx : Passes CX X E) : OpR X (binaryOp op) (rBinO C sp E) := by
  rintro pins s σ H x y v u Q I rx ry ⟨a, dx, fs, b, dy, gs, rfl, rfl, ha, hb', q⟩
  cases rx
  cases ry
  obtain ⟨ox, od, J⟩ := inst_of I ha
  obtain ⟨oy, ody, J'⟩ := inst_of I hb'
  obtain ⟨m, hF⟩ := I.fr
  refine PySem.W.binop_K hF I.ok.mod.kin J J'.type c.one c.at_ c.fn ?_
  refine thn (run_under (us := [.ref a, .ref b]) (vs := [.ref a, .ref b]) F (sub_here hr) hb hx I (.cons rfl (.cons rfl .nil)) q) ?_
  rintro w s' ⟨z, H', I', rz, qz⟩
  exact SlX.cmpback rz ⟨z, H', I', rz, qz⟩
/-- y in x, x an instance of the class at C: its __contains__ gives a bool -/
def rInO (C : Addr) (sp : Sp) (E : XK) (neg : Bool) : R2 := fun y x H Q => ∃ (a dx : Addr) (fs : List (Str × V)), x = .ref a ∧ H a = some (.ins C dx fs) ∧ sp [.ref a, y] H (fun v H' => ∃ b, v = .bl b ∧ Q (.bl (if neg then !b else b)) H') E
structure InC (K : PySem.W.Frag) (C g : Addr) : Prop where
  at_ : PySem.W.findIn K (.ref C) "__contains__" = some (some (.ref g))
  fn : PySem.W.isFn K (.ref g) = true
theorem op_inO (c : InC X.K C g) (F : FnOk X.prog X.w X.K X.mg X.base CX k g fd ps sp) (hb : Binds X.K fd ps []) (hr : Room k X.A) (hx : Passes CX X E) : OpR X (compareOp .In) (rInO C sp E false) := by
  rintro pins s σ H y x u v Q I ry rx ⟨a, dx, fs, rfl, ha, q⟩
  cases rx
  obtain ⟨ox, od, J⟩ := inst_of I ha
  obtain ⟨m, hF⟩ := I.fr
  refine PySem.W.in_K hF I.ok.mod.kin J c.at_ c.fn ?_
  refine thn (run_under (us := [.ref a, u]) (vs := [.ref a, y]) F (sub_here hr) hb hx I (.cons rfl (.cons ry .nil)) q) ?_
  rintro w s' ⟨z, H', I', rz, b, rfl, qz⟩
  cases rz
  exact wpAny_pure ⟨.bl b, H', I', rfl, qz⟩
theorem op_notInO (c : InC X.K C g) (F : FnOk X.prog X.w X.K X.mg X.base CX k g fd ps sp) (hb : Binds X.K fd ps []) (hr : Room k X.A) (hx : Passes CX X E) : OpR X (compareOp .NotIn) (rInO C sp E true) := by
  rintro pins s σ H y x u v Q I ry rx ⟨a, dx, fs, rfl, ha, q⟩
  cases rx
  obtain ⟨ox, od, J⟩ := inst_of I ha
  obtain ⟨m, hF⟩ := I.fr
  refine PySem.W.notIn_K hF I.ok.mod.kin J c.at_ c.fn ?_
  refine thn (run_under (us := [.ref a, u]) (vs := [.ref a, y]) F (sub_here hr) hb hx I (.cons rfl (.cons ry .nil)) q) ?_
  rintro w s' ⟨z, H', I', rz, b, rfl, qz⟩
  cases rz
  exact wpAny_pure ⟨.bl (!b), H', I', rfl, qz⟩
/-- len(x) -/
structure LenC (K : PySem.W.Frag) (C g : Addr) : Prop where
  at_ : PySem.W.findIn K (.ref C) "__len__" = some (some (.ref g))
  fn : PySem.W.isFn K (.ref g) = true
theorem len_under {R : Value → Shared → Prop} {Q1 : Nat → Hp → Prop} {dx : Addr} {fs : List (Str × V)} (c : LenC X.K C g) (F : FnOk X.prog X.w X.K X.mg X.base CX k g fd ps sp) (hb : Binds X.K fd ps []) (sb : Sub X (k + 1) A1) (hx : Passes CX X E) (I : Inv X pins σ H s)
    (ha : H a = some (.ins C dx fs)) (h : sp [.ref a] H (fun v H' => ∃ n : Nat, v = .int n ∧ n ≤ sizeLine ∧ Q1 n H') E) (hR : ∀ (n : Nat) H' s' t, n ≤ sizeLine → Inv X pins σ H' s' → Q1 n H' → R (.int n t) s') : wpAny (model X.prog X.w) A1 (call (.builtin "len") [.ref a]) R X.xe s := by
  obtain ⟨ox, od, J⟩ := inst_of I ha
  refine Calls.call_function_entry kind_len plain_len entry_len (args_len1 _) ?_
  unfold Builtin.«len»
  refine wpAny_bind (m := oneArg "len" _) (wpAny_pure ?_)
  refine wpAny_bind (PySem.W.special_fn I.kIn J c.at_ (beq_iff_eq.mp c.fn) ?_)
  refine thn (run_under (us := [.ref a]) (vs := [.ref a]) F sb.in1 hb hx I (.cons rfl .nil) h) ?_
  rintro w s' ⟨z, H', I', rz, n, rfl, hn, hq⟩
  obtain ⟨t, rfl⟩ := rz
  have h63 : ((n : Int)) < 2 ^ 63 := by
    rw [sizeLine_eq] at hn
    omega
  refine wpAny_bind (wpAny_holding (wpAny_pure ?_))
  refine wpAny_bind (wpAny_letGo ?_)
  refine wpAny_ite_false (decide_eq_false (show ¬ ((n : Int) < 0) by omega)) ?_
  refine wpAny_ite_false (decide_eq_false (show ¬ ((n : Int) ≥ 2 ^ 63) by omega)) ?_
  exact wpAny_bind (wpAny_mkInt (wpAny_pure ⟨_, rfl, hR n H' _ _ hn (I'.tok _) hq⟩))
def rLenO (C : Addr) (sp : Sp) (E : XK) : List V → Hp → VK → Prop := fun xs H Q => ∃ (a dx : Addr) (fs : List (Str × V)), xs = [.ref a] ∧ H a = some (.ins C dx fs) ∧ sp [.ref a] H (fun v H' => ∃ n : Nat, v = .int n ∧ n ≤ sizeLine ∧ Q (.int n) H') E
theorem call_lenO (c : LenC X.K C g) (F : FnOk X.prog X.w X.K X.mg X.base CX k g fd ps sp) (hb : Binds X.K fd ps []) (hr : Room (k + 1) X.A) (hx : Passes CX X E) : CallR X (.builtin "len") (rLenO C sp E) := by
  rintro pins s σ H xs us Q I r ⟨a, dx, fs, rfl, ha, q⟩
  obtain ⟨u, rfl, ru⟩ := r.one
  cases ru
  exact len_under (Q1 := fun n H' => Q (.int n) H') c F hb (sub_here hr) hx I ha q fun n H' s' t _ I' hq => ⟨.int n, H', I', ⟨t, rfl⟩, hq⟩
/-- something that is no more looked at -/
def junk (q : Addr) : HO := .ext fun h => ∃ o, h.get? q = some o
theorem junk_ok {P : Program} {w : World} {H : Hp} {h : Heap} {q : Addr} {o : Obj} (e : h.get? q = some o) : ObjOk P w H h q (junk q) := ⟨⟨_, e⟩, ⟨_, e⟩, fun _ _ ⟨u, z⟩ k => ⟨u, k _ z⟩⟩
/-- the class's __iter__ gives iter(l) of a list l, and it has a __len__ -/
structure IterC (K : PySem.W.Frag) (C gi gl : Addr) : Prop where
  it : PySem.W.findIn K (.ref C) "__iter__" = some (some (.ref gi))
  itF : PySem.W.isFn K (.ref gi) = true
  ln : LenC K C gl
/-- list(x) -/
def rListO (K : PySem.W.Frag) (C : Addr) (si sl : Sp) (E : XK) : List V → Hp → VK → Prop := fun xs H Q => ∃ (a dx : Addr) (fs : List (Str × V)), xs = [.ref a] ∧ H a = some (.ins C dx fs) ∧ ∀ q, H q = none →
  si [.ref a] (upd H q (.lst [])) (fun v H1 => ∃ (l it : Addr) (zs : List V), v = .ref it ∧ H1 a = some (.ins C dx fs) ∧ H1 it = some (ItO l it 0) ∧ SqL K H1 l zs ∧ l ≠ q ∧ l ≠ it ∧ H1 q = some (.lst []) ∧
    sl [.ref a] H1 (fun v H2 => ∃ n : Nat, v = .int n ∧ n ≤ sizeLine ∧ H2 it = some (ItO l it 0) ∧ SqL K H2 l zs ∧ H2 q = some (.lst []) ∧ Q (.ref q) (upd (upd H2 it (junk it)) q (.lst zs))) E) E
/-- .. where nothing is raised -/
theorem run_under0 {Q : VK} {us : List Value} {vs : List V} {Ex : Value → Shared → Prop} (F : FnOk X.prog X.w X.K X.mg X.base CX0 k g fd ps sp) (sb : Sub X k A1) (hb : Binds X.K fd ps []) (I : Inv X pins σ H s) (r : Vals vs us) (h : sp vs H Q E) :
    wpAny (model X.prog X.w) A1 (call (.ref g) us) (EP X pins σ Q) Ex s := by
  have len := F.len _ _ _ _ h
  have bnd := hb s us I.kIn (by rw [List.append_nil, ← r.length]; exact len)
  rw [List.append_nil] at bnd
  refine wpAny_call (codeAny_mono (F.run A1 X.stack s H ⟨us, []⟩ us vs Q E sb.room (env_under sb I) bnd r h) ?_)
  rintro (e | fl) s' z
  · exact False.elim z
  · cases fl <;> first | exact I.after z | exact z.elim
theorem len_under0 {R : Value → Shared → Prop} {Ex : Value → Shared → Prop} {Q1 : Nat → Hp → Prop} {dx : Addr} {fs : List (Str × V)} (c : LenC X.K C g) (F : FnOk X.prog X.w X.K X.mg X.base CX0 k g fd ps sp) (hb : Binds X.K fd ps []) (sb : Sub X (k + 1) A1) (I : Inv X pins σ H s)
    (ha : H a = some (.ins C dx fs)) (h : sp [.ref a] H (fun v H' => ∃ n : Nat, v = .int n ∧ n ≤ sizeLine ∧ Q1 n H') E) (hR : ∀ (n : Nat) H' s' t, n ≤ sizeLine → Inv X pins σ H' s' → Q1 n H' → R (.int n t) s') : wpAny (model X.prog X.w) A1 (call (.builtin "len") [.ref a]) R Ex s := by
  obtain ⟨ox, od, J⟩ := inst_of I ha
  refine Calls.call_function_entry kind_len plain_len entry_len (args_len1 _) ?_
  unfold Builtin.«len»
  refine wpAny_bind (m := oneArg "len" _) (wpAny_pure ?_)
  refine wpAny_bind (PySem.W.special_fn I.kIn J c.at_ (beq_iff_eq.mp c.fn) ?_)
  refine thn (run_under0 (us := [.ref a]) (vs := [.ref a]) F sb.in1 hb I (.cons rfl .nil) h) ?_
  rintro w s' ⟨z, H', I', rz, n, rfl, hn, hq⟩
  obtain ⟨t, rfl⟩ := rz
  have h63 : ((n : Int)) < 2 ^ 63 := by
    rw [sizeLine_eq] at hn
    omega
  refine wpAny_bind (wpAny_holding (wpAny_pure ?_))
  refine wpAny_bind (wpAny_letGo ?_)
  refine wpAny_ite_false (decide_eq_false (show ¬ ((n : Int) < 0) by omega)) ?_
  refine wpAny_ite_false (decide_eq_false (show ¬ ((n : Int) ≥ 2 ^ 63) by omega)) ?_
  exact wpAny_bind (wpAny_mkInt (wpAny_pure ⟨_, rfl, hR n H' _ _ hn (I'.tok _) hq⟩))
theorem hint_own {Q : Bool → Shared → Prop} {Ex : Value → Shared → Prop} {Q1 : Nat → Hp → Prop} {dx : Addr} {fs : List (Str × V)} (c : LenC X.K C g) (F : FnOk X.prog X.w X.K X.mg X.base CX0 k g fd ps sp) (hb : Binds X.K fd ps []) (sb : Sub X (k + 1) A1) (I : Inv X pins σ H s)
    (ha : H a = some (.ins C dx fs)) (h : sp [.ref a] H (fun v H' => ∃ n : Nat, v = .int n ∧ n ≤ sizeLine ∧ Q1 n H') E) (hR : ∀ b n H' s', Inv X pins σ H' s' → Q1 n H' → Q b s') : wpAny (model X.prog X.w) A1 (Builtin.List.listLengthHint (.ref a)) Q Ex s := by
  obtain ⟨ox, od, J⟩ := inst_of I ha
  unfold Builtin.List.listLengthHint
  refine wpAny_bind (wpAny_bind (J.type.here ((PySem.W.looks_findIn I.kIn c.at_).here ?_)))
  refine PySem.W.KFB.if_not rfl ?_
  refine PySem.W.KFB.if_so rfl ?_
  refine wpAny_bind (wpAny_rule ?_)
  refine wpAny_bind (wpAny_attempt (len_under0 c F hb sb I ha h ?_))
  intro n H' s' t hn I' hq
  show wpAny _ _ (pure (some (n : Int)) >>= _) _ _ _
  refine wpAny_bind (wpAny_pure ?_)
  have hl : Builtin.List.listTooLong ((n : Int).toNat) = false := by
    rw [Int.toNat_natCast]; exact notLongL hn
  refine PySem.W.KFB.if_not hl ?_
  exact wpAny_pure (hR _ n H' s' I' hq)
/-! ### the list's iterator, drawn to its end -/
theorem py_item {it l : Addr} {i : Nat} {items : Array Value} {v : Value} {prog : Program} {w : World} {Q : Option Value → Shared → Prop} {Ex : Value → Shared → Prop} (ho : s.heap.get? it = some (GNX.itObj l i)) (hl : s.heap.IsList l items) (hv : items[i]? = some v)
    (hQ : ∀ h', h'.get? it = some (GNX.itObj l (i + 1)) → (∀ b o, b ≠ it → s.heap.get? b = some o → h'.get? b = some o) → Q (some v) { s with heap := h' }) : wpAny (model prog w) A1 (pyNext (.ref it)) Q Ex s := by
  have hT : s.TypeIs (.ref it) "list_iterator" := ⟨_, ho, rfl⟩
  unfold pyNext
  refine wpAny_bind (wpAny_attempt (wpAny_callSpecial?_slot (name := Str.ofString "__next__") hT slot_listiter_next (wpAny_call_entry slot_listiter_next hT entry_listiter_next (GNX.next_item ho hl hv ?_) (args_listiter_next _))))
  intro h' e sb
  exact wpAny_pure (hQ h' e fun b o hb eb => (sb.2 b hb).trans eb)
theorem py_end {it l : Addr} {i : Nat} {items : Array Value} {prog : Program} {w : World} {Q : Option Value → Shared → Prop} {Ex : Value → Shared → Prop} (hh : A1.handled = none) (ho : s.heap.get? it = some (GNX.itObj l i)) (hl : s.heap.IsList l items) (hv : items[i]? = none)
    (hQ : ∀ h', h'.get? it = some (GNX.itEnd i) → (∀ b o, b ≠ it → s.heap.get? b = some o → h'.get? b = some o) → Q none { s with heap := h' }) : wpAny (model prog w) A1 (pyNext (.ref it)) Q Ex s := by
  have hT : s.TypeIs (.ref it) "list_iterator" := ⟨_, ho, rfl⟩
  unfold pyNext
  refine wpAny_bind (wpAny_attempt (wpAny_callSpecial?_slot (name := Str.ofString "__next__") hT slot_listiter_next (wpAny_call_entry slot_listiter_next hT entry_listiter_next (GNX.next_end hh ho hl hv ?_) (args_listiter_next _))))
  intro h1 h' e vs e1 sb k1 ne he hv'
  refine wpAny_bind (wpAny_isInstance (T := "StopIteration") (b := true) ⟨_, he, rfl⟩ PySem.isSubtype_stop ?_)
  exact wpAny_pure (hQ h' (k1 _ _ e1) fun b o hb eb => k1 _ _ ((sb.2 b hb).trans eb))
theorem same_upd {H : Hp} {q : Addr} {o : HO} (e : H q = some o) : upd H q o = H := by
  funext b
  by_cases z : b = q
  · rw [z, upd_same, e]
  · rw [upd_ne z]
theorem take_next' {α : Type} {xs : List α} {i : Nat} {x : α} (h : xs[i]? = some x) : xs.take (i + 1) = xs.take i ++ [x] := by
  rw [List.take_add_one, h]; rfl
/-- the loop that fills the list at q -/
theorem drain {q l it : Addr} {zs : List V} {F : Hp} {R : Result → Shared → Prop} (hh : A1.in1.handled = none) (lit : l ≠ it) (lq : l ≠ q) (hne : it ≠ q) (hdone : ∀ s', Inv X pins σ F s' → R (.ok (.ret .none)) s') :
    ∀ (n i : Nat) (H1 : Hp) (s1 : Shared), zs.length - i = n → i ≤ zs.length → Inv X pins σ H1 s1 → H1 it = some (ItO l it i) → SqL X.K H1 l zs → H1 q = some (.lst (zs.take i)) → upd (upd H1 it (junk it)) q (.lst zs) = F →
      codeAny (model X.prog X.w) A1 (.builtin "list.extend.loop" ⟨[.ref q, .ref it, .none], []⟩) R s1 := by
  intro n
  induction n with
  | zero =>
    intro i H1 s1 hn hi I hit hl hq hF
    obtain ⟨its, rv, pl, hz⟩ := I.list hl
    have hlen := rv.length
    have nope : its.toArray[i]? = none := by
      rw [List.getElem?_toArray]
      exact List.getElem?_eq_none (by omega)
    refine codeAny_builtin PySem.F.entry_extend_loop ?_
    rw [Around.under_plainId PySem.F.plain_extend_loop _]
    refine wpAny_bind (m := pyNext (.ref it)) (py_end hh (itO_get I hit) pl.isList nope fun h' he hk => ?_)
    have J : Inv X pins σ (upd H1 it (junk it)) { s1 with heap := h' } := I.write (t' := s1.toks) (x := it) (e := it) (by rw [hit]; exact True.intro) (.inl rfl) (fun b u hb e => hk b u hb e) ⟨_, he⟩ (junk_ok he)
    have e : upd H1 it (junk it) = F := by
      rw [← hF]
      refine (same_upd ?_).symm
      rw [upd_ne hne.symm, hq, List.take_of_length_le (by omega)]
    rw [e] at J
    exact wpAny_pure (hdone _ J)
  | succ n ih =>
    intro i H1 s1 hn hi I hit hl hq hF
    obtain ⟨its, rv, pl, hz⟩ := I.list hl
    have hlen := rv.length
    have hx : zs[i]? = some zs[i] := List.getElem?_eq_getElem (by omega)
    obtain ⟨u, hu, ru⟩ := rv.get hx
    refine codeAny_builtin PySem.F.entry_extend_loop ?_
    rw [Around.under_plainId PySem.F.plain_extend_loop _]
    refine wpAny_bind (m := pyNext (.ref it)) (py_item (itO_get I hit) pl.isList (v := u) (by simpa using hu) fun h' he hk => ?_)
    have J : Inv X pins σ (upd H1 it (ItO l it (i + 1))) { s1 with heap := h' } := I.write (t' := s1.toks) (x := it) (e := it) (by rw [hit]; exact True.intro) (.inl rfl) (fun b u hb e => hk b u hb e) ⟨_, he⟩ (itO_ok he)
    have hq' : (upd H1 it (ItO l it (i + 1))) q = some (.lst (zs.take i)) := by rw [upd_ne hne.symm]; exact hq
    obtain ⟨_, ys, c, r2, hl2, e2⟩ := J.lstM hq'
    have hy : ys.length = i := by rw [← hl2, List.length_take]; omega
    refine wpAny_bind (m := updateSeq q (·.push u)) (wpAny_updateSeq e2 rfl (wpAny_pure ⟨plainId_quiet PySem.F.plain_extend_loop _, ?_⟩) (by rw [List.size_toArray]; omega) (by rw [Array.size_push, List.size_toArray]; omega))
    have J2 := J.lset (f := (·.push u)) (its' := ys ++ [u]) (ys := zs.take (i + 1)) (t' := s1.toks) hq' e2 (by simp) (by rw [take_next' hx]; exact r2.append (.cons ru .nil)) (by rw [List.length_take]; omega)
    refine ih (i + 1) _ _ (by omega) (by omega) J2 ?_ ?_ upd_same ?_
    · rw [upd_ne hne]; exact upd_same
    · exact (((Kp.refl [it, q] H1).put (by simp)).put (by simp)).ls (by simp [lit, lq]) hl
    · rw [← hF]
      funext b
      by_cases z : b = q
      · rw [z, upd_same, upd_same]
      · rw [upd_ne z, upd_ne z]
        by_cases y : b = it
        · rw [y, upd_same, upd_same]
        · rw [upd_ne y, upd_ne y, upd_ne z, upd_ne y]
theorem call_listO {gi gl : Addr} {fdi fdl : FuncData} {psi psl : List Str} {si sl : Sp} {ki kl : Nat} (c : IterC X.K C gi gl) (Fi : FnOk X.prog X.w X.K X.mg X.base CX0 ki gi fdi psi si) (bi : Binds X.K fdi psi []) (Fl : FnOk X.prog X.w X.K X.mg X.base CX0 kl gl fdl psl sl) (bl : Binds X.K fdl psl [])
    (hr : Room (max ki (kl + 1) + 2) X.A) (hcalm : X.calm = true := by rfl) : CallR X (.type "list") (rListO X.K C si sl E) := by
  rintro pins s σ H xs us Q I rv ⟨a, dx, fs, rfl, ha, hq⟩
  obtain ⟨u, rfl, ru⟩ := rv.one
  cases ru
  have sb0 : Sub X (max ki (kl + 1)) X.A.in1.in1 := (sub_here hr).in1.in1
  have hh : X.A.handled = none := I.ok.hd hcalm
  refine callType_codes (Q₁ := fun obj s₁ => obj = .ref s.heap.objs.size ∧ s₁ = { s with heap := s.heap.push { cls := .type "list", data := .seq #[] } }) PySem.F.called_list (PySem.F.typeCall_list_1 _) PySem.F.entry_list_init (code_list_new _ ⟨rfl, rfl⟩) ?_
  rintro obj s₁ ⟨rfl, rfl⟩
  have hS : (s.heap.push { cls := .type "list", data := .seq #[] }).get? s.heap.objs.size = some { cls := .type "list", data := .seq #[] } := Heap.get?_push_size _ rfl
  refine ⟨⟨_, hS, rfl⟩, PySem.F.args_list_init_2 _ _, ?_⟩
  have fr : H s.heap.objs.size = none := I.hok.fresh (Nat.le_refl _)
  have todo := hq _ fr
  generalize hqq : s.heap.objs.size = q at *
  have I1 : Inv X pins σ (upd H q (.lst [])) { s with heap := s.heap.push { cls := .type "list", data := .seq #[] } } := by
    rw [← hqq]
    exact I.lnew (its := []) (t' := s.toks) .nil (Nat.zero_le _)
  show wpAny _ _ (Builtin.List.listItems (.ref q) >>= fun old => Builtin.List.listUpdate (.ref q) (fun _ => #[]) >>= fun _ => letGo old.toList.reverse >>= fun _ => Builtin.List.listExtendWith (.ref q) (.ref a) .none) _ _ _
  refine wpAny_bind ?_
  unfold Builtin.List.listItems
  refine wpAny_bind (wpAny_seqItems hS rfl (wpAny_pure ?_))
  refine wpAny_bind (m := updateSeq q fun _ => #[]) (wpAny_updateSeq hS rfl ?_)
  have I2 := I1.lset (f := fun _ => #[]) (its := []) (its' := []) (ys := []) (t' := s.toks) upd_same hS rfl .nil (Nat.zero_le _)
  rw [upd_upd] at I2
  refine wpAny_bind (wpAny_letGo ?_)
  have ha2 : upd H q (.lst []) a = some (.ins C dx fs) := by rw [upd_ne (ne_of_none ha fr)]; exact ha
  obtain ⟨ox, od, J⟩ := inst_of I2 ha2
  obtain ⟨m0, hF⟩ := I2.fr
  have naq : a ≠ q := ne_of_none ha fr
  unfold Builtin.List.listExtendWith
  refine wpAny_bind (J.type.here ?_)
  have h1 : Builtin.List.listSameRef (.ref q) (.ref a) = false := beq_eq_false_iff_ne.mpr naq.symm
  refine PySem.W.KFB.if_not (by rw [h1]; rfl) ?_
  refine wpAny_bind (PySem.W.owit_iter hF I2.ok.mod.kin J c.it c.itF ?_)
  refine thn (run_under0 (us := [.ref a]) (vs := [.ref a]) Fi (sb0.mono (Nat.le_max_left _ _)) bi I2 (.cons rfl .nil) todo) ?_
  rintro w s2 ⟨z, H1, I3, rz, l, it, zs, rfl, ha3, hit, hl, lq, lit, hq3, hsl⟩
  cases rz
  unfold PySem.W.OwitIt
  have hT : s2.TypeIs (.ref it) "list_iterator" := ⟨_, itO_get I3 hit, rfl⟩
  refine wpAny_specialOf (name := Str.ofString "__next__") hT slot_listiter_next.lookup ?_
  refine wpAny_bind (wpAny_holding (hint_own c.ln Fl bl (sb0.mono (Nat.le_max_right _ _)) I3 ha3 hsl ?_))
  rintro room n H2 s3 I4 ⟨hit4, hl4, hq4, qend⟩
  have hne : it ≠ q := ne_of hit4 hq4 (fun z => by cases z)
  have fin : ∀ s4, Inv X pins σ H2 s4 → codeAny (model X.prog X.w) X.A.in1 (.builtin "list.extend.loop" ⟨[.ref q, .ref it, .none], []⟩) (wants (fun r s₂ => r = .none ∧ EP X pins σ Q (.ref q) s₂) X.xe) s4 := fun s4 I5 =>
    drain (A1 := X.A.in1) (F := upd (upd H2 it (junk it)) q (.lst zs)) (by simp [hh]) lit lq hne (fun s' I6 => ⟨rfl, .ref q, _, I6, rfl, qend⟩) _ 0 H2 s4 rfl (Nat.zero_le _) I5 hit4 hl4 (by rw [List.take_zero]; exact hq4) rfl
  refine wpAny_ite_split (fun _ => ?_) (fun _ => wpAny_pure ⟨plainId_quiet PySem.F.plain_extend_loop _, fin s3 I4⟩)
  refine wpAny_bind (wpAny_rule (wpAny_bind ?_))
  obtain ⟨_, its, k4, r4, hl5, e4⟩ := I4.lstM hq4
  cases r4
  refine wpAny_bind (m := updateSeq q (·.push .none)) (wpAny_updateSeq e4 rfl ?_)
  have I5 := I4.lset (f := (·.push Value.none)) (its' := [Value.none]) (ys := [.non]) (t' := s3.toks) hq4 e4 (by simp) (.cons rfl .nil) (by rw [List.length_singleton, sizeLine_eq]; decide)
  obtain ⟨_, its5, k5, r5, hl6, e5⟩ := I5.lstM upd_same
  obtain ⟨u5, rfl, ru5⟩ := r5.one
  refine wpAny_updateSeq (a := q) (f := (·.pop)) e5 rfl ?_ (by show 1 ≤ sizeLine; rw [sizeLine_eq]; decide) (by show 0 ≤ sizeLine + 1; exact Nat.zero_le _)
  have I6 := I5.lset (f := (·.pop)) (its := [u5]) (its' := []) (ys := []) (t' := s3.toks) upd_same e5 (by rfl) .nil (Nat.zero_le _)
  rw [upd_upd, same_upd hq4] at I6
  exact wpAny_pure ⟨plainId_quiet PySem.F.plain_extend_loop _, fin _ I6⟩
end
/-! ### a static method, called by its class's name -/
structure StaC (K : PySem.W.Frag) (C : Addr) (mc : Value) (m : Str) (p g : Addr) : Prop where
  rd : PySem.W.readsIn K C mc = true
  ga : PySem.W.specialIn K (.ref C) "__getattribute__" = some (some (.builtin "type.__getattribute__"))
  at_ : PySem.W.findCls K (.ref C) mc m = some (.get (.builtin "staticmethod.__get__") (.ref p) .none (.ref C))
  rc : ∃ rest, PySem.W.recIn K p "staticmethod" = some (.ref g :: rest)
  kp : PySem.W.keepIn K (.ref g) = true
def tSta (C : Addr) (sp : Sp) (dvs : List V) (E : XK) (ta : TE) (t : TA) : TE := fun σ H Q => ta σ H fun x H1 => x = .ref C ∧ t σ H1 fun vs H2 => sp (vs ++ dvs) H2 Q E
section
variable {X : Cx} {CX : CXT} {C p g : Addr} {mc : Value} {m : Str} {fd : FuncData} {ps : List Str} {sp : Sp} {E : XK} {k : Nat} {o e : Expr} {es : List Expr} {ta : TE} {t : TA} {apos pos : Pos} {dvs : List V} {ds : List Value}
theorem pe_sta {pl : Sem Bool} (he : PE X o ta) (c : StaC X.K C mc m p g) (F : FnOk X.prog X.w X.K X.mg X.base CX k g fd ps sp) (hr : Room k X.A) (hb : Binds X.K fd ps ds) (hd : Vals dvs ds) (hx : Passes CX X E) (ha : PA X (e :: es) t)
    (hst : starEach (e :: es) X.env = (false, eval e X.env) :: starEach es X.env := by rfl) (hpl : (backTo pos (starEach es X.env)).any (·.1) = false := by rfl)
    (ht : eval (.Call (.Attribute o m apos) (e :: es) [] pos) X.env = (eval o X.env >>= fun ov => standAt apos.atName >>= fun _ => holding [ov] (getMethod ov m pl) >>= fun fr => callWith pos fr.1 fr.2 (backTo pos (starEach (e :: es) X.env)) (backToKw pos (keywordEach [] X.env))) := by rfl) :
    PE X (.Call (.Attribute o m apos) (e :: es) [] pos) (tSta C sp dvs E ta t) := by
  refine ⟨fun pins s σ H Q I h => ?_⟩
  refine PySem.W.methodCall_KW (pl := pl) (thn (he.run pins s σ H _ I h) ?_) ht
  rintro u s1 ⟨x, H1, I1, rx, rfl, q⟩
  cases rx
  obtain ⟨rest, hp⟩ := c.rc
  refine PySem.W.method_cls I1.kIn c.ga (PySem.W.cls_bind I1.kIn c.rd c.at_ (wpAny_call ?_))
  refine PySem.W.sm_get (s := { s1 with toks := s1.toks + 1 }) I1.kIn hp (PySem.W.handed_on rfl ?_)
  refine PySem.W.callWith_K (first := []) (h₀ := X.base) I1.ok.mod.kin c.kp (thn (ha.run pos pins _ σ H1 _ (I1.tok _) q) fun us s2 ⟨vs, H2, I2, r, q2⟩ => ⟨I2.kIn, ?_⟩) hst hpl
  exact run_fn F hr hb hd hx I2 r q2
/-- x in t, t a tuple, of data of any depth -/
def rInT (K : PySem.W.Frag) (neg : Bool) : R2 := fun x y H Q => ∃ d ds, Dp K H x d ∧ Dp K H y (.tuple ds) ∧ SeqAt.shaped d = true ∧ SeqAt.shaped (.tuple ds) = true ∧ Q (.bl (if neg then !(ds.any fun z => PyData.eqv z d) else ds.any fun z => PyData.eqv z d)) H
theorem op_inT (hu : X.A.units + 65 < cLine) : OpR X (compareOp .In) (rInT X.K false) := by
  rintro pins s σ H x y v u Q I rx ry ⟨d, ds, hd, he, sd, se, q⟩
  obtain ⟨as, r1⟩ := Dp.reads I d x v hd rx
  obtain ⟨bs, r2⟩ := Dp.reads I (.tuple ds) y u he ry
  exact SeqAt.in_tuple_reads r2 r1 (SeqAt.canLay_of_shaped se) (SeqAt.canLay_of_shaped sd) (room_in_shaped sd hu) ⟨.bl _, H, I, rfl, q⟩
theorem op_notInT (hu : X.A.units + 65 < cLine) : OpR X (compareOp .NotIn) (rInT X.K true) := by
  rintro pins s σ H x y v u Q I rx ry ⟨d, ds, hd, he, sd, se, q⟩
  obtain ⟨as, r1⟩ := Dp.reads I d x v hd rx
  obtain ⟨bs, r2⟩ := Dp.reads I (.tuple ds) y u he ry
  exact SeqAt.notIn_tuple_reads r2 r1 (SeqAt.canLay_of_shaped se) (SeqAt.canLay_of_shaped sd) (room_in_shaped sd hu) ⟨.bl _, H, I, rfl, q⟩
end
end My

set_option Elab.async false
set_option linter.all false
set_option maxRecDepth 100000
set_option maxHeartbeats 4000000
/-! ### data of any depth: kept, walked in lists or tuples -/
namespace My
open PySem PySem.Spec PyProof.Rows L2
/-- no list or tuple stands in S -/
def NoSq (H : Hp) (S : List Addr) : Prop := ∀ a ∈ S, (∀ xs, H a ≠ some (.lst xs)) ∧ (∀ xs, H a ≠ some (.tup xs)) ∧ ∀ o u, H a ≠ some (.frz o u)
theorem noSq0 {H : Hp} : NoSq H [] := fun a h => nomatch h
theorem noSq1 {H : Hp} {a C dx : Addr} {fs : List (Str × V)} (h : H a = some (.ins C dx fs)) : NoSq H [a] := fun b hb => by
  rw [List.mem_singleton.mp hb, h]
  exact ⟨fun _ z => (by cases z), fun _ z => (by cases z), fun _ _ z => (by cases z)⟩
theorem Kp.lsN {S : List Addr} {K : PySem.W.Frag} {H H' : Hp} {a : Addr} {xs : List V} (k : Kp S H H') (n : NoSq H S) (h : SqL K H a xs) : SqL K H' a xs := by
  rcases h with (h | ⟨o, h⟩) | h
  · exact .inl (.inl (k _ _ (fun z => (n a z).1 _ h) h))
  · exact .inl (.inr ⟨o, k _ _ (fun z => (n a z).2.2 _ _ h) h⟩)
  · exact .inr h
theorem Kp.tpN {S : List Addr} {K : PySem.W.Frag} {H H' : Hp} {a : Addr} {xs : List V} (k : Kp S H H') (n : NoSq H S) (h : SqT K H a xs) : SqT K H' a xs := by
  rcases h with (h | ⟨o, h⟩) | h
  · exact .inl (.inl (k _ _ (fun z => (n a z).2.1 _ h) h))
  · exact .inl (.inr ⟨o, k _ _ (fun z => (n a z).2.2 _ _ h) h⟩)
  · exact .inr h
mutual
theorem dpN {S : List Addr} {K : PySem.W.Frag} {H H' : Hp} (k : Kp S H H') (n : NoSq H S) : ∀ {d : PyData} {v : V}, Dp K H v d → Dp K H' v d
  | _, _, .non => .non
  | _, _, .bl b => .bl b
  | _, _, .int i => .int i
  | _, _, .str x => .str x
  | _, _, .lst e h => .lst (k.lsN n e) (dpAllN k n h)
  | _, _, .tup e h => .tup (k.tpN n e) (dpAllN k n h)
theorem dpAllN {S : List Addr} {K : PySem.W.Frag} {H H' : Hp} (k : Kp S H H') (n : NoSq H S) : ∀ {ds : List PyData} {vs : List V}, DpAll K H vs ds → DpAll K H' vs ds
  | _, _, .nil => .nil
  | _, _, .cons h t => .cons (dpN k n h) (dpAllN k n t)
end
mutual
def noLs : PyData → Bool
  | .list _ => false
  | .tuple ds => noLsAll ds
  | _ => true
def noLsAll : List PyData → Bool
  | [] => true
  | d :: ds => noLs d && noLsAll ds
end
/-- .. stand as before, where lists change -/
def NoTp (H : Hp) (S : List Addr) : Prop := ∀ a ∈ S, (∀ xs, H a ≠ some (.tup xs)) ∧ ∀ o u, H a ≠ some (.frz o u)
theorem noTp1 {H : Hp} {a : Addr} {xs : List V} (h : H a = some (.lst xs)) : NoTp H [a] := fun b hb => by
  rw [List.mem_singleton.mp hb, h]
  exact ⟨fun _ z => (by cases z), fun _ _ z => (by cases z)⟩
theorem Kp.tpT {S : List Addr} {K : PySem.W.Frag} {H H' : Hp} {a : Addr} {xs : List V} (k : Kp S H H') (n : NoTp H S) (h : SqT K H a xs) : SqT K H' a xs := by
  rcases h with (h | ⟨o, h⟩) | h
  · exact .inl (.inl (k _ _ (fun z => (n a z).1 _ h) h))
  · exact .inl (.inr ⟨o, k _ _ (fun z => (n a z).2 _ _ h) h⟩)
  · exact .inr h
mutual
theorem dpT {S : List Addr} {K : PySem.W.Frag} {H H' : Hp} (k : Kp S H H') (n : NoTp H S) : ∀ {d : PyData} {v : V}, Dp K H v d → noLs d = true → Dp K H' v d
  | _, _, .non, _ => .non
  | _, _, .bl b, _ => .bl b
  | _, _, .int i, _ => .int i
  | _, _, .str x, _ => .str x
  | _, _, .lst e h, z => by cases z
  | _, _, .tup e h, z => .tup (k.tpT n e) (dpAllT k n h z)
theorem dpAllT {S : List Addr} {K : PySem.W.Frag} {H H' : Hp} (k : Kp S H H') (n : NoTp H S) : ∀ {ds : List PyData} {vs : List V}, DpAll K H vs ds → noLsAll ds = true → DpAll K H' vs ds
  | _, _, .nil, _ => .nil
  | _, _, .cons h t, z => by
    have z' := Bool.and_eq_true_iff.mp z
    exact .cons (dpT k n h z'.1) (dpAllT k n t z'.2)
end
theorem dpLen {K : PySem.W.Frag} {H : Hp} : ∀ {ds : List PyData} {vs : List V}, DpAll K H vs ds → vs.length = ds.length
  | _, _, .nil => rfl
  | _, _, .cons h t => by rw [List.length_cons, List.length_cons, dpLen t]
theorem dpGet {K : PySem.W.Frag} {H : Hp} : ∀ {ds : List PyData} {vs : List V}, DpAll K H vs ds → ∀ {i : Nat} {v : V}, vs[i]? = some v → ∃ d, ds[i]? = some d ∧ Dp K H v d
  | _, _, .nil, _, _, e => nomatch e
  | _, _, .cons h t, 0, _, e => by cases e; exact ⟨_, rfl, h⟩
  | _, _, .cons h t, i + 1, _, e => dpGet t (i := i) e
theorem dpApp {K : PySem.W.Frag} {H : Hp} : ∀ {ds es : List PyData} {vs us : List V}, DpAll K H vs ds → DpAll K H us es → DpAll K H (vs ++ us) (ds ++ es)
  | _, _, _, _, .nil, k => k
  | _, _, _, _, .cons h t, k => .cons h (dpApp t k)
theorem dpTake {K : PySem.W.Frag} {H : Hp} : ∀ {ds : List PyData} {vs : List V}, DpAll K H vs ds → ∀ i, DpAll K H (vs.take i) (ds.take i)
  | _, _, .nil, i => by rw [List.take_nil, List.take_nil]; exact .nil
  | _, _, .cons h t, 0 => .nil
  | _, _, .cons h t, i + 1 => .cons h (dpTake t i)
theorem dpDrop {K : PySem.W.Frag} {H : Hp} : ∀ {ds : List PyData} {vs : List V}, DpAll K H vs ds → ∀ i, DpAll K H (vs.drop i) (ds.drop i)
  | _, _, .nil, i => by rw [List.drop_nil, List.drop_nil]; exact .nil
  | _, _, .cons h t, 0 => .cons h t
  | _, _, .cons h t, i + 1 => dpDrop t i
theorem dpRev {K : PySem.W.Frag} {H : Hp} : ∀ {ds : List PyData} {vs : List V}, DpAll K H vs ds → DpAll K H vs.reverse ds.reverse
  | _, _, .nil => .nil
  | _, _, .cons h t => by
    rw [List.reverse_cons, List.reverse_cons]
    exact dpApp (dpRev t) (.cons h .nil)
theorem dpStrs {K : PySem.W.Frag} {H : Hp} : ∀ zs : List Str, DpAll K H (zs.map V.str) (zs.map PyData.str)
  | [] => .nil
  | z :: zs => .cons (.str z) (dpStrs zs)
/-- an object walked that is a list or a tuple -/
def SqAny (K : PySem.W.Frag) (H : Hp) (a : Addr) (xs : List V) : Prop := SqL K H a xs ∨ SqT K H a xs
theorem Kp.anyN {S : List Addr} {K : PySem.W.Frag} {H H' : Hp} {a : Addr} {xs : List V} (k : Kp S H H') (n : NoSq H S) (h : SqAny K H a xs) : SqAny K H' a xs := h.imp (k.lsN n) (k.tpN n)
def iSeq (K : PySem.W.Frag) (tl : TE) : TI := fun σ H R => tl σ H fun x H1 => ∃ a, x = .ref a ∧ (((∃ xs, SqL K H1 a xs) ∧ R (Itl K a) H1) ∨ ((∃ xs, SqT K H1 a xs) ∧ R (Itt K a) H1))
section
variable {X : Cx} {tg : Expr}
theorem pi_seq {l : Expr} {tl : TE} (hl : PE X l tl) : PI X tg l (iSeq X.K tl) := by
  refine ⟨fun pins s σ H R I h => thn (hl.run pins s σ H _ I h) ?_⟩
  rintro v s1 ⟨x, H1, I1, r1, a, rfl, ⟨⟨xs, hq⟩, q⟩ | ⟨⟨xs, hq⟩, q⟩⟩
  · cases r1
    obtain ⟨its, rv, p, hz⟩ := I1.list hq
    refine wpAny_pyIter_list p.isList ⟨_, [_], _, _, H1, rfl, I1.kept (t' := s1.toks) (fun b o e => Heap.get?_push_of_some _ e), turn_list a _, ⟨_, Heap.get?_push_size _ rfl, rfl, rfl⟩, fun b hb => ?_, q⟩
    rw [List.mem_singleton.mp hb]
    exact I1.fpOk (Nat.le_refl _) (I1.hok.fresh (Nat.le_refl _))
  · cases r1
    obtain ⟨its, rv, p, hz⟩ := I1.tuple hq
    refine wpAny_pyIter_tuple (show s1.heap.IsTuple a its.toArray from p) ⟨_, [_], _, _, H1, rfl, I1.kept (t' := s1.toks) (fun b o e => Heap.get?_push_of_some _ e), turn_tuple a _, ⟨_, Heap.get?_push_size _ rfl, rfl, rfl⟩, fun b hb => ?_, q⟩
    rw [List.mem_singleton.mp hb]
    exact I1.fpOk (Nat.le_refl _) (I1.hok.fresh (Nat.le_refl _))
/-- x in s, s a list or a tuple -/
def rInS (K : PySem.W.Frag) (neg : Bool) : R2 := fun x y H Q => ∃ (d : PyData) (ds : List PyData) (a : Addr) (xs : List V), y = .ref a ∧ SqAny K H a xs ∧ DpAll K H xs ds ∧ Dp K H x d ∧ SeqAt.shaped d = true ∧ SeqAt.shaped (.list ds) = true ∧ Q (.bl (if neg then !(ds.any fun z => PyData.eqv z d) else ds.any fun z => PyData.eqv z d)) H
theorem op_inS (hu : X.A.units + 65 < cLine) : OpR X (compareOp .In) (rInS X.K false) := by
  rintro pins s σ H x y v u Q I rx ry ⟨d, ds, a, xs, rfl, ha | ha, hx, hd, s1, s2, q⟩
  · exact op_inD hu pins s σ H x _ v u Q I rx ry ⟨d, ds, hd, .lst ha hx, s1, s2, q⟩
  · exact op_inT hu pins s σ H x _ v u Q I rx ry ⟨d, ds, hd, .tup ha hx, s1, s2, q⟩
theorem op_notInS (hu : X.A.units + 65 < cLine) : OpR X (compareOp .NotIn) (rInS X.K true) := by
  rintro pins s σ H x y v u Q I rx ry ⟨d, ds, a, xs, rfl, ha | ha, hx, hd, s1, s2, q⟩
  · exact op_notInD hu pins s σ H x _ v u Q I rx ry ⟨d, ds, hd, .lst ha hx, s1, s2, q⟩
  · exact op_notInT hu pins s σ H x _ v u Q I rx ry ⟨d, ds, hd, .tup ha hx, s1, s2, q⟩
theorem hu5 {A : Around} {k : Nat} (hr : Room k A) : A.units + 65 < cLine := by have := hr.un; omega
end
section
variable {K : PySem.W.Frag} {H H0 : Hp} {a : Addr} {xs : List V} {g : TG} {tb : TS} {D : Ends} {σ : L2.St} {i : Nat}
/-- for x in s, s a list or a tuple that stands still -/
theorem forS (Pv : Nat → L2.St → Hp → Prop) (hσ : σ[i]? = some (some (.ref a))) (hS : SqAny K H a xs) (h0 : Pv 0 σ H) (hk : ∀ j σ' H', Pv j σ' H' → Kp [] H H')
    (hs : ∀ j x σ H, xs[j]? = some x → Pv j σ H → g x σ H fun σ2 H2 => tb { D with nx := Pv (j + 1), ct := Pv (j + 1), bk := D.nx } σ2 H2) (hd : ∀ σ H, Pv xs.length σ H → D.nx σ H) : tFor (iSeq K (tVar i)) g tb D σ H := by
  rcases hS with h | h
  · exact ⟨_, hσ, a, rfl, .inl ⟨⟨xs, h⟩, for_list Pv h0 (fun j σ' H' _ p => (hk j σ' H' p).ls not0 h) hs hd⟩⟩
  · exact ⟨_, hσ, a, rfl, .inr ⟨⟨xs, h⟩, for_tup Pv h0 (fun j σ' H' _ p => (hk j σ' H' p).tp not0 h) hs hd⟩⟩
end
end My

set_option Elab.async false
set_option linter.all false
set_option maxRecDepth 100000
set_option maxHeartbeats 4000000
/-! ### t < u of two tuples, where only the first items that differ need to compare -/
namespace My
open PySem PySem.SeqAt
open PyProof.Rows Ob Builtin
theorem ltAt1 (l b : Addr) (us vs : Array Value) (n n2 : Nat) (dd dd2 : Option Addr) (sl sl2 : Array (Option Value)) (e r : Nat → Bool) :
    Meets (Builtin.«tuple.__lt__» ⟨[.ref l, .ref b], []⟩) (fun A R s => s.heap.get? l = some { cls := .type "tuple", dict := dd, data := .seq us n, slots := sl } ∧
        s.heap.get? b = some { cls := .type "tuple", dict := dd2, data := .seq vs n2, slots := sl2 } ∧
        (∀ j (h1 : j < us.size) (h2 : j < vs.size), EqAt A.in1 s us[j] vs[j] (e j)) ∧
        (∀ j (h1 : j < us.size) (h2 : j < vs.size), (∀ i, i < j → e i = true) → e j = false → RcOp .Lt A.in1 s us[j] vs[j] (r j)) ∧
        R (.ok (.ret (.bool (lexAt e r (decide (us.size < vs.size)) 0 (min us.size vs.size))))) s) := .of_wp fun prog w A R s h => by
  obtain ⟨hp, g, d, tk, os⟩ := s
  obtain ⟨hl, hb, he, hr, h⟩ := h
  have ty := AutoSeq1.sub_tuple_tuple
  have zl : (us.toList.zip vs.toList).length = min us.size vs.size := by simp
  wp_walk using wpAny_loadPart' hl, wpAny_loadPart' hb, wpAny_forIn_list _ (fun rest b s' => b.1 = none ∧ s' = ⟨hp, g, d, tk, os⟩ ∧ ∃ i, rest = (us.toList.zip vs.toList).drop i ∧ (∀ k, k < i → e k = true) ∧
      R (.ok (.ret (.bool (lexAt e r (decide (us.size < vs.size)) i (min us.size vs.size - i))))) ⟨hp, g, d, tk, os⟩) _
  case turn =>
    rintro ⟨y, x⟩ rest b s' ⟨nb, rfl, i, hz, ae, hR⟩
    have li : i < (us.toList.zip vs.toList).length := Nat.lt_of_not_le fun h' => by rw [List.drop_of_length_le h'] at hz; cases hz
    have lm : i < min us.size vs.size := zl ▸ li
    have m1 : i < us.size := by omega
    have m2 : i < vs.size := by omega
    rw [List.drop_eq_getElem_cons li] at hz
    injection hz with e1 e2
    obtain rfl : y = us[i] := by have := congrArg Prod.fst e1; simpa using this
    obtain rfl : x = vs[i] := by have := congrArg Prod.snd e1; simpa using this
    rw [show min us.size vs.size - i = (min us.size vs.size - (i + 1)) + 1 by omega, lexAt_succ] at hR
    refine wpAny_bind (he i m1 m2 prog w _ _ ?_)
    cases q : e i with
    | true =>
      rw [q, if_pos rfl] at hR
      wp_walk
      exact ⟨rfl, rfl, i + 1, e2, fun k hk => by
        rcases Nat.lt_succ_iff_lt_or_eq.mp hk with h | h
        · exact ae k h
        · rw [h]; exact q, hR⟩
    | false =>
      rw [q, if_neg Bool.false_ne_true] at hR
      have go := hr i m1 m2 ae q prog w
      wp_walk using go
      exact ⟨_, rfl, by simpa using hR⟩
  case fin =>
    rintro ⟨b1, b2⟩ s' ⟨nb, rfl, i, hz, ae, hR⟩
    simp only at nb
    subst nb
    have out : min us.size vs.size ≤ i := Nat.le_of_not_lt fun h' => by
      have h' : i < (us.toList.zip vs.toList).length := by rw [zl]; exact h'
      rw [List.drop_eq_getElem_cons h'] at hz; cases hz
    rw [Nat.sub_eq_zero_of_le out, lexAt_zero] at hR
    wp_walk
    exact ⟨_, rfl, by simpa [Builtin.Tuple.tupleCompareSizes] using hR⟩
  case h => exact ⟨rfl, rfl, 0, rfl, fun k hk => absurd hk (Nat.not_lt_zero k), by simpa using h⟩
theorem tuples_lt1 {A : Around} {s : Shared} {l b : Addr} {us vs : Array Value} {e r : Nat → Bool} (hl : s.heap.IsTuple l us) (hb : s.heap.IsTuple b vs) (hu : A.units < cLine)
    (he : ∀ j (h1 : j < us.size) (h2 : j < vs.size), EqAt A.in1 s us[j] vs[j] (e j))
    (hr : ∀ j (h1 : j < us.size) (h2 : j < vs.size), (∀ i, i < j → e i = true) → e j = false → RcOp .Lt A.in1 s us[j] vs[j] (r j)) :
    RcOp .Lt A s (.ref l) (.ref b) (lexAt e r (decide (us.size < vs.size)) 0 (min us.size vs.size)) := fun prog w E Q h => by
  obtain ⟨⟨c1, d1, p1, s1⟩, ho, hc, n, hd⟩ := id hl
  obtain ⟨⟨c2, d2, p2, s2⟩, ho2, hc2, n2, hd2⟩ := id hb
  simp only at hc hd hc2 hd2
  subst hc hd hc2 hd2
  exact richCompare_meets_room (op := .Lt) ⟨_, ho, rfl⟩ ⟨_, ho2, rfl⟩ F.slot_tuple_lt F.entry_tuple_lt (F.args_tuple_lt_2 _ _) (ltAt1 l b us vs n n2 d1 d2 s1 s2 e r) ⟨ho, ho2, he, hr, ⟨(fun x => nomatch x), h⟩⟩ hu
end My

set_option Elab.async false
set_option linter.all false
set_option maxRecDepth 100000
set_option maxHeartbeats 4000000
/-! ### sorted(moves): a move is ((caller, word, what), goal) -/
namespace My
open PySem PySem.Spec PyProof.Rows L2
abbrev Dd := Int × Str × Key
abbrev Mv := Dd × Int
def kD : Key → PyData
  | .inl i => .int i
  | .inr z => .str z
def ddD (d : Dd) : PyData := .tuple [.int d.1, .str d.2.1, kD d.2.2]
def mvD (m : Mv) : PyData := .tuple [ddD m.1, .int m.2]
def kKey : Key → List Nat
  | .inl i => [0, i.toNat]
  | .inr z => 1 :: z.cps.toList
def ddK (d : Dd) : List (List Nat) := [[d.1.toNat], d.2.1.cps.toList, kKey d.2.2]
def mvK (m : Mv) : List (List Nat) := ddK m.1 ++ [[m.2.toNat]]
def mvLt (m n : Mv) : Bool := decide (mvK m < mvK n)
def sameK : Key → Key → Bool
  | .inl _, .inl _ => true
  | .inr _, .inr _ => true
  | _, _ => false
def posK : Key → Prop
  | .inl i => 0 ≤ i
  | .inr _ => True
def MvOk (m : Mv) : Prop := 0 ≤ m.1.1 ∧ 0 ≤ m.2 ∧ posK m.1.2.2 ∧ PyData.canLay0 (ddD m.1) = true
def MvCmp (m n : Mv) : Prop := m.1.1 = n.1.1 → m.1.2.1 = n.1.2.1 → sameK m.1.2.2 n.1.2.2 = true
theorem mvLt_swo {α : Type} (k : α → Mv) : SrtO.Swo fun x y => mvLt (k x) (k y) := by
  refine ⟨fun x y h => ?_, fun x y z h1 h2 => ?_⟩
  · unfold mvLt at h ⊢
    exact decide_eq_false (List.lt_asymm (of_decide_eq_true h))
  · unfold mvLt at h1 h2 ⊢
    exact decide_eq_false (List.not_lt.mpr (List.le_trans (List.not_lt.mp (of_decide_eq_false h1)) (List.not_lt.mp (of_decide_eq_false h2))))
theorem eqvK (a b : Key) : PyData.eqv (kD a) (kD b) = decide (a = b) := by
  cases a with
  | inl i =>
    cases b with
    | inl j =>
      have e : PyData.eqv (kD (.inl i)) (kD (.inl j)) = (i == j) := by simp only [kD, PyData.eqv]
      rw [e, Bool.eq_iff_iff, beq_iff_eq, decide_eq_true_eq]
      exact ⟨fun h => by rw [h], fun h => Sum.inl.inj h⟩
    | inr z =>
      have e : PyData.eqv (kD (.inl i)) (kD (.inr z)) = false := by simp only [kD, PyData.eqv]
      rw [e, decide_eq_false (fun h => nomatch h)]
  | inr y =>
    cases b with
    | inl j =>
      have e : PyData.eqv (kD (.inr y)) (kD (.inl j)) = false := by simp only [kD, PyData.eqv]
      rw [e, decide_eq_false (fun h => nomatch h)]
    | inr z =>
      have e : PyData.eqv (kD (.inr y)) (kD (.inr z)) = (y == z) := by simp only [kD, PyData.eqv]
      rw [e, Bool.eq_iff_iff, beq_iff_eq, decide_eq_true_eq]
      exact ⟨fun h => by rw [h], fun h => Sum.inr.inj h⟩
theorem eqvDd (a b : Dd) : PyData.eqv (ddD a) (ddD b) = decide (a = b) := by
  obtain ⟨a1, a2, a3⟩ := a
  obtain ⟨b1, b2, b3⟩ := b
  have e : PyData.eqv (ddD (a1, a2, a3)) (ddD (b1, b2, b3)) = ((a1 == b1) && ((a2 == b2) && (PyData.eqv (kD a3) (kD b3) && true))) := by simp only [ddD, PyData.eqv, PyData.eqvAll]
  rw [e, eqvK, Bool.and_true, Bool.eq_iff_iff, Bool.and_eq_true, Bool.and_eq_true, beq_iff_eq, beq_iff_eq, decide_eq_true_eq, decide_eq_true_eq]
  constructor
  · rintro ⟨rfl, rfl, rfl⟩; rfl
  · intro h; cases h; exact ⟨rfl, rfl, rfl⟩
theorem eqvMv (a b : Mv) : PyData.eqv (mvD a) (mvD b) = decide (a = b) := by
  obtain ⟨a1, a2⟩ := a
  obtain ⟨b1, b2⟩ := b
  have e : PyData.eqv (mvD (a1, a2)) (mvD (b1, b2)) = (PyData.eqv (ddD a1) (ddD b1) && ((a2 == b2) && true)) := by simp only [mvD, PyData.eqv, PyData.eqvAll]
  rw [e, eqvDd, Bool.and_true, Bool.eq_iff_iff, Bool.and_eq_true, beq_iff_eq, decide_eq_true_eq, decide_eq_true_eq]
  constructor
  · rintro ⟨rfl, rfl⟩; rfl
  · intro h; cases h; exact ⟨rfl, rfl⟩
/-! #### as it stands in the heap -/
def KvIs (kv : Value) : Key → Prop
  | .inl i => ∃ t, kv = .int i t
  | .inr z => ∃ t, kv = .str z t
def IsDd (h : Heap) (d : Addr) (x : Dd) : Prop := ∃ o n tc tw kv, h.get? d = some o ∧ o.cls = .type "tuple" ∧ o.data = .seq #[.int x.1 tc, .str x.2.1 tw, kv] n ∧ KvIs kv x.2.2
def IsMv (h : Heap) (v : Value) (m : Mv) : Prop := ∃ a o n d tg, v = .ref a ∧ h.get? a = some o ∧ o.cls = .type "tuple" ∧ o.data = .seq #[.ref d, .int m.2 tg] n ∧ IsDd h d m.1
theorem IsMv.keeps {h h' : Heap} {v : Value} {m : Mv} (p : IsMv h v m) (k : ∀ b o, h.get? b = some o → o.cls = .type "tuple" → h'.get? b = some o) : IsMv h' v m := by
  obtain ⟨a, o, n, d, tg, e, g, c, dd, o2, n2, tc, tw, kv, g2, c2, dd2, kk⟩ := p
  exact ⟨a, o, n, d, tg, e, k _ _ g c, c, dd, o2, n2, tc, tw, kv, k _ _ g2 c2, c2, dd2, kk⟩
theorem readsK {h : Heap} {kv : Value} {k : Key} (e : KvIs kv k) : Reads h kv (kD k) [] := by
  cases k with
  | inl i => obtain ⟨t, rfl⟩ := e; exact .int i t
  | inr z => obtain ⟨t, rfl⟩ := e; exact .str z t
theorem IsDd.reads {h : Heap} {d : Addr} {x : Dd} (p : IsDd h d x) : ∃ as, Reads h (.ref d) (ddD x) as := by
  obtain ⟨o, n, tc, tw, kv, g, c, dd, kk⟩ := p
  exact ⟨_, .tuple g c dd (.cons (.int _ _) (.cons (.str _ _) (.cons (readsK kk) .nil)))⟩
theorem seqs2 {us : Array Value} {x y : Value} (h : us.toList = [x, y]) : us = #[x, y] := by
  rw [← Array.toArray_toList (xs := us), h]
theorem seqs3 {us : Array Value} {x y z : Value} (h : us.toList = [x, y, z]) : us = #[x, y, z] := by
  rw [← Array.toArray_toList (xs := us), h]
theorem isDd_of {h : Heap} {v : Value} {x : Dd} {as : List Addr} (r : Reads h v (ddD x) as) : ∃ d, v = .ref d ∧ IsDd h d x := by
  obtain ⟨c, w, k⟩ := x
  generalize e : ddD (c, w, k) = y at r
  unfold ddD at e
  cases r with
  | tuple g cl dd ra =>
    cases e
    rename_i a o vs n
    generalize el : vs.toList = l at ra
    cases ra with
    | cons r1 ra =>
      cases r1 with
      | int _ tc =>
        cases ra with
        | cons r2 ra =>
          cases r2 with
          | str _ tw =>
            cases ra with
            | cons r3 ra =>
              cases ra
              refine ⟨a, rfl, o, n, tc, tw, _, g, cl, by rw [dd, seqs3 el], ?_⟩
              cases k with
              | inl i => cases r3 with
                | int _ t => exact ⟨t, rfl⟩
              | inr z => cases r3 with
                | str _ t => exact ⟨t, rfl⟩
  | _ => cases e
theorem isMv_of {h : Heap} {v : Value} {m : Mv} {as : List Addr} (r : Reads h v (mvD m) as) : IsMv h v m := by
  obtain ⟨x, i⟩ := m
  generalize e : mvD (x, i) = y at r
  unfold mvD at e
  cases r with
  | tuple g cl dd ra =>
    cases e
    rename_i a o vs n
    generalize el : vs.toList = l at ra
    cases ra with
    | cons r1 ra =>
      obtain ⟨d, rfl, p⟩ := isDd_of r1
      cases ra with
      | cons r2 ra =>
        cases r2 with
        | int _ tg =>
          cases ra
          exact ⟨a, o, n, d, tg, rfl, g, cl, by rw [dd, seqs2 el], p⟩
  | _ => cases e
def kLt : Key → Key → Bool
  | .inl i, .inl j => decide (i < j)
  | .inr y, .inr z => decide (y.cps.toList < z.cps.toList)
  | _, _ => false
theorem toNat_lt {a b : Int} (ha : 0 ≤ a) (hb : 0 ≤ b) : a.toNat < b.toNat ↔ a < b := by omega
theorem nat1_lt {a b : Nat} : ([a] : List Nat) < [b] ↔ a < b := by
  rw [List.cons_lt_cons_iff]
  constructor
  · rintro (h | ⟨_, h⟩)
    · exact h
    · exact absurd h (List.lt_irrefl _)
  · exact .inl
theorem int1_lt {a b : Int} (ha : 0 ≤ a) (hb : 0 ≤ b) : ([a.toNat] : List Nat) < [b.toNat] ↔ a < b := by rw [nat1_lt, toNat_lt ha hb]
theorem int1_eq {a b : Int} (ha : 0 ≤ a) (hb : 0 ≤ b) : ([a.toNat] : List Nat) = [b.toNat] ↔ a = b := by
  constructor
  · intro h; have := (List.cons.inj h).1; omega
  · rintro rfl; rfl
theorem strs_eq {a b : Str} : a.cps.toList = b.cps.toList ↔ a = b := by
  constructor
  · intro h
    obtain ⟨⟨a⟩⟩ := a
    obtain ⟨⟨b⟩⟩ := b
    have h : a = b := h
    rw [h]
  · rintro rfl; rfl
theorem kKey_eq {a b : Key} (ha : posK a) (hb : posK b) : kKey a = kKey b ↔ a = b := by
  cases a with
  | inl i =>
    cases b with
    | inl j =>
      constructor
      · intro h
        have h : [0, i.toNat] = [0, j.toNat] := h
        have e := (List.cons.inj (List.cons.inj h).2).1
        have a1 : 0 ≤ i := ha
        have b1 : 0 ≤ j := hb
        rw [show i = j by omega]
      · rintro h; rw [h]
    | inr z => exact ⟨fun h => absurd (show [0, i.toNat] = 1 :: z.cps.toList from h) (by simp), fun h => nomatch h⟩
  | inr y =>
    cases b with
    | inl j => exact ⟨fun h => absurd (show 1 :: y.cps.toList = [0, j.toNat] from h) (by simp), fun h => nomatch h⟩
    | inr z =>
      constructor
      · intro h
        have h : 1 :: y.cps.toList = 1 :: z.cps.toList := h
        rw [strs_eq.mp (List.cons.inj h).2]
      · rintro h; rw [h]
theorem kKey_lt {a b : Key} (ha : posK a) (hb : posK b) (s : sameK a b = true) : kKey a < kKey b ↔ kLt a b = true := by
  cases a with
  | inl i =>
    cases b with
    | inl j =>
      have a1 : 0 ≤ i := ha
      have b1 : 0 ≤ j := hb
      show ([0, i.toNat] : List Nat) < [0, j.toNat] ↔ decide (i < j) = true
      rw [List.cons_lt_cons_iff, decide_eq_true_eq, ← toNat_lt a1 b1, ← nat1_lt (a := i.toNat)]
      constructor
      · rintro (h | ⟨_, h⟩)
        · exact absurd h (Nat.lt_irrefl _)
        · exact h
      · exact fun h => .inr ⟨rfl, h⟩
    | inr z => cases s
  | inr y =>
    cases b with
    | inl j => cases s
    | inr z =>
      show ((1 :: y.cps.toList : List Nat) < 1 :: z.cps.toList) ↔ decide (y.cps.toList < z.cps.toList) = true
      rw [List.cons_lt_cons_iff, decide_eq_true_eq]
      constructor
      · rintro (h | ⟨_, h⟩)
        · exact absurd h (Nat.lt_irrefl _)
        · exact h
      · exact fun h => .inr ⟨rfl, h⟩
/-- what < of two deeds tells -/
def ddB (x y : Dd) : Bool := if x.1 = y.1 then (if x.2.1 = y.2.1 then (if x.2.2 = y.2.2 then false else kLt x.2.2 y.2.2) else decide (x.2.1.cps.toList < y.2.1.cps.toList)) else decide (x.1 < y.1)
theorem ddB_eq {x y : Dd} (hx : 0 ≤ x.1) (hy : 0 ≤ y.1) (kx : posK x.2.2) (ky : posK y.2.2) (c : x.1 = y.1 → x.2.1 = y.2.1 → sameK x.2.2 y.2.2 = true) : ddB x y = decide (ddK x < ddK y) := by
  have e : ddK x < ddK y ↔ (x.1 < y.1 ∨ x.1 = y.1 ∧ (x.2.1.cps.toList < y.2.1.cps.toList ∨ x.2.1 = y.2.1 ∧ kKey x.2.2 < kKey y.2.2)) := by
    unfold ddK
    rw [List.cons_lt_cons_iff (a := [x.1.toNat]), List.cons_lt_cons_iff (a := x.2.1.cps.toList), List.cons_lt_cons_iff (a := kKey x.2.2), int1_lt hx hy, int1_eq hx hy, strs_eq]
    constructor
    · rintro (h | ⟨h, h2 | ⟨h2, h3 | ⟨_, h3⟩⟩⟩)
      · exact .inl h
      · exact .inr ⟨h, .inl h2⟩
      · exact .inr ⟨h, .inr ⟨h2, h3⟩⟩
      · exact absurd h3 (List.lt_irrefl _)
    · rintro (h | ⟨h, h2 | ⟨h2, h3⟩⟩)
      · exact .inl h
      · exact .inr ⟨h, .inl h2⟩
      · exact .inr ⟨h, .inr ⟨h2, .inl h3⟩⟩
  rw [Bool.eq_iff_iff, decide_eq_true_eq, e]
  unfold ddB
  by_cases h1 : x.1 = y.1
  · rw [if_pos h1]
    have n1 : ¬ x.1 < y.1 := by omega
    by_cases h2 : x.2.1 = y.2.1
    · rw [if_pos h2]
      have n2 : ¬ x.2.1.cps.toList < y.2.1.cps.toList := by rw [h2]; exact List.lt_irrefl _
      by_cases h3 : x.2.2 = y.2.2
      · rw [if_pos h3]
        refine ⟨(fun z => by cases z), ?_⟩
        rintro (h | ⟨_, h | ⟨_, h⟩⟩)
        · exact absurd h n1
        · exact absurd h n2
        · rw [h3] at h; exact absurd h (List.lt_irrefl _)
      · rw [if_neg h3, ← kKey_lt kx ky (c h1 h2)]
        refine ⟨fun z => .inr ⟨h1, .inr ⟨h2, z⟩⟩, ?_⟩
        rintro (h | ⟨_, h | ⟨_, h⟩⟩)
        · exact absurd h n1
        · exact absurd h n2
        · exact h
    · rw [if_neg h2, decide_eq_true_eq]
      refine ⟨fun z => .inr ⟨h1, .inl z⟩, ?_⟩
      rintro (h | ⟨_, h | ⟨h, _⟩⟩)
      · exact absurd h n1
      · exact h
      · exact absurd h h2
  · rw [if_neg h1, decide_eq_true_eq]
    refine ⟨.inl, ?_⟩
    rintro (h | ⟨h, _⟩)
    · exact h
    · exact absurd h h1
section
variable {prog : Program} {w : World} {A : Around} {s : Shared}
open PySem.SeqAt Ob
theorem eqKv {a b : Value} {x y : Key} (ha : KvIs a x) (hb : KvIs b y) : EqAt A s a b (decide (x = y)) := by
  cases x with
  | inl i =>
    obtain ⟨t, rfl⟩ := ha
    cases y with
    | inl j =>
      obtain ⟨u, rfl⟩ := hb
      have e : decide ((Sum.inl i : Key) = .inl j) = (i == j) := by
        rw [Bool.eq_iff_iff, beq_iff_eq, decide_eq_true_eq]
        exact ⟨fun h => Sum.inl.inj h, fun h => by rw [h]⟩
      rw [e]; exact EqAt.int_int _ _ _ _
    | inr z =>
      obtain ⟨u, rfl⟩ := hb
      rw [decide_eq_false (fun h => nomatch h)]; exact EqAt.int_str _ _ _ _
  | inr z =>
    obtain ⟨t, rfl⟩ := ha
    cases y with
    | inl j =>
      obtain ⟨u, rfl⟩ := hb
      rw [decide_eq_false (fun h => nomatch h)]; exact EqAt.str_int _ _ _ _
    | inr z2 =>
      obtain ⟨u, rfl⟩ := hb
      have e : decide ((Sum.inr z : Key) = .inr z2) = (z == z2) := by
        rw [Bool.eq_iff_iff, beq_iff_eq, decide_eq_true_eq]
        exact ⟨fun h => Sum.inr.inj h, fun h => by rw [h]⟩
      rw [e]; exact EqAt.str_str _ _ _ _
theorem RcOp.lt_str1 (a b : Str) (t u : Tok) : RcOp .Lt A s (.str a t) (.str b u) (decide (a.cps.toList < b.cps.toList)) := fun _ _ _ _ h => lt_str h
theorem ltKv {a b : Value} {x y : Key} (ha : KvIs a x) (hb : KvIs b y) (k : sameK x y = true) : RcOp .Lt A s a b (kLt x y) := by
  cases x with
  | inl i =>
    obtain ⟨t, rfl⟩ := ha
    cases y with
    | inl j => obtain ⟨u, rfl⟩ := hb; exact RcOp.lt_int _ _ _ _
    | inr z => cases k
  | inr z =>
    obtain ⟨t, rfl⟩ := ha
    cases y with
    | inl j => cases k
    | inr z2 => obtain ⟨u, rfl⟩ := hb; exact RcOp.lt_str1 _ _ _ _
theorem beq_dec {α : Type} [DecidableEq α] [BEq α] [LawfulBEq α] (a b : α) : (a == b) = decide (a = b) := by
  rw [Bool.eq_iff_iff, beq_iff_eq, decide_eq_true_eq]
def eJ (x y : Dd) : Nat → Bool
  | 0 => decide (x.1 = y.1)
  | 1 => decide (x.2.1 = y.2.1)
  | _ => decide (x.2.2 = y.2.2)
def rJ (x y : Dd) : Nat → Bool
  | 0 => decide (x.1 < y.1)
  | 1 => decide (x.2.1.cps.toList < y.2.1.cps.toList)
  | _ => kLt x.2.2 y.2.2
theorem ddLt {d d' : Addr} {x y : Dd} (p : IsDd s.heap d x) (q : IsDd s.heap d' y) (hu : A.units < cLine) (c : x.1 = y.1 → x.2.1 = y.2.1 → sameK x.2.2 y.2.2 = true) : RcOp .Lt A s (.ref d) (.ref d') (ddB x y) := by
  obtain ⟨o, n, tc, tw, kv, g, cl, dd, kk⟩ := p
  obtain ⟨o2, n2, tc2, tw2, kv2, g2, cl2, dd2, kk2⟩ := q
  have R := tuples_lt1 (A := A) (s := s) (l := d) (b := d') (us := #[.int x.1 tc, .str x.2.1 tw, kv]) (vs := #[.int y.1 tc2, .str y.2.1 tw2, kv2]) (e := eJ x y) (r := rJ x y) ⟨o, g, cl, n, dd⟩ ⟨o2, g2, cl2, n2, dd2⟩ hu (fun j h1 h2 => ?_) (fun j h1 h2 ae ef => ?_)
  · have e : lexAt (eJ x y) (rJ x y) (decide (3 < 3)) 0 3 = ddB x y := by
      have f3 : decide (3 < 3) = false := by decide
      rw [f3, lexAt_succ, lexAt_succ, lexAt_succ, lexAt_zero]
      unfold ddB eJ rJ
      by_cases h1 : x.1 = y.1
      · by_cases h2 : x.2.1 = y.2.1
        · by_cases h3 : x.2.2 = y.2.2 <;> simp [h1, h2, h3]
        · simp [h1, h2]
      · simp [h1]
    rw [← e]
    exact R
  · match j, h1, h2 with
    | 0, _, _ => show EqAt _ _ (.int x.1 tc) (.int y.1 tc2) (decide (x.1 = y.1)); rw [← beq_dec]; exact EqAt.int_int _ _ _ _
    | 1, _, _ => show EqAt _ _ (.str x.2.1 tw) (.str y.2.1 tw2) (decide (x.2.1 = y.2.1)); rw [← beq_dec]; exact EqAt.str_str _ _ _ _
    | 2, _, _ => exact eqKv kk kk2
    | k + 3, h1, _ => exact absurd h1 (by simp)
  · match j, h1, h2, ae, ef with
    | 0, _, _, _, _ => exact RcOp.lt_int _ _ _ _
    | 1, _, _, _, _ => exact RcOp.lt_str1 _ _ _ _
    | 2, _, _, ae, _ => exact ltKv kk kk2 (c (of_decide_eq_true (ae 0 (by decide))) (of_decide_eq_true (ae 1 (by decide))))
    | k + 3, h1, _, _, _ => exact absurd h1 (by simp)
theorem app_lt {α : Type} [LT α] [DecidableLT α] [DecidableEq α] : ∀ {l m s t : List α}, l.length = m.length → l ≠ m → (l ++ s < m ++ t ↔ l < m)
  | [], [], _, _, _, h => absurd rfl h
  | a :: l, b :: m, s, t, e, h => by
    rw [List.cons_append, List.cons_append, List.cons_lt_cons_iff, List.cons_lt_cons_iff]
    by_cases hab : a = b
    · subst hab
      have hn : l ≠ m := fun z => h (by rw [z])
      rw [app_lt (by simpa using e) hn]
    · constructor
      · rintro (h | ⟨h, _⟩)
        · exact .inl h
        · exact absurd h hab
      · rintro (h | ⟨h, _⟩)
        · exact .inl h
        · exact absurd h hab
theorem ddK_inj {x y : Dd} (hx : 0 ≤ x.1) (hy : 0 ≤ y.1) (kx : posK x.2.2) (ky : posK y.2.2) (h : ddK x = ddK y) : x = y := by
  unfold ddK at h
  have h1 := (int1_eq hx hy).mp (List.cons.inj h).1
  have h2 := strs_eq.mp (List.cons.inj (List.cons.inj h).2).1
  have h3 := (kKey_eq kx ky).mp (List.cons.inj (List.cons.inj (List.cons.inj h).2).2).1
  obtain ⟨a, b, c⟩ := x
  obtain ⟨a', b', c'⟩ := y
  have h1 : a = a' := h1
  have h2 : b = b' := h2
  have h3 : c = c' := h3
  rw [h1, h2, h3]
theorem mvLt_eq {m n : Mv} (hm : MvOk m) (hn : MvOk n) (c : MvCmp m n) : mvLt m n = if m.1 = n.1 then decide (m.2 < n.2) else ddB m.1 n.1 := by
  have hB := ddB_eq hm.1 hn.1 hm.2.2.1 hn.2.2.1 c
  rw [Bool.eq_iff_iff]
  unfold mvLt mvK
  rw [decide_eq_true_eq]
  by_cases h : m.1 = n.1
  · rw [if_pos h, h, decide_eq_true_eq, ← int1_lt hm.2.1 hn.2.1]
    have e : ∀ (l : List (List Nat)) (a b : List Nat), (l ++ [a] < l ++ [b]) ↔ a < b := fun l a b => by
      induction l with
      | nil =>
        rw [List.nil_append, List.nil_append, List.cons_lt_cons_iff]
        exact ⟨fun h => h.elim id fun h => absurd h.2 (List.lt_irrefl _), .inl⟩
      | cons x r ih =>
        rw [List.cons_append, List.cons_append, List.cons_lt_cons_iff, ih]
        exact ⟨fun h => h.elim (fun h => absurd h (List.lt_irrefl _)) fun h => h.2, fun h => .inr ⟨rfl, h⟩⟩
    exact e _ _ _
  · rw [if_neg h, hB, decide_eq_true_eq]
    exact app_lt rfl fun z => h (ddK_inj hm.1 hn.1 hm.2.2.1 hn.2.2.1 z)
theorem mv_cmp {vs : List Value} {k : Value → Mv} (hp : ∀ v ∈ vs, IsMv s.heap v (k v)) (ok : ∀ v ∈ vs, MvOk (k v)) (cm : ∀ v ∈ vs, ∀ u ∈ vs, MvCmp (k v) (k u)) (hu : A.units + 64 < cLine) : SrtO.Cmp prog w A s (tuples' false) (fun p => p.1 ∈ vs) (SrtO.lt2 fun v u => mvLt (k v) (k u)) := by
  intro p q hm hm'
  have h1 := hp _ hm
  have h2 := hp _ hm'
  have o1 := ok _ hm
  have o2 := ok _ hm'
  have c := cm _ hm _ hm'
  show wpAny (model prog w) A (keyLt' (tuples' false) p.1 q.1) (fun r s' => s' = s ∧ r = mvLt (k p.1) (k q.1)) (fun _ _ => False) s
  rw [mvLt_eq o1 o2 c]
  generalize k p.1 = m at h1 o1 c ⊢
  generalize k q.1 = m2 at h2 o2 c ⊢
  obtain ⟨a, o, n, d, tg, e1, g, cl, dd, pd⟩ := h1
  obtain ⟨a2, o2', n2, d2, tg2, e2, g2, cl2, dd2, pd2⟩ := h2
  rw [e1, e2]
  obtain ⟨as, r1⟩ := pd.reads
  obtain ⟨bs, r2⟩ := pd2.reads
  refine PySem.W.kat_lt g dd g2 dd2 ?_
  show PySem.W.KatLex prog w A false (decide (2 < 2)) _ [(.ref d, .ref d2), (.int m.2 tg, .int m2.2 tg2)] 0 s
  have du : A.units + min (ddD m.1).depth (ddD m2.1).depth < cLine := by
    have e : (ddD m.1).depth ≤ 2 := by
      obtain ⟨⟨c1, w1, k1⟩, g1⟩ := m
      cases k1
      · show max 0 (max 0 (max 0 0)) + 1 ≤ 2; decide
      · show max 0 (max 0 (max 0 0)) + 1 ≤ 2; decide
    omega
  refine PySem.W.kat_cons (eqAt_reads _ _ A s _ _ _ _ r1 r2 o1.2.2.2 o2.2.2.2 du prog w _ _ ?_)
  rw [eqvDd]
  refine PySem.W.kat_go (fun e3 => ?_) (fun e3 => ?_)
  · have e4 : m.1 = m2.1 := of_decide_eq_true e3
    rw [if_pos e4]
    refine PySem.W.kat_yes (PySem.W.kat_cons (EqAt.int_int _ _ _ _ prog w _ _ ?_))
    refine PySem.W.kat_go (fun e5 => ?_) (fun e5 => ?_)
    · have e6 : m.2 = m2.2 := by simpa using e5
      refine PySem.W.kat_yes (PySem.W.kat_nil ⟨rfl, ?_⟩)
      rw [e6]
      exact (decide_eq_false (Int.lt_irrefl _)).symm
    · exact PySem.W.kat_no (PySem.W.kat_one _ _ (PyProof.Rows.lt_int ⟨rfl, rfl⟩))
  · rw [if_neg (of_decide_eq_false e3)]
    exact PySem.W.kat_no (PySem.W.kat_one _ _ (ddLt pd pd2 (by omega) c prog w _ _ ⟨rfl, rfl⟩))
theorem mv_firsts {h : Heap} : ∀ {vs : List Value} {k : Value → Mv}, (∀ v ∈ vs, IsMv h v (k v)) → ∃ fs : List Value, PySem.W.KatTups h vs fs ∧ fs.length = vs.length ∧ ∀ f ∈ fs, ∃ d x, f = Value.ref d ∧ IsDd h d x
  | [], _, _ => ⟨[], PySem.W.KatTups.nil, rfl, fun _ hm => nomatch hm⟩
  | v :: vs, k, hp => by
    obtain ⟨fs, h1, h2, h3⟩ := mv_firsts (vs := vs) (k := k) fun v' hm => hp v' (List.mem_cons_of_mem _ hm)
    obtain ⟨a, o, n, d, tg, e, g, cl, dd, pd⟩ := hp v List.mem_cons_self
    subst e
    refine ⟨.ref d :: fs, PySem.W.KatTups.cons g cl dd rfl h1, by rw [List.length_cons, List.length_cons, h2], fun f hm => ?_⟩
    rcases List.mem_cons.mp hm with rfl | hm
    · exact ⟨d, _, rfl, pd⟩
    · exact h3 f hm
theorem mv_sortable {a : Addr} {vs : List Value} {k : Value → Mv} (h0 : 0 < vs.length) (hp : ∀ v ∈ vs, IsMv s.heap v (k v)) (ok : ∀ v ∈ vs, MvOk (k v)) (cm : ∀ v ∈ vs, ∀ u ∈ vs, MvCmp (k v) (k u)) (hu : A.units + 64 < cLine) (ha : ∀ o, s.heap.get? a = some o → o.cls ≠ .type "tuple") : SrtO.SortableO prog w A s a vs fun v u => mvLt (k v) (k u) := by
  intro h' keep
  have hp' : ∀ v ∈ vs, IsMv h' v (k v) := fun v hm => (hp v hm).keeps fun b o e c => keep b o (fun z => by subst z; exact ha o e c) e
  obtain ⟨fs, h1, h2, h3⟩ := mv_firsts hp'
  refine ⟨tuples' false, fun Q E hq => ?_, mv_cmp (s := { s with heap := h' }) hp' ok cm hu⟩
  refine PySem.W.kat_kind (T := .type "tuple") h1 (by omega) (fun f hm => ?_) (by rfl) ?_
  · obtain ⟨d, x, rfl, o, n, tc, tw, kv, g, cl, _⟩ := h3 f hm
    rw [← cl]
    exact (PySem.W.Looks.ld g).andThen .now
  · have e : (Value.type "tuple" != Value.type "tuple") = false := by first | decide +kernel | rfl | decide
    rw [e]
    exact hq
end
end My
namespace My
open PySem PySem.Spec PyProof.Rows L2
/-- sorted(xs), xs a list of moves (k says which) that may be compared: a new list, sorted -/
def rSortedM (K : PySem.W.Frag) : List V → Hp → VK → Prop := fun vs H Q => ∃ (a : Addr) (xs : List V) (k : V → Mv), vs = [V.ref a] ∧ SqL K H a xs ∧ (∀ x ∈ xs, Dp K H x (mvD (k x)) ∧ MvOk (k x)) ∧ (∀ x ∈ xs, ∀ y ∈ xs, MvCmp (k x) (k y)) ∧
  ∀ ys p, SrtO.Srtd (fun x y => mvLt (k x) (k y)) ys → ys.Perm xs → H p = none → Q (.ref p) (upd H p (.lst ys))
theorem dp_ref {K : PySem.W.Frag} {H : Hp} {v : V} {m : Mv} (h : Dp K H v (mvD m)) : ∃ a, v = .ref a := by
  unfold mvD at h
  cases h
  exact ⟨_, rfl⟩
section
variable {X : Cx}
theorem cr_sortedM (hu : X.A.units + 70 < cLine) : CallR X (.builtin "sorted") (rSortedM X.K) := by
  intro pins s σ H vs us Q I r h
  obtain ⟨a, xs, k, rfl, hs, hx, hc, q⟩ := h
  obtain ⟨its, rv, hl, hz⟩ := I.list hs
  obtain ⟨u, rfl, ru⟩ := vals1 r
  obtain rfl : u = Value.ref a := ru
  obtain ⟨e1, e2⟩ := refs_back rv fun x m => dp_ref (hx x m).1
  have mem : ∀ v ∈ its, backV v ∈ xs ∧ RelV (backV v) v := fun v hv => by
    obtain ⟨t, rfl⟩ := e2 v hv
    exact ⟨by rw [e1]; exact List.mem_map.mpr ⟨_, hv, rfl⟩, rfl⟩
  have mv : ∀ v ∈ its, IsMv s.heap v (k (backV v)) := fun v hv => by
    obtain ⟨m, rr⟩ := mem v hv
    obtain ⟨as, rd⟩ := Dp.reads I _ _ v (hx _ m).1 rr
    exact isMv_of rd
  refine SrtO.sorted_ord (mvLt_swo fun v => k (backV v)) hl.isList (by rw [← rv.length]; exact hz) (fun h2 h₁ a₁ ha kk => ?_) fun out h1 h2 => ?_
  · refine mv_sortable (s := { s with heap := h₁ }) (by omega) (fun v hv => (mv v hv).keeps fun b o e _ => (kk b o e).2) (fun v hv => (hx _ (mem v hv).1).2) (fun v hv u hu2 => hc _ (mem v hv).1 _ (mem u hu2).1) (show X.A.units + 1 + 1 + 64 < cLine by omega) fun o e => ?_
    have e' : some o = some (seqObj "list" its.toArray 0) := e.symm.trans ha
    cases e'
    intro c
    exact absurd (Value.type.inj c) (by decide)
  · have h3 : ∀ u ∈ out, ∃ a, u = Value.ref a := fun u hu => e2 u (h2.perm.mem_iff.mp hu)
    have pb : (out.map backV).Perm xs := by rw [e1]; exact h2.perm.map backV
    have fd : H (s.heap.objs.size + 1) = none := I.hok.fresh (Nat.le_succ _)
    refine ⟨.ref (s.heap.objs.size + 1), upd H (s.heap.objs.size + 1) (.lst (out.map backV)), I.laid (t' := s.toks) (fun b o e => sortedAll_old e) (Nat.le_succ _) ⟨?_, out, _, vals_back h3, (sortedAll_at s.heap its out.toArray).choose_spec⟩, rfl, q _ _ (SrtO.srtd_map h1) pb fd⟩
    rw [pb.length_eq]
    exact hz
end
end My

set_option Elab.async false
set_option linter.all false
set_option maxRecDepth 100000
set_option maxHeartbeats 4000000
/-! ### a dict comprehension whose keys are tuples -/
namespace My
open PySem PySem.Spec PyProof.Rows L2
/-- the new dict's keys are tuples that stand in the heap -/
def tDcT (wi : TI) (g : TG) (tt : TT) (tk tv : TE) (vs : List Nat) : TE := fun σ H Q => wi σ H fun J H1 => ∀ D, H1 D = none → ∃ W : Nat → Nat → Hp → Prop, (∃ m, W 0 m (upd H1 D (.dT []))) ∧ ∀ i m H, W i m H →
  (J.stop i H ∧ Q (.ref D) H) ∨ (J.go i H ∧ ∃ Nx : Hp → Prop, (∀ H', Nx H' → ∃ m', m' < m ∧ W (i + 1) m' H') ∧ ∀ x H', J.yld i H x H' → g x (wipe σ vs) H' fun σ2 H2 => wipe σ2 vs = wipe σ vs ∧ tt σ2 H2 fun b H3 =>
    if b = true then tk σ2 H3 fun y H4 => tv σ2 H4 fun z H5 => ∃ (kvs : List (List Key × V)) (k : List Key) (c : Addr), y = .ref c ∧ H5 c = some (.tup (k.map kV)) ∧ H5 D = some (.dT kvs) ∧ kvs.length < sizeLine ∧ Nx (upd H5 D (.dT (putK kvs k z))) else Nx H3)
section
variable {X : Cx}
theorem dictSetT {A : Around} {pins : List (Addr × Obj)} {σ : L2.St} {H : Hp} {s : Shared} {E : Value → Shared → Prop} {D b : Addr} {kvs : List (List Key × V)} {k : List Key} {v : V} {r : Value} {Q : Unit → Shared → Prop} (hu : A.units + 1 < cLine) (I : Inv X pins σ H s) (hD : H D = some (.dT kvs)) (eb : H b = some (.tup (k.map kV)))
    (hz : kvs.length < sizeLine) (rv : RelV v r) (h : ∀ s', Inv X pins σ (upd H D (.dT (putK kvs k v))) s' → Q () s') : wpAny (model X.prog X.w) A (dictSet D (.ref b) r) Q E s := by
  obtain ⟨z, hd, xs, rel, dd⟩ := dt_of I.hok hD
  have zx : xs.length ≤ sizeLine := by rw [← Paired.length rel]; exact z
  have zl : (putK kvs k v).length ≤ sizeLine := by have := length_putK kvs k v; omega
  refine wpAny_dictSet_heap (hsz := zx) (show A.units < cLine by omega) (key_of I.hok eb) dd fun h' dd' hs => h _ ?_
  obtain ⟨q, es, ep, hq, h2, h3, h4, _, h5⟩ := dd'
  refine d_write I (by rw [hD]; exact True.intro) hs ⟨q, hq⟩ ⟨zl, hd, _, (rel.put k eb rv).keeps fun c ys ec => ?_, q, es, ep, hq, h2, h3, h4, h5⟩
  rw [upd_ne (ne_of ec hD (fun z => nomatch z))]
  exact ec
theorem pe_dcT {kx vx tg iter : Expr} {ifs : List Expr} {scope : Scope} {own : List (Str × Nat)} {pos : Pos} {wi : TI} {g : TG} {tt : TT} {tk tv : TE} (hu : X.A.units + 1 < cLine) (calm : X.calm = true) (nd : X.N.Nodup) (hi : PI X tg iter wi) (ok : BlkOk X.N X.env.scope scope own)
    (pg : ∀ (s : Shared) (H : Hp) (C : Addr) (cl : List (Str × Addr)) (fp : List Addr), PG (X.blk s H scope (compEnvC scope cl C X.env) fp) tg g) (pt : ∀ (s : Shared) (H : Hp) (C : Addr) (cl : List (Str × Addr)) (fp : List Addr), PTs (X.blk s H scope (compEnvC scope cl C X.env) fp) ifs tt)
    (pk : ∀ (s : Shared) (H : Hp) (C : Addr) (cl : List (Str × Addr)) (fp : List Addr), PE (X.blk s H scope (compEnvC scope cl C X.env) fp) kx tk)
    (pv : ∀ (s : Shared) (H : Hp) (C : Addr) (cl : List (Str × Addr)) (fp : List Addr), PE (X.blk s H scope (compEnvC scope cl C X.env) fp) vx tv) (fold : ∀ x, foldedSetIterable iter X.env x = pure x := by intro _; rfl) :
    PE X (.DictComp kx vx [⟨tg, iter, ifs, 0⟩] scope pos) (tDcT wi g tt tk tv (own.map (·.2))) := by
  refine ⟨fun pins s σ H Q I asked => ?_⟩
  rw [arm_eval_DictComp]
  have cells : ∀ y ∈ scope.names, y.2 = .free → ∃ c, X.env.cells.lookup y.1 = some c := fun y hy e => (ok.free y hy e).elim (fun k => I.ok.has _ (.inl k)) fun k => I.ok.has _ (.inr k)
  refine wpAny_comprehension_free (use := none) rfl fold (closure_ok cells) ok.kind (fun y hy e => by rw [ok.uniq y hy, e])
    (thn (hi.run pins s σ H _ I asked) fun xv s1 got => thn got fun itv s2 got2 => ?_)
  obtain ⟨it, fp, tn, J, H2, e, I2, T, at0, own0, rest⟩ := got2
  subst e
  refine wpAny_newObj_type (newEnv_comp ?_)
  generalize eD : s2.heap.objs.size = D
  obtain ⟨W, ⟨m0, w0⟩, turn⟩ := rest D (I2.hok.fresh (Nat.le_of_eq eD))
  generalize e3 : ({ s2 with heap := s2.heap.push { cls := .type "dict", data := .dict #[] } } : Shared) = s3
  have I3 : Inv X pins σ (upd H2 D (.dT [])) s3 := by
    rw [← e3]
    refine I2.laid (t' := s2.toks) (fun b o q => Heap.get?_push_of_some _ q) (Nat.le_of_eq eD) ?_
    rw [← eD]
    exact dt_empty s2.heap I2.big
  have hp3 : s3.heap = s2.heap.push { cls := .type "dict", data := .dict #[] } := by rw [← e3]
  have own3 : ∀ b ∈ fp, FpOk X pins (upd H2 D (.dT [])) b ∧ b < s3.heap.objs.size := fun b hb => by
    obtain ⟨o, q, _⟩ := T.obj _ _ at0 b hb
    have lt := Heap.lt_size q
    exact ⟨⟨by rw [upd_ne (by rw [← eD]; exact Nat.ne_of_lt lt)]; exact (own0 b hb).1, (own0 b hb).2⟩, by rw [hp3, Heap.size_push]; exact Nat.lt_succ_of_lt lt⟩
  have at3 : tn 0 s3.heap := T.keep _ _ _ at0 fun b _ o q => by rw [hp3]; exact Heap.get?_push_of_some _ q
  have I4 := block_start I3 ok nd own3
  have bg := pg s3 (upd H2 D (.dT [])) s3.heap.objs.size (cellsFrom (s3.heap.objs.size + 1) scope.names (cloFrom X.env.cells scope.names [])) fp
  have bt := pt s3 (upd H2 D (.dT [])) s3.heap.objs.size (cellsFrom (s3.heap.objs.size + 1) scope.names (cloFrom X.env.cells scope.names [])) fp
  have bk := pk s3 (upd H2 D (.dT [])) s3.heap.objs.size (cellsFrom (s3.heap.objs.size + 1) scope.names (cloFrom X.env.cells scope.names [])) fp
  have bv := pv s3 (upd H2 D (.dT [])) s3.heap.objs.size (cellsFrom (s3.heap.objs.size + 1) scope.names (cloFrom X.env.cells scope.names [])) fp
  have none3 : ∀ b ∈ fp, (upd H2 D (.dT [])) b = none := fun b hb => (own3 b hb).1.1
  generalize eE : compEnvC scope (cellsFrom (s3.heap.objs.size + 1) scope.names (cloFrom X.env.cells scope.names [])) s3.heap.objs.size X.env = ce at I4 bg bt bk bv
  have cL : ce.locals = s3.heap.objs.size := by subst eE; rfl
  generalize eH : upd H2 D (.dT []) = H3 at I3 I4 bg bt bk bv w0 none3 own3
  generalize e4 : ({ s3 with heap := pushCells (s3.heap.push { cls := .type "dict", data := .dict #[] }) scope.names } : Shared) = s4 at I4
  have at4 : tn 0 s4.heap := T.keep _ _ _ at3 fun b _ o q => by rw [← e4]; exact pushCells_keeps _ _ _ _ (Heap.get?_push_of_some _ q)
  have foot : ∀ {σ' : L2.St} {H' : Hp} {s' : Shared}, Inv (X.blk s3 H3 scope ce fp) [] σ' H' s' → (∀ b ∈ fp, H' b = none) → ∀ b ∈ fp, FpOk (X.blk s3 H3 scope ce fp) [] H' b := fun {σ' H' s'} I' n b hb =>
    ⟨n b hb, (I'.ok.exf b hb).1, I'.ok.exfs b hb, .inl hb, fun x c q => (I'.ok.exf b hb).2 x c q, fun p hp => absurd (show p ∈ ([] : List (Addr × Obj)) ++ [] from hp) (by simp)⟩
  have loop : codeAny (model X.prog X.w) X.A (.compLoop (.DictComp kx vx [⟨tg, iter, ifs, 0⟩] scope pos) 0 (.ref it) (.ref D) ce) (compPost (model X.prog X.w) X.A X.xe none (EP X pins σ Q) (.ref D) s3.heap.objs.size) s4 := by
    refine compLoop_anyD (fun n s' => ∃ i H', Inv (X.blk s3 H3 scope ce fp) [] (wipe σ (own.map (·.2))) H' s' ∧ tn i s'.heap ∧ (∀ b ∈ fp, H' b = none) ∧ W i n H') ?_ m0 ⟨0, H3, I4, at4, none3, w0⟩
    rintro n s5 ⟨i, H5, I5, at5, none5, w5⟩
    rcases turn i n H5 w5 with ⟨stop, out⟩ | ⟨go, Nx, next, step⟩
    · refine thnF (T.done (X.blk s3 H3 scope ce fp) rfl rfl rfl calm i [] s5 _ H5 (fun _ _ => False) I5 (foot I5 none5) at5 stop) fun r s6 ⟨er, I6⟩ => ?_
      subst er
      have back : Inv X pins σ H5 s6 := I3.call' (ch := fp) I6.os I6.base I6.hok I6.bare fun b hb => ⟨(own3 b hb).1.2.2.2.1, (own3 b hb).1.2.1, (own3 b hb).1.2.2.2.2.1, (own3 b hb).1.2.2.2.2.2⟩
      have nC : H5 s3.heap.objs.size = none := cL ▸ (show H5 ce.locals = none from I6.free)
      obtain ⟨m, ns, _⟩ := I6.loc
      have ns : s6.heap.Ns s3.heap.objs.size m := cL ▸ (show s6.heap.Ns ce.locals m from ns)
      refine ⟨m, ns, fun h2 sb => ?_⟩
      obtain ⟨f0, f1, f2, f3, f4, f5⟩ := I3.fpOk (Nat.le_refl _) nC
      exact ⟨.ref D, H5, back.turned (t' := s6.toks) (fun b o hb q => (sb.2 b hb).trans q) f0 f1 f3 f4 f5, rfl, out⟩
    · refine thnF (T.item (X.blk s3 H3 scope ce fp) rfl rfl rfl calm i [] s5 _ H5 (fun _ _ => False) I5 (foot I5 none5) at5 go) fun r s6 ⟨u, er, h6⟩ => ?_
      subst er
      refine thnF h6 fun _ s7 ⟨x, H7, I7, r7, y7, at7, none7⟩ => ?_
      refine thnF (bg.run _ s7 _ H7 x u _ (I7.pinned (foot I7 none7) (T.obj _ _ at7)) r7 (step x H7 y7)) fun _ s8 ⟨σ8, H8, I8, w8, q8⟩ => ?_
      refine thnF (bt.run _ s8 σ8 H8 _ I8 q8) fun b s9 ⟨H9, I9, q9⟩ => ?_
      have fin : ∀ {s' : Shared} {H' : Hp}, Inv (X.blk s3 H3 scope ce fp) ([] ++ pinsAt fp s7.heap) σ8 H' s' → Nx H' → ∃ m, m < n ∧ ∃ i H', Inv (X.blk s3 H3 scope ce fp) [] (wipe σ (own.map (·.2))) H' s' ∧ tn i s'.heap ∧ (∀ b ∈ fp, H' b = none) ∧ W i m H' := fun {s' H'} I' nx => by
        obtain ⟨m', hm, w'⟩ := next H' nx
        have pin : ∀ b ∈ fp, ∀ o, s7.heap.get? b = some o → s'.heap.get? b = some o ∧ H' b = none := fun b hb o q =>
          have z := I'.pin (b, o) (List.mem_append_right _ (List.mem_append_right _ (mem_pinsAt hb q)))
          ⟨z.1, z.2.1⟩
        refine ⟨m', hm, i + 1, H', (I'.unpinned (pins := [])).weak (by rw [← w8, wipe_length]) (fun j v q => ?_), T.keep _ _ _ at7 fun b hb o q => (pin b hb o q).1, fun b hb => ?_, w'⟩
        · rw [← w8] at q
          exact (wipe_some q).1
        · obtain ⟨o, q, _⟩ := T.obj _ _ at7 b hb
          exact (pin b hb o q).2
      cases b with
      | false =>
        simp only [Bool.false_eq_true, if_false] at q9 ⊢
        exact fin I9 q9
      | true =>
        simp only [if_true] at q9 ⊢
        refine thnF (bk.run _ s9 σ8 H9 _ I9 q9) fun z s10 ⟨yk, H10, I10, r10, q10⟩ => ?_
        refine thnF (bv.run _ s10 σ8 H10 _ I10 q10) fun z2 s11 ⟨yv, H11, I11, r11, kvs, k, c, ek, hc, hD, hz, nx⟩ => ?_
        subst ek
        obtain rfl : z = Value.ref c := r10
        exact dictSetT (X := X.blk s3 H3 scope ce fp) hu I11 hD hc hz r11 fun s12 I12 => fin I12 nx
  show codeAny _ _ (.compStart (.DictComp kx vx [⟨tg, iter, ifs, 0⟩] scope pos) 0 (.ref it) (.ref D) (compEnvC scope (cellsFrom (s3.heap.objs.size + 1) scope.names (cloFrom X.env.cells scope.names [])) s3.heap.objs.size X.env)) (compPost (model X.prog X.w) X.A X.xe none (EP X pins σ Q) (.ref D) s3.heap.objs.size) s4
  rw [eE]
  exact codeAny_compStart_dict loop (T.self X.A 0 _ _ _ at4 loop)
end
end My

set_option Elab.async false
set_option linter.all false
set_option maxRecDepth 100000
set_option maxHeartbeats 4000000
/-! ### sets of ints: a comprehension; sorted, of any size -/
namespace My
open PySem PySem.Spec PyProof.Rows L2 PpSet
def tScI (w : World) (wi : TI) (g : TG) (tt : TT) (te : TE) (vs : List Nat) : TE := fun σ H Q => wi σ H fun J H1 => ∀ D, H1 D = none → ∃ W : Nat → Nat → Hp → Prop, (∃ m, W 0 m (upd H1 D (SetO w D (fun _ => false) 0))) ∧ ∀ i m H, W i m H →
  (J.stop i H ∧ Q (.ref D) H) ∨ (J.go i H ∧ ∃ Nx : Hp → Prop, (∀ H', Nx H' → ∃ m', m' < m ∧ W (i + 1) m' H') ∧ ∀ x H', J.yld i H x H' → g x (wipe σ vs) H' fun σ2 H2 => wipe σ2 vs = wipe σ vs ∧ tt σ2 H2 fun b H3 =>
    if b = true then te σ2 H3 fun y H4 => ∃ (k : Int) (S : Int → Bool) (n : Nat), y = .int k ∧ H4 D = some (SetO w D S n) ∧ n + 1 < scanBound ∧ Nx (upd H4 D (SetO w D (fun j => S j || decide (j = k)) (if S k = true then n else n + 1))) else Nx H3)
section
variable {X : Cx}
theorem addI_ok {A : Around} {pins : List (Addr × Obj)} {σ : L2.St} {H : Hp} {s : Shared} {E : Value → Shared → Prop} {D : Addr} {k : Int} {tk : Tok} {S : Int → Bool} {n : Nat} {Q : Value → Shared → Prop} (I : Inv X pins σ H s) (hD : H D = some (SetO X.w D S n)) (room : n + 1 < scanBound)
    (h : ∀ s', Inv X pins σ (upd H D (SetO X.w D (fun j => S j || decide (j = k)) (if S k = true then n else n + 1))) s' → Q .none s') : wpAny (model X.prog X.w) A (call (.builtin "set.add") [.ref D, .int k tk]) Q E s := by
  refine setR_add (setO_get I hD) room fun h' sb new => ?_
  have he : ∃ u, h'.get? D = some u := by
    obtain ⟨o, _, _, _, ho, _⟩ := new
    exact ⟨o, ho⟩
  exact h _ (I.write (e := D) (t' := s.toks + 1) (by rw [hD]; trivial) (.inl rfl) (fun b u hb hu => (sb.2 b hb).trans hu) he (setO_new new))
theorem pe_scI {elt tg iter : Expr} {ifs : List Expr} {scope : Scope} {own : List (Str × Nat)} {pos : Pos} {wi : TI} {g : TG} {tt : TT} {te : TE} (calm : X.calm = true) (nd : X.N.Nodup) (hi : PI X tg iter wi) (ok : BlkOk X.N X.env.scope scope own)
    (pg : ∀ (s : Shared) (H : Hp) (C : Addr) (cl : List (Str × Addr)) (fp : List Addr), PG (X.blk s H scope (compEnvC scope cl C X.env) fp) tg g) (pt : ∀ (s : Shared) (H : Hp) (C : Addr) (cl : List (Str × Addr)) (fp : List Addr), PTs (X.blk s H scope (compEnvC scope cl C X.env) fp) ifs tt)
    (pv : ∀ (s : Shared) (H : Hp) (C : Addr) (cl : List (Str × Addr)) (fp : List Addr), PE (X.blk s H scope (compEnvC scope cl C X.env) fp) elt te) (fold : ∀ x, foldedSetIterable iter X.env x = pure x := by intro _; rfl) :
    PE X (.SetComp elt [⟨tg, iter, ifs, 0⟩] scope pos) (tScI X.w wi g tt te (own.map (·.2))) := by
  refine ⟨fun pins s σ H Q I asked => ?_⟩
  rw [eval_SetComp]
  have cells : ∀ y ∈ scope.names, y.2 = .free → ∃ c, X.env.cells.lookup y.1 = some c := fun y hy e => (ok.free y hy e).elim (fun k => I.ok.has _ (.inl k)) fun k => I.ok.has _ (.inr k)
  refine wpAny_comprehension_free (use := none) rfl fold (closure_ok cells) ok.kind (fun y hy e => by rw [ok.uniq y hy, e])
    (thn (hi.run pins s σ H _ I asked) fun xv s1 got => thn got fun itv s2 got2 => ?_)
  obtain ⟨it, fp, tn, J, H2, e, I2, T, at0, own0, rest⟩ := got2
  subst e
  refine newSet_ok (newEnv_comp ?_)
  generalize eD : s2.heap.objs.size = D
  obtain ⟨W, ⟨m0, w0⟩, turn⟩ := rest D (I2.hok.fresh (Nat.le_of_eq eD))
  generalize e3 : ({ s2 with heap := s2.heap.push { cls := .type "set", dict := none, data := .set #[] 0 (.fresh 0 0 (!X.w.params.followText "set-order")) } } : Shared) = s3
  have I3 : Inv X pins σ (upd H2 D (SetO X.w D (fun _ => false) 0)) s3 := by
    rw [← e3]
    refine I2.laid (t' := s2.toks) (fun b o q => Heap.get?_push_of_some _ q) (Nat.le_of_eq eD) ?_
    rw [← eD]
    exact setO_new (setR_fresh X.w)
  have hp3 : s3.heap = s2.heap.push { cls := .type "set", dict := none, data := .set #[] 0 (.fresh 0 0 (!X.w.params.followText "set-order")) } := by rw [← e3]
  have own3 : ∀ b ∈ fp, FpOk X pins (upd H2 D (SetO X.w D (fun _ => false) 0)) b ∧ b < s3.heap.objs.size := fun b hb => by
    obtain ⟨o, q, _⟩ := T.obj _ _ at0 b hb
    have lt := Heap.lt_size q
    exact ⟨⟨by rw [upd_ne (by rw [← eD]; exact Nat.ne_of_lt lt)]; exact (own0 b hb).1, (own0 b hb).2⟩, by rw [hp3, Heap.size_push]; exact Nat.lt_succ_of_lt lt⟩
  have at3 : tn 0 s3.heap := T.keep _ _ _ at0 fun b _ o q => by rw [hp3]; exact Heap.get?_push_of_some _ q
  have I4 := block_start I3 ok nd own3
  have bg := pg s3 (upd H2 D (SetO X.w D (fun _ => false) 0)) s3.heap.objs.size (cellsFrom (s3.heap.objs.size + 1) scope.names (cloFrom X.env.cells scope.names [])) fp
  have bt := pt s3 (upd H2 D (SetO X.w D (fun _ => false) 0)) s3.heap.objs.size (cellsFrom (s3.heap.objs.size + 1) scope.names (cloFrom X.env.cells scope.names [])) fp
  have bv := pv s3 (upd H2 D (SetO X.w D (fun _ => false) 0)) s3.heap.objs.size (cellsFrom (s3.heap.objs.size + 1) scope.names (cloFrom X.env.cells scope.names [])) fp
  have none3 : ∀ b ∈ fp, (upd H2 D (SetO X.w D (fun _ => false) 0)) b = none := fun b hb => (own3 b hb).1.1
  generalize eE : compEnvC scope (cellsFrom (s3.heap.objs.size + 1) scope.names (cloFrom X.env.cells scope.names [])) s3.heap.objs.size X.env = ce at I4 bg bt bv
  have cL : ce.locals = s3.heap.objs.size := by subst eE; rfl
  generalize eH : upd H2 D (SetO X.w D (fun _ => false) 0) = H3 at I3 I4 bg bt bv w0 none3 own3
  generalize e4 : ({ s3 with heap := pushCells (s3.heap.push { cls := .type "dict", data := .dict #[] }) scope.names } : Shared) = s4 at I4
  have at4 : tn 0 s4.heap := T.keep _ _ _ at3 fun b _ o q => by rw [← e4]; exact pushCells_keeps _ _ _ _ (Heap.get?_push_of_some _ q)
  have foot : ∀ {σ' : L2.St} {H' : Hp} {s' : Shared}, Inv (X.blk s3 H3 scope ce fp) [] σ' H' s' → (∀ b ∈ fp, H' b = none) → ∀ b ∈ fp, FpOk (X.blk s3 H3 scope ce fp) [] H' b := fun {σ' H' s'} I' n b hb =>
    ⟨n b hb, (I'.ok.exf b hb).1, I'.ok.exfs b hb, .inl hb, fun x c q => (I'.ok.exf b hb).2 x c q, fun p hp => absurd (show p ∈ ([] : List (Addr × Obj)) ++ [] from hp) (by simp)⟩
  have loop : codeAny (model X.prog X.w) X.A (.compLoop (.SetComp elt [⟨tg, iter, ifs, 0⟩] scope pos) 0 (.ref it) (.ref D) ce) (compPost (model X.prog X.w) X.A X.xe none (EP X pins σ Q) (.ref D) s3.heap.objs.size) s4 := by
    refine compLoopS_any (fun n s' => ∃ i H', Inv (X.blk s3 H3 scope ce fp) [] (wipe σ (own.map (·.2))) H' s' ∧ tn i s'.heap ∧ (∀ b ∈ fp, H' b = none) ∧ W i n H') ?_ m0 ⟨0, H3, I4, at4, none3, w0⟩
    rintro n s5 ⟨i, H5, I5, at5, none5, w5⟩
    rcases turn i n H5 w5 with ⟨stop, out⟩ | ⟨go, Nx, next, step⟩
    · refine thnF (T.done (X.blk s3 H3 scope ce fp) rfl rfl rfl calm i [] s5 _ H5 (fun _ _ => False) I5 (foot I5 none5) at5 stop) fun r s6 ⟨er, I6⟩ => ?_
      subst er
      have back : Inv X pins σ H5 s6 := I3.call' (ch := fp) I6.os I6.base I6.hok I6.bare fun b hb => ⟨(own3 b hb).1.2.2.2.1, (own3 b hb).1.2.1, (own3 b hb).1.2.2.2.2.1, (own3 b hb).1.2.2.2.2.2⟩
      have nC : H5 s3.heap.objs.size = none := cL ▸ (show H5 ce.locals = none from I6.free)
      obtain ⟨m, ns, _⟩ := I6.loc
      have ns : s6.heap.Ns s3.heap.objs.size m := cL ▸ (show s6.heap.Ns ce.locals m from ns)
      refine ⟨m, ns, fun h2 sb => ?_⟩
      obtain ⟨f0, f1, f2, f3, f4, f5⟩ := I3.fpOk (Nat.le_refl _) nC
      exact ⟨.ref D, H5, back.turned (t' := s6.toks) (fun b o hb q => (sb.2 b hb).trans q) f0 f1 f3 f4 f5, rfl, out⟩
    · refine thnF (T.item (X.blk s3 H3 scope ce fp) rfl rfl rfl calm i [] s5 _ H5 (fun _ _ => False) I5 (foot I5 none5) at5 go) fun r s6 ⟨u, er, h6⟩ => ?_
      subst er
      refine thnF h6 fun _ s7 ⟨x, H7, I7, r7, y7, at7, none7⟩ => ?_
      refine thnF (bg.run _ s7 _ H7 x u _ (I7.pinned (foot I7 none7) (T.obj _ _ at7)) r7 (step x H7 y7)) fun _ s8 ⟨σ8, H8, I8, w8, q8⟩ => ?_
      refine thnF (bt.run _ s8 σ8 H8 _ I8 q8) fun b s9 ⟨H9, I9, q9⟩ => ?_
      have fin : ∀ {s' : Shared} {H' : Hp}, Inv (X.blk s3 H3 scope ce fp) ([] ++ pinsAt fp s7.heap) σ8 H' s' → Nx H' → ∃ m, m < n ∧ ∃ i H', Inv (X.blk s3 H3 scope ce fp) [] (wipe σ (own.map (·.2))) H' s' ∧ tn i s'.heap ∧ (∀ b ∈ fp, H' b = none) ∧ W i m H' := fun {s' H'} I' nx => by
        obtain ⟨m', hm, w'⟩ := next H' nx
        have pin : ∀ b ∈ fp, ∀ o, s7.heap.get? b = some o → s'.heap.get? b = some o ∧ H' b = none := fun b hb o q =>
          have z := I'.pin (b, o) (List.mem_append_right _ (List.mem_append_right _ (mem_pinsAt hb q)))
          ⟨z.1, z.2.1⟩
        refine ⟨m', hm, i + 1, H', (I'.unpinned (pins := [])).weak (by rw [← w8, wipe_length]) (fun j v q => ?_), T.keep _ _ _ at7 fun b hb o q => (pin b hb o q).1, fun b hb => ?_, w'⟩
        · rw [← w8] at q
          exact (wipe_some q).1
        · obtain ⟨o, q, _⟩ := T.obj _ _ at7 b hb
          exact (pin b hb o q).2
      cases b with
      | false =>
        simp only [Bool.false_eq_true, if_false] at q9 ⊢
        exact fin I9 q9
      | true =>
        simp only [if_true] at q9 ⊢
        refine thnF (bv.run _ s9 σ8 H9 _ I9 q9) fun z s10 ⟨yv, H10, I10, r10, k, S0, n0, ey, hD, room, nx⟩ => ?_
        subst ey
        obtain ⟨tk, rfl⟩ := r10
        exact addI_ok (X := X.blk s3 H3 scope ce fp) I10 hD room fun s11 I11 => fin I11 nx
  show codeAny _ _ (.compStart (.SetComp elt [⟨tg, iter, ifs, 0⟩] scope pos) 0 (.ref it) (.ref D) (compEnvC scope (cellsFrom (s3.heap.objs.size + 1) scope.names (cloFrom X.env.cells scope.names [])) s3.heap.objs.size X.env)) (compPost (model X.prog X.w) X.A X.xe none (EP X pins σ Q) (.ref D) s3.heap.objs.size) s4
  rw [eE]
  exact codeAny_compStart_set loop (T.self X.A 0 _ _ _ at4 loop)
end
end My
namespace L2
open PySem PySem.Spec PyProof.Rows
theorem set_sorted {P : Program} {w : World} {A : Around} {E : Value → Shared → Prop} {s : Shared} {a : Addr} {S : Int → Bool} {n : Nat} {Q : Value → Shared → Prop} (R : SetR w s.heap a S n) (hh : A.handled = none) (hn : n ≤ sizeLine)
    (hQ : ∀ s' p (out : Array Value) (c : Nat) (ns : List Int), (∀ b o, s.heap.get? b = some o → s'.heap.get? b = some o) → s'.gens = s.gens → s'.os = s.os → s.heap.objs.size ≤ p →
      s'.heap.get? p = some (seqObj "list" out c) → IntsAre out.toList ns → ns.Pairwise (· < ·) → (∀ k, k ∈ ns ↔ S k = true) → ns.length = n → Q (.ref p) s') : wpAny (model P w) A (call (.builtin "sorted") [.ref a]) Q E s := by
  obtain ⟨o, es, ep, t, ho, hex, hd, g, nd, hm, hb, hf, en, hr, hl⟩ := R
  refine Calls.call_function_entry kind_sorted plain_sorted entry_sorted (args_sorted1 _) ?_
  unfold Builtin.«sorted»
  refine wpAny_bind (m := checkCount "sorted" 1 1 _) (wpAny_pure (wpAny_bind (collect_set (A := A.in1) hh ⟨o, ho, hex.1, hd⟩ hf hb hr hl fun s1 vs k1 hz g1 o1 pm => ?_)))
  have vl : vs.length = n := by rw [pm.length_eq, List.length_map, Array.length_toList]; exact en
  have hI : IntsAre vs (vs.map Builtin.Re.reRawOf) := ints_of vs fun v hv => by
    obtain ⟨e, he, q⟩ := List.mem_map.mp (pm.mem_iff.mp hv)
    obtain ⟨k, tk, h1, _⟩ := g e he
    exact ⟨k, tk, by rw [← q]; exact h1⟩
  have pk : (vs.map Builtin.Re.reRawOf).Perm (es.toList.map keyOf) := by
    have q := pm.map Builtin.Re.reRawOf
    rw [List.map_map] at q
    exact q
  refine wpAny_bind (wpAny_newList ?_ (by rw [vl]; exact hn))
  have at0 : (s1.heap.push (seqObj "list" vs.toArray 0)).get? s1.heap.objs.size = some (seqObj "list" vs.toArray 0) := Heap.get?_push_size _ rfl
  refine wpAny_bind (wpAny_holding (wpAny_call_entry slot_list_sort ⟨_, at0, rfl⟩ entry_list_sort (SrtO.list_sort_ord SrtO.swo_int at0 (by rw [vl]; exact hn) (fun h2 => SrtO.ints_sortable hI h2) fun out h1 h2 => ⟨_, rfl, ?_⟩) (args_list_sort _)))
  obtain ⟨k3, k4, k5⟩ := SrtO.ints_out hI h1 h2
  obtain ⟨c, hc⟩ := sortedHeap_at (vs := vs) (out := out.toArray) at0
  have pn : (out.map SrtO.iv).Perm (es.toList.map keyOf) := k4.trans pk
  refine wpAny_pure ⟨_, rfl, hQ _ s1.heap.objs.size out.toArray c _ (fun b u e => ?_) g1 o1 hz hc (by simpa using k3) (lt_of_le_nodup _ k5 (pn.nodup_iff.mpr nd)) (fun k => by rw [pn.mem_iff, ← hm k]) (by rw [pn.length_eq, List.length_map, Array.length_toList]; exact en)⟩
  have q := k1 b u e
  have lt := Heap.lt_size q
  show (sortedHeap (s1.heap.push (seqObj "list" vs.toArray 0)) s1.heap.objs.size vs out.toArray).get? b = some u
  rw [sortedHeap_old (Nat.ne_of_lt lt) (by rw [size_push']; exact Nat.lt_succ_of_lt lt)]
  exact Heap.get?_push_of_some _ q
/-- sorted(a set of ints), of any size -/
def rSortedSetN (w : World) : List V → Hp → VK → Prop := fun vs H Q => ∃ (a : Addr) (S : Int → Bool) (n : Nat), vs = [V.ref a] ∧ H a = some (SetO w a S n) ∧ n ≤ 100000 ∧
  ∀ (ns : List Int) (p : Addr), ns.Pairwise (· < ·) → (∀ k : Int, k ∈ ns ↔ S k = true) → ns.length = n → H p = none → Q (.ref p) (upd H p (.lst (ns.map V.int)))
theorem cr_sortedSetN {X : Cx} (hc : X.calm = true) : CallR X (.builtin "sorted") (rSortedSetN X.w) := by
  intro pins s σ H vs us Q I r h
  obtain ⟨a, S, n, rfl, ha, hn, q⟩ := h
  have R := setO_get I ha
  rw [Vals.ref1 r]
  refine set_sorted R (I.ok.hd hc) (by rw [sizeLine_eq]; omega) fun s' p out c ns k g o hp hg hi hs hm hl => ?_
  have hlen : (ns.map V.int).length ≤ sizeLine := by rw [List.length_map, hl, sizeLine_eq]; omega
  have hpn : H p = none := I.hok.fresh hp
  have J : Inv X pins σ (upd H p (.lst (ns.map V.int))) { s with heap := s'.heap, gens := s'.gens, drawn := s'.drawn, toks := s'.toks } :=
    I.call (ch := []) (Un.laid k hp hpn) (I.hok.laid k hp ⟨hlen, out.toList, c, vals_of_ints hi, hg⟩) (by rw [g]; exact I.bare) (fun _ z => nomatch z)
  have e : s' = { s with heap := s'.heap, gens := s'.gens, drawn := s'.drawn, toks := s'.toks } := by
    cases s'
    cases s
    cases o
    rfl
  rw [e]
  exact ⟨.ref p, _, J, rfl, q ns p hs hm hl hpn⟩
end L2

set_option Elab.async false
set_option linter.all false
set_option maxRecDepth 100000
set_option maxHeartbeats 4000000
/-! ### sets of tuples of ints: a comprehension -/
namespace My
open PySem PySem.Spec PyProof.Rows L2 PpSet
def tScT (K : PySem.W.Frag) (P : Program) (w : World) (wi : TI) (g : TG) (tt : TT) (te : TE) (vs : List Nat) : TE := fun σ H Q => wi σ H fun J H1 => ∀ D, H1 D = none → ∃ W : Nat → Nat → Hp → Prop, (∃ m, W 0 m (upd H1 D (SetTO P w D []))) ∧ ∀ i m H, W i m H →
  (J.stop i H ∧ Q (.ref D) H) ∨ (J.go i H ∧ ∃ Nx : Hp → Prop, (∀ H', Nx H' → ∃ m', m' < m ∧ W (i + 1) m' H') ∧ ∀ x H', J.yld i H x H' → g x (wipe σ vs) H' fun σ2 H2 => wipe σ2 vs = wipe σ vs ∧ tt σ2 H2 fun b H3 =>
    if b = true then te σ2 H3 fun y H4 => ∃ (x : Addr) (k : List Int) (L : List (Addr × List Int)), y = .ref x ∧ SqT K H4 x (k.map V.int) ∧ H4 D = some (SetTO P w D L) ∧ (∀ p ∈ L, SqT K H4 p.1 (p.2.map V.int)) ∧ L.length + 1 < 64 ∧
      ∀ L', (k ∈ L.map (·.2) → L' = L) → (k ∉ L.map (·.2) → L'.Perm ((x, k) :: L)) → Nx (upd H4 D (SetTO P w D L')) else Nx H3)
section
variable {X : Cx}
theorem addT_ok {A : Around} {pins : List (Addr × Obj)} {σ : L2.St} {H : Hp} {s : Shared} {E : Value → Shared → Prop} {D x : Addr} {k : List Int} {L : List (Addr × List Int)} {Q : Value → Shared → Prop} (I : Inv X pins σ H s) (hu : A.units + 64 < cLine) (hx : SqT X.K H x (k.map V.int)) (hD : H D = some (SetTO X.prog X.w D L)) (hL : ∀ p ∈ L, SqT X.K H p.1 (p.2.map V.int)) (few : L.length + 1 < 64)
    (h : ∀ L' s', (k ∈ L.map (·.2) → L' = L) → (k ∉ L.map (·.2) → L'.Perm ((x, k) :: L)) → Inv X pins σ (upd H D (SetTO X.prog X.w D L')) s' → Q .none s') : wpAny (model X.prog X.w) A (call (.builtin "set.add") [.ref D, .ref x]) Q E s := by
  have R0 : SetT0 X.prog X.w s.heap D L := (I.hok D _ hD).1
  obtain ⟨es, ep, t, R⟩ := R0.full fun p hp => I.isT (hL p hp)
  obtain ⟨o, ho, hex, hd⟩ := R.ob
  have hxT := I.isT hx
  refine wpAny_call_entry F.slot_set_add ⟨o, ho, hex.1⟩ F.entry_set_add ?_ (F.args_set_add_2 _ _)
  unfold Builtin.«set.add» Builtin.Frozenset.oneOther
  simp only [List.isEmpty_nil, bind_assoc]
  unfold Builtin.Frozenset.addrOf setAdd
  refine wpAny_bind (wpAny_pure ?_)
  try dsimp only
  refine wpAny_bind (wpAny_pure ?_)
  try dsimp only
  refine wpAny_bind ?_
  refine wpAny_holding ?_
  refine wpAny_bind (wpAny_pyHash_tuple (show A.in1.units < cLine by first | (rw [show A.in1.units = A.units + 1 from rfl]; omega) | (rw [show A.in1.units = A.units from rfl]; omega)) hxT ?_)
  refine add_at (s := { s with toks := s.toks + (k.length + 1) }) R hxT (show A.in1.units < cLine by first | (rw [show A.in1.units = A.units + 1 from rfl]; omega) | (rw [show A.in1.units = A.units from rfl]; omega)) few fun b h' L' es' ep' t' sb R' c1 c2 => ?_
  show wpAny _ _ (ret Value.none) _ _ _
  have he : ∃ u, h'.get? D = some u := by
    obtain ⟨o, ho, _⟩ := R'.ob
    exact ⟨o, ho⟩
  exact wpAny_pure ⟨_, rfl, h L' _ c1 c2 (I.write (e := D) (t' := s.toks + (k.length + 1)) (by rw [hD]; trivial) (.inl rfl) (fun b u hb hu => (sb.2 b hb).trans hu) he (setTO_new R'.t0))⟩
theorem pe_scT {elt tg iter : Expr} {ifs : List Expr} {scope : Scope} {own : List (Str × Nat)} {pos : Pos} {wi : TI} {g : TG} {tt : TT} {te : TE} (calm : X.calm = true) (hu0 : X.A.units + 80 < cLine) (nd : X.N.Nodup) (hi : PI X tg iter wi) (ok : BlkOk X.N X.env.scope scope own)
    (pg : ∀ (s : Shared) (H : Hp) (C : Addr) (cl : List (Str × Addr)) (fp : List Addr), PG (X.blk s H scope (compEnvC scope cl C X.env) fp) tg g) (pt : ∀ (s : Shared) (H : Hp) (C : Addr) (cl : List (Str × Addr)) (fp : List Addr), PTs (X.blk s H scope (compEnvC scope cl C X.env) fp) ifs tt)
    (pv : ∀ (s : Shared) (H : Hp) (C : Addr) (cl : List (Str × Addr)) (fp : List Addr), PE (X.blk s H scope (compEnvC scope cl C X.env) fp) elt te) (fold : ∀ x, foldedSetIterable iter X.env x = pure x := by intro _; rfl) :
    PE X (.SetComp elt [⟨tg, iter, ifs, 0⟩] scope pos) (tScT X.K X.prog X.w wi g tt te (own.map (·.2))) := by
  refine ⟨fun pins s σ H Q I asked => ?_⟩
  rw [eval_SetComp]
  have cells : ∀ y ∈ scope.names, y.2 = .free → ∃ c, X.env.cells.lookup y.1 = some c := fun y hy e => (ok.free y hy e).elim (fun k => I.ok.has _ (.inl k)) fun k => I.ok.has _ (.inr k)
  refine wpAny_comprehension_free (use := none) rfl fold (closure_ok cells) ok.kind (fun y hy e => by rw [ok.uniq y hy, e])
    (thn (hi.run pins s σ H _ I asked) fun xv s1 got => thn got fun itv s2 got2 => ?_)
  obtain ⟨it, fp, tn, J, H2, e, I2, T, at0, own0, rest⟩ := got2
  subst e
  refine newSet_ok (newEnv_comp ?_)
  generalize eD : s2.heap.objs.size = D
  obtain ⟨W, ⟨m0, w0⟩, turn⟩ := rest D (I2.hok.fresh (Nat.le_of_eq eD))
  generalize e3 : ({ s2 with heap := s2.heap.push { cls := .type "set", dict := none, data := .set #[] 0 (.fresh 0 0 (!X.w.params.followText "set-order")) } } : Shared) = s3
  have I3 : Inv X pins σ (upd H2 D (SetTO X.prog X.w D [])) s3 := by
    rw [← e3]
    refine I2.laid (t' := s2.toks) (fun b o q => Heap.get?_push_of_some _ q) (Nat.le_of_eq eD) ?_
    rw [← eD]
    exact setTO_new (setTR_fresh (Heap.get?_push_size _ rfl)).t0
  have hp3 : s3.heap = s2.heap.push { cls := .type "set", dict := none, data := .set #[] 0 (.fresh 0 0 (!X.w.params.followText "set-order")) } := by rw [← e3]
  have own3 : ∀ b ∈ fp, FpOk X pins (upd H2 D (SetTO X.prog X.w D [])) b ∧ b < s3.heap.objs.size := fun b hb => by
    obtain ⟨o, q, _⟩ := T.obj _ _ at0 b hb
    have lt := Heap.lt_size q
    exact ⟨⟨by rw [upd_ne (by rw [← eD]; exact Nat.ne_of_lt lt)]; exact (own0 b hb).1, (own0 b hb).2⟩, by rw [hp3, Heap.size_push]; exact Nat.lt_succ_of_lt lt⟩
  have at3 : tn 0 s3.heap := T.keep _ _ _ at0 fun b _ o q => by rw [hp3]; exact Heap.get?_push_of_some _ q
  have I4 := block_start I3 ok nd own3
  have bg := pg s3 (upd H2 D (SetTO X.prog X.w D [])) s3.heap.objs.size (cellsFrom (s3.heap.objs.size + 1) scope.names (cloFrom X.env.cells scope.names [])) fp
  have bt := pt s3 (upd H2 D (SetTO X.prog X.w D [])) s3.heap.objs.size (cellsFrom (s3.heap.objs.size + 1) scope.names (cloFrom X.env.cells scope.names [])) fp
  have bv := pv s3 (upd H2 D (SetTO X.prog X.w D [])) s3.heap.objs.size (cellsFrom (s3.heap.objs.size + 1) scope.names (cloFrom X.env.cells scope.names [])) fp
  have none3 : ∀ b ∈ fp, (upd H2 D (SetTO X.prog X.w D [])) b = none := fun b hb => (own3 b hb).1.1
  generalize eE : compEnvC scope (cellsFrom (s3.heap.objs.size + 1) scope.names (cloFrom X.env.cells scope.names [])) s3.heap.objs.size X.env = ce at I4 bg bt bv
  have cL : ce.locals = s3.heap.objs.size := by subst eE; rfl
  generalize eH : upd H2 D (SetTO X.prog X.w D []) = H3 at I3 I4 bg bt bv w0 none3 own3
  generalize e4 : ({ s3 with heap := pushCells (s3.heap.push { cls := .type "dict", data := .dict #[] }) scope.names } : Shared) = s4 at I4
  have at4 : tn 0 s4.heap := T.keep _ _ _ at3 fun b _ o q => by rw [← e4]; exact pushCells_keeps _ _ _ _ (Heap.get?_push_of_some _ q)
  have foot : ∀ {σ' : L2.St} {H' : Hp} {s' : Shared}, Inv (X.blk s3 H3 scope ce fp) [] σ' H' s' → (∀ b ∈ fp, H' b = none) → ∀ b ∈ fp, FpOk (X.blk s3 H3 scope ce fp) [] H' b := fun {σ' H' s'} I' n b hb =>
    ⟨n b hb, (I'.ok.exf b hb).1, I'.ok.exfs b hb, .inl hb, fun x c q => (I'.ok.exf b hb).2 x c q, fun p hp => absurd (show p ∈ ([] : List (Addr × Obj)) ++ [] from hp) (by simp)⟩
  have loop : codeAny (model X.prog X.w) X.A (.compLoop (.SetComp elt [⟨tg, iter, ifs, 0⟩] scope pos) 0 (.ref it) (.ref D) ce) (compPost (model X.prog X.w) X.A X.xe none (EP X pins σ Q) (.ref D) s3.heap.objs.size) s4 := by
    refine compLoopS_any (fun n s' => ∃ i H', Inv (X.blk s3 H3 scope ce fp) [] (wipe σ (own.map (·.2))) H' s' ∧ tn i s'.heap ∧ (∀ b ∈ fp, H' b = none) ∧ W i n H') ?_ m0 ⟨0, H3, I4, at4, none3, w0⟩
    rintro n s5 ⟨i, H5, I5, at5, none5, w5⟩
    rcases turn i n H5 w5 with ⟨stop, out⟩ | ⟨go, Nx, next, step⟩
    · refine thnF (T.done (X.blk s3 H3 scope ce fp) rfl rfl rfl calm i [] s5 _ H5 (fun _ _ => False) I5 (foot I5 none5) at5 stop) fun r s6 ⟨er, I6⟩ => ?_
      subst er
      have back : Inv X pins σ H5 s6 := I3.call' (ch := fp) I6.os I6.base I6.hok I6.bare fun b hb => ⟨(own3 b hb).1.2.2.2.1, (own3 b hb).1.2.1, (own3 b hb).1.2.2.2.2.1, (own3 b hb).1.2.2.2.2.2⟩
      have nC : H5 s3.heap.objs.size = none := cL ▸ (show H5 ce.locals = none from I6.free)
      obtain ⟨m, ns, _⟩ := I6.loc
      have ns : s6.heap.Ns s3.heap.objs.size m := cL ▸ (show s6.heap.Ns ce.locals m from ns)
      refine ⟨m, ns, fun h2 sb => ?_⟩
      obtain ⟨f0, f1, f2, f3, f4, f5⟩ := I3.fpOk (Nat.le_refl _) nC
      exact ⟨.ref D, H5, back.turned (t' := s6.toks) (fun b o hb q => (sb.2 b hb).trans q) f0 f1 f3 f4 f5, rfl, out⟩
    · refine thnF (T.item (X.blk s3 H3 scope ce fp) rfl rfl rfl calm i [] s5 _ H5 (fun _ _ => False) I5 (foot I5 none5) at5 go) fun r s6 ⟨u, er, h6⟩ => ?_
      subst er
      refine thnF h6 fun _ s7 ⟨x, H7, I7, r7, y7, at7, none7⟩ => ?_
      refine thnF (bg.run _ s7 _ H7 x u _ (I7.pinned (foot I7 none7) (T.obj _ _ at7)) r7 (step x H7 y7)) fun _ s8 ⟨σ8, H8, I8, w8, q8⟩ => ?_
      refine thnF (bt.run _ s8 σ8 H8 _ I8 q8) fun b s9 ⟨H9, I9, q9⟩ => ?_
      have fin : ∀ {s' : Shared} {H' : Hp}, Inv (X.blk s3 H3 scope ce fp) ([] ++ pinsAt fp s7.heap) σ8 H' s' → Nx H' → ∃ m, m < n ∧ ∃ i H', Inv (X.blk s3 H3 scope ce fp) [] (wipe σ (own.map (·.2))) H' s' ∧ tn i s'.heap ∧ (∀ b ∈ fp, H' b = none) ∧ W i m H' := fun {s' H'} I' nx => by
        obtain ⟨m', hm, w'⟩ := next H' nx
        have pin : ∀ b ∈ fp, ∀ o, s7.heap.get? b = some o → s'.heap.get? b = some o ∧ H' b = none := fun b hb o q =>
          have z := I'.pin (b, o) (List.mem_append_right _ (List.mem_append_right _ (mem_pinsAt hb q)))
          ⟨z.1, z.2.1⟩
        refine ⟨m', hm, i + 1, H', (I'.unpinned (pins := [])).weak (by rw [← w8, wipe_length]) (fun j v q => ?_), T.keep _ _ _ at7 fun b hb o q => (pin b hb o q).1, fun b hb => ?_, w'⟩
        · rw [← w8] at q
          exact (wipe_some q).1
        · obtain ⟨o, q, _⟩ := T.obj _ _ at7 b hb
          exact (pin b hb o q).2
      cases b with
      | false =>
        simp only [Bool.false_eq_true, if_false] at q9 ⊢
        exact fin I9 q9
      | true =>
        simp only [if_true] at q9 ⊢
        refine thnF (bv.run _ s9 σ8 H9 _ I9 q9) fun z s10 ⟨yv, H10, I10, r10, xa, k, L0, ey, hxT, hD, hL, few, nx⟩ => ?_
        subst ey
        cases r10
        exact addT_ok (X := X.blk s3 H3 scope ce fp) I10 (show X.A.units + 64 < cLine by omega) hxT hD hL few fun L' s11 c1 c2 I11 => fin I11 (nx L' c1 c2)
  show codeAny _ _ (.compStart (.SetComp elt [⟨tg, iter, ifs, 0⟩] scope pos) 0 (.ref it) (.ref D) (compEnvC scope (cellsFrom (s3.heap.objs.size + 1) scope.names (cloFrom X.env.cells scope.names [])) s3.heap.objs.size X.env)) (compPost (model X.prog X.w) X.A X.xe none (EP X pins σ Q) (.ref D) s3.heap.objs.size) s4
  rw [eE]
  exact codeAny_compStart_set loop (T.self X.A 0 _ _ _ at4 loop)
end
end My

set_option Elab.async false
set_option linter.all false
set_option maxRecDepth 100000
set_option maxHeartbeats 4000000
/-! ### for x in o, o of an own class whose __iter__ gives iter(a list) -/
namespace My
open PySem PySem.Spec PyProof.Rows L2
/-- a def of one parameter list that tells of what it makes: n is the heap's size at its call -/
structure FnNew (P : Program) (w : World) (K : PySem.W.Frag) (mg : Str → Option Value) (base : Heap) (k : Nat) (f : Addr) (fd : FuncData) (ps : List Str) (sp : Nat → Sp) : Prop where
  len : ∀ n vs H Q E, sp n vs H Q E → vs.length = ps.length
  run : ∀ (A : Around) (outer : List Env) (s : Shared) (H : Hp) (us : List Value) (vs : List V) (Q : VK) (E : XK), Room k A → Env0 P w K mg base A outer s H → BindsTo s fd ⟨us, []⟩ (ps.zip us) → Vals vs us → sp s.heap.objs.size vs H Q E → codeAny (model P w) A (.call (.ref f) ⟨us, []⟩) (CR CX0 outer P w H s Q E) s
theorem FnNew.ok {P : Program} {w : World} {K : PySem.W.Frag} {mg : Str → Option Value} {base : Heap} {x qual : Str} {st : Stmt} {f : Addr} {fd : FuncData} {N ps : List Str} {k : Nat} {sp : Nat → Sp} (F : Fun K x qual st f fd) (S : FnScope N ps (defScope st)) (len : ∀ n vs H Q E, sp n vs H Q E → vs.length = ps.length)
    (hb : ∀ (cdv : Value) (A : Around) (outer : List Env) (s : Shared) (H : Hp) (vs : List V) (Q : VK) (E : XK), Room k (A.deeper (envOfC qual (defScope st) s.heap.objs.size f cdv)) → sp s.heap.objs.size vs H Q E →
      ∃ t, PSs (cxOf CX0 P w K mg base N qual (defScope st) f cdv A outer s H E).nox (defBody st) t ∧ t { nx := fun _ H' => Q .non H', rt := Q } (start N vs) H) : FnNew P w K mg base (k + 1) f fd ps sp := by
  obtain ⟨oc, od, kV, doc, pm, an, cdv, ct, osl, rfl, lk, cd⟩ := F.ex
  refine ⟨len, fun A outer s0 H us vs Q E rm en bd rv hs => ?_⟩
  have ln := len _ _ _ _ _ hs
  have inK : K.In s0.heap := en.mod.kin.keeps fun b o e => (en.bs b o e).1
  have nol : s0.heap.NoLimit := en.mod.nolimit.keeps fun b o e => (en.bs b o e).1
  have kinds : ∀ y ∈ ps.zip us, (defScope st).names.lookup y.1 = some .local ∨ ((defScope st).names.lookup y.1 = some .cell ∧ ((cellsFrom (s0.heap.objs.size + 1) (defScope st).names []).lookup y.1).isSome = true) := by
    rintro ⟨nm, v⟩ hy
    rcases S.par nm (List.of_mem_zip hy).1 with z | z
    · exact .inl z
    · exact .inr ⟨z, PySem.W.cellsFrom_some _ _ _ (.inl z)⟩
  refine codeAny_call_function rm.depth (inK _ _ lk) rfl S.co S.gen rfl (PySem.W.codeRec_of inK cd) (bd _ _ _ _ ?_)
  refine wpAny_newFunctionEnv_cells S.kind kinds fun env ee s1 mk => ?_
  cases ee
  refine ⟨nol.keeps mk.toInCall.keep, codeAny_func ?_⟩
  obtain ⟨t, ht, hq⟩ := hb cdv A outer s0 H vs Q E (rm.deeper _) hs
  have ht := ht.nox
  have I0 : Inv (cxOf CX0 P w K mg base N qual (defScope st) f cdv A outer s0 H E) [] (start N vs) H s1 := inv_start S rm.hd en ln rv mk
  refine wpAny_mono (ht.run [] s1 (start N vs) H _ I0 hq) (fun fl s2 r => ?_) fun _ _ r => r
  cases fl with
  | ret u =>
    obtain ⟨v, σ2, H2, J, rv, q⟩ := r
    exact ⟨v, H2, J.os, J.bare, J.base, J.hok, rv, q⟩
  | next =>
    obtain ⟨σ2, H2, J, q⟩ := r
    exact ⟨.non, H2, J.os, J.bare, J.base, J.hok, rfl, q⟩
  | brk =>
    obtain ⟨_, _, _, q⟩ := r
    exact q.elim
  | cont =>
    obtain ⟨_, _, _, q⟩ := r
    exact q.elim
structure ItrC (K : PySem.W.Frag) (C gi : Addr) : Prop where
  it : PySem.W.findIn K (.ref C) "__iter__" = some (some (.ref gi))
  itF : PySem.W.isFn K (.ref gi) = true
def iOwn (K : PySem.W.Frag) (C : Addr) (sp : Nat → Sp) (E : XK) (te : TE) : TI := fun σ H R => te σ H fun x H1 => ∃ (a dx : Addr) (fs : List (Str × V)), x = .ref a ∧ H1 a = some (.ins C dx fs) ∧
  ∀ n, sp n [.ref a] H1 (fun v H2 => ∃ l it, v = .ref it ∧ H1 it = none ∧ n ≤ it ∧ H2 = upd H1 it (ItO l it 0) ∧ (∃ xs, SqL K H1 l xs) ∧ R (Itl K l) H1) E
theorem pi_own {X : Cx} {tg e : Expr} {te : TE} {C gi : Addr} {fdi : FuncData} {psi : List Str} {si : Nat → Sp} {ki : Nat} {E : XK} (c : ItrC X.K C gi) (F : FnNew X.prog X.w X.K X.mg X.base ki gi fdi psi si) (bi : Binds X.K fdi psi []) (hr : Room ki X.A) (he : PE X e te) : PI X tg e (iOwn X.K C si E te) := by
  refine ⟨fun pins s σ H R I h => ?_⟩
  refine thn (he.run pins s σ H _ I h) fun v s1 ⟨x, H1, I1, r1, a, dx, fs, ex, ha, q⟩ => ?_
  subst ex
  cases r1
  obtain ⟨ox, od, J⟩ := inst_of I1 ha
  obtain ⟨m0, hF⟩ := I1.fr
  refine PySem.W.owit_iter hF I1.ok.mod.kin J c.it c.itF ?_
  have q := q s1.heap.objs.size
  have len := F.len _ _ _ _ _ q
  have bnd := bi s1 [.ref a] I1.kIn (by rw [List.append_nil]; exact len)
  rw [List.append_nil] at bnd
  refine wpAny_call (codeAny_mono (F.run X.A X.stack s1 H1 [.ref a] [.ref a] _ E (sub_here hr).room (env_under (sub_here hr) I1) bnd (.cons rfl .nil) q) ?_)
  rintro (e | fl) s' z
  · exact False.elim z
  cases fl with
  | ret u =>
    obtain ⟨v, H2, I2, r, l, it, ev, nit, new, e2, ⟨xs, hl⟩, hR⟩ := I1.after z
    subst ev
    subst e2
    cases r
    have hit : (upd H1 it (ItO l it 0)) it = some (ItO l it 0) := upd_same
    have oit : s'.heap.get? it = some (GNX.itObj l 0) := itO_get I2 hit
    have I3 := ItX.inv_drop I2 hit
    have fp := ItX.inv_fp I2 hit (Nat.le_trans I1.sz new)
    rw [ItX.dropH_upd nit] at I3 fp
    unfold PySem.W.OwitIt
    have hT : s'.TypeIs (.ref it) "list_iterator" := ⟨_, oit, rfl⟩
    refine wpAny_specialOf (name := Str.ofString "__next__") hT slot_listiter_next.lookup ?_
    refine ⟨it, [it], _, _, H1, rfl, I3, turn_list l it, ⟨_, oit, rfl, rfl⟩, fun b hb => ?_, hR⟩
    have e : b = it := by simpa using hb
    subst e
    exact fp
  | next => exact False.elim z
  | brk => exact False.elim z
  | cont => exact False.elim z
end My

set_option Elab.async false
set_option linter.all false
set_option maxRecDepth 100000
set_option maxHeartbeats 4000000
/-! ### a list comprehension of two clauses -/
namespace My
open PySem L2
/-- the inner clause: it adds to the list at D; Nx behind it -/
def tLcIn (wi : TI) (g : TG) (tt : TT) (te : TE) (vs : List Nat) (D : Addr) (σ : L2.St) (H : Hp) (Nx : Hp → Prop) : Prop := wi σ H fun J H1 => ∃ W : Nat → Nat → Hp → Prop, (∃ m, W 0 m H1) ∧ ∀ i m H, W i m H →
  (J.stop i H ∧ Nx H) ∨ (J.go i H ∧ ∃ N2 : Hp → Prop, (∀ H', N2 H' → ∃ m', m' < m ∧ W (i + 1) m' H') ∧ ∀ x H', J.yld i H x H' → g x (wipe σ vs) H' fun σ2 H2 => wipe σ2 vs = wipe σ vs ∧ tt σ2 H2 fun b H3 =>
    if b = true then te σ2 H3 fun y H4 => ∃ acc, H4 D = some (.lst acc) ∧ acc.length < sizeLine ∧ N2 (upd H4 D (.lst (acc ++ [y]))) else N2 H3)
def tLc2 (wi1 : TI) (g1 : TG) (tt1 : TT) (wi2 : TI) (g2 : TG) (tt2 : TT) (te : TE) (vs vs2 : List Nat) : TE := fun σ H Q => wi1 σ H fun J H1 => ∀ D, H1 D = none → ∃ W : Nat → Nat → Hp → Prop, (∃ m, W 0 m (upd H1 D (.lst []))) ∧ ∀ i m H, W i m H →
  (J.stop i H ∧ Q (.ref D) H) ∨ (J.go i H ∧ ∃ Nx : Hp → Prop, (∀ H', Nx H' → ∃ m', m' < m ∧ W (i + 1) m' H') ∧ ∀ x H', J.yld i H x H' → g1 x (wipe σ vs) H' fun σ2 H2 => wipe σ2 vs = wipe σ vs ∧ tt1 σ2 H2 fun b H3 =>
    if b = true then tLcIn wi2 g2 tt2 te vs2 D σ2 H3 Nx else Nx H3)
section
variable {X : Cx} {elt t1 it1 t2 it2 : Expr} {ifs1 ifs2 : List Expr} {scope : Scope} {pos : Pos} {wi1 wi2 : TI} {g1 g2 : TG} {tt1 tt2 : TT} {te : TE} {vs vs2 : List Nat}
theorem lc2_in (hx : X.xe = fun _ _ => False) (hc : X.calm = true) (hi : PI X t2 it2 wi2) (pg : PG X t2 g2) (pt : PTs X ifs2 tt2) (pe : PE X elt te) {pins : List (Addr × Obj)} {s : Shared} {σ : L2.St} {H : Hp} {D : Addr} {Nx : Hp → Prop} (I : Inv X pins σ H s) (h : tLcIn wi2 g2 tt2 te vs2 D σ H Nx) :
    wpAny (model X.prog X.w) X.A (eval it2 X.env) (fun xv s1 => wpAny (model X.prog X.w) X.A (pyIter xv) (fun itv s2 => ∀ (R : Result → Shared → Prop), (∀ s' H', Inv X pins (wipe σ vs2) H' s' → Nx H' → R (.ok .next) s') →
      codeAny (model X.prog X.w) X.A (.compStart (.ListComp elt [⟨t1, it1, ifs1, 0⟩, ⟨t2, it2, ifs2, 0⟩] scope pos) 1 itv (.ref D) X.env) R s2) (fun _ _ => False) s1) (fun _ _ => False) s := by
  have key := hi.run pins s σ H _ I h
  rw [hx] at key
  refine wpAny_mono key (fun xv s1 h1 => wpAny_mono h1 (fun itv s2 h2 => ?_) fun _ _ z => z) fun _ _ z => z
  obtain ⟨it, fp, tn, J, H2, e, I2, T, st2, f2, W, ⟨m0, w0⟩, turn⟩ := h2
  subst e
  intro R fin
  have stat : ∀ {H' : Hp}, (∀ b ∈ fp, H' b = none) → ∀ b ∈ fp, FpOk X pins H' b := fun hn b hb => ⟨hn b hb, (f2 b hb).2⟩
  have I2w : Inv X pins (wipe σ vs2) H2 s2 := I2.weak (wipe_length ..) (fun j v e => (wipe_some e).1)
  have loop : codeAny (model X.prog X.w) X.A (.compLoop (.ListComp elt [⟨t1, it1, ifs1, 0⟩, ⟨t2, it2, ifs2, 0⟩] scope pos) 1 (.ref it) (.ref D) X.env) R s2 := by
    refine codeAny_loop rfl (fun n s' => ∃ i H', Inv X pins (wipe σ vs2) H' s' ∧ tn i s'.heap ∧ (∀ b ∈ fp, H' b = none) ∧ W i n H') ?_ m0 ⟨0, H2, I2w, st2, fun b hb => (f2 b hb).1, w0⟩
    rintro n s3 ⟨i, H3, I3, st3, fr3, w3⟩
    show wpAny _ X.A ((compTurn (.ListComp elt [⟨t1, it1, ifs1, 0⟩, ⟨t2, it2, ifs2, 0⟩] scope pos) 1 (.ref it) (.ref D) X.env).onRaise (fun x => do noteFrame x X.env; theTreesLotGoes x)) _ _ s3
    refine wpAny_noted ?_
    rw [compTurn_list2_in]
    refine wpAny_bind (wpAny_standAt ?_)
    rcases turn i n H3 w3 with ⟨stop, qn⟩ | ⟨go, N2, hN, step⟩
    · refine wpAny_bind (thnF (T.done X rfl rfl rfl hc i pins s3 _ H3 (fun _ _ => False) I3 (stat fr3) st3 stop) fun r s4 hr => ?_)
      obtain ⟨hr, I4⟩ := hr
      subst hr
      exact wpAny_pure (fin s4 H3 I4 qn)
    · refine wpAny_bind (thnF (T.item X rfl rfl rfl hc i pins s3 _ H3 (fun _ _ => False) I3 (stat fr3) st3 go) fun r s4 hr => ?_)
      obtain ⟨u, hr, h4⟩ := hr
      subst hr
      refine wpAny_bind (thnF h4 fun _ s5 h5 => ?_)
      obtain ⟨x, H5, I5, r5, y5, st5, fr5⟩ := h5
      have I5' := I5.pinned (stat fr5) (T.obj _ _ st5)
      have kg := pg.run _ s5 _ H5 x u _ I5' r5 (step x H5 y5)
      rw [hx] at kg
      refine wpAny_bind (thnF kg fun _ s6 h6 => ?_)
      obtain ⟨σ6, H6, I6, hw6, q6⟩ := h6
      have kt := pt.run _ s6 σ6 H6 _ I6 q6
      rw [hx] at kt
      refine wpAny_bind (thnF kt fun b s7 h7 => ?_)
      obtain ⟨H7, I7, q7⟩ := h7
      have again : ∀ {s' : Shared} {H' : Hp}, Inv X (pins ++ pinsAt fp s5.heap) σ6 H' s' → N2 H' → ∃ m, m < n ∧ ∃ i H', Inv X pins (wipe σ vs2) H' s' ∧ tn i s'.heap ∧ (∀ b ∈ fp, H' b = none) ∧ W i m H' := fun {s' H'} I' n7 => by
        obtain ⟨m', hm, w7⟩ := hN H' n7
        have hl : (wipe σ vs2).length = σ6.length := by rw [← hw6, wipe_length]
        refine ⟨m', hm, i + 1, H', (I'.unpinned (pins := pins)).weak hl (fun j v e => ?_), T.keep _ _ _ st5 fun b hb o e => (I'.pin (b, o) (List.mem_append_right _ (List.mem_append_right _ (mem_pinsAt hb e)))).1, fun b hb => ?_, w7⟩
        · rw [← hw6] at e
          exact (wipe_some e).1
        · obtain ⟨o, e, d⟩ := T.obj _ _ st5 b hb
          exact (I'.pin (b, o) (List.mem_append_right _ (List.mem_append_right _ (mem_pinsAt hb e)))).2.1
      cases b with
      | false =>
        simp only [Bool.false_eq_true, if_false] at q7 ⊢
        exact wpAny_pure ⟨rfl, again I7 q7⟩
      | true =>
        simp only [if_true] at q7 ⊢
        have ke := pe.run _ s7 σ6 H7 _ I7 q7
        rw [hx] at ke
        refine wpAny_bind (wpAny_bind (thnF ke fun z s8 h8 => ?_))
        obtain ⟨yv, H8, I8, r8, acc, hD8, hz8, nx⟩ := h8
        exact wpAny_bind (app_ok (X := X) I8 hD8 hz8 r8 fun s9 I9 => wpAny_pure (wpAny_pure ⟨rfl, again I9 nx⟩))
  exact compStart_list2_in loop (T.self X.A 0 _ _ _ st2 loop)
theorem lc2_core {own : List (Str × Nat)} (hc : X.calm = true) (hN : X.N.Nodup) (first : PI X t1 it1 wi1) (ok : BlkOk X.N X.env.scope scope own) (sub : ∀ j ∈ vs2, j ∈ own.map (·.2))
    (P1 : ∀ (s : Shared) (H : Hp) (C : Addr) (cl : List (Str × Addr)) (fp : List Addr), PG (X.blk s H scope (compEnvC scope cl C X.env) fp) t1 g1) (C1 : ∀ (s : Shared) (H : Hp) (C : Addr) (cl : List (Str × Addr)) (fp : List Addr), PTs (X.blk s H scope (compEnvC scope cl C X.env) fp) ifs1 tt1)
    (I2 : ∀ (s : Shared) (H : Hp) (C : Addr) (cl : List (Str × Addr)) (fp : List Addr), PI (X.blk s H scope (compEnvC scope cl C X.env) fp) t2 it2 wi2)
    (P2 : ∀ (s : Shared) (H : Hp) (C : Addr) (cl : List (Str × Addr)) (fp : List Addr), PG (X.blk s H scope (compEnvC scope cl C X.env) fp) t2 g2) (C2 : ∀ (s : Shared) (H : Hp) (C : Addr) (cl : List (Str × Addr)) (fp : List Addr), PTs (X.blk s H scope (compEnvC scope cl C X.env) fp) ifs2 tt2)
    (el : ∀ (s : Shared) (H : Hp) (C : Addr) (cl : List (Str × Addr)) (fp : List Addr), PE (X.blk s H scope (compEnvC scope cl C X.env) fp) elt te)
    (h1 : ∀ x, foldedSetIterable it1 X.env x = pure x ) (h2 : ∀ (C : Addr) (cl : List (Str × Addr)) x, foldedSetIterable it2 (compEnvC scope cl C X.env) x = pure x ) {pins : List (Addr × Obj)} {s : Shared} {σ : L2.St} {H : Hp} {Q : VK} {use : Option (Value → Sem Unit)} {Qf : Value → Shared → Prop} (I : Inv X pins σ H s) (rd : tLc2 wi1 g1 tt1 wi2 g2 tt2 te (own.map (·.2)) vs2 σ H Q)
    (behind : ∀ D C s' m H', Inv X pins σ H' s' → Q (.ref D) H' → s'.heap.Ns C m → FpOk X pins H' C → compPost (model X.prog X.w) X.A X.xe use Qf (.ref D) C (.ok .next) s') :
    wpAny (model X.prog X.w) X.A (comprehension (.ListComp elt [⟨t1, it1, ifs1, 0⟩, ⟨t2, it2, ifs2, 0⟩] scope pos) scope X.env (firstIterPos [⟨t1, it1, ifs1, 0⟩, ⟨t2, it2, ifs2, 0⟩] pos) (newList []) false (eval it1 X.env) use) Qf X.xe s := by
  have closed : ∀ y ∈ scope.names, y.2 = .free → ∃ c, X.env.cells.lookup y.1 = some c := fun y hy e =>
    (ok.free y hy e).elim (fun k => I.ok.has _ (.inl k)) (fun k => I.ok.has _ (.inr k))
  refine wpAny_comprehension_free (use := use) rfl h1 (closure_ok closed) ok.kind (fun y hy e => by rw [ok.uniq y hy, e]) (thn (first.run pins s σ H _ I rd) fun xv sA hA => thn hA fun itv sB hB => ?_)
  obtain ⟨it, fp, tn, J, HB, rfl, IB, T, stB, fB, q⟩ := hB
  refine wpAny_newObj_type (newEnv_comp ?_) (by show 0 ≤ sizeLine; decide)
  generalize hD : sB.heap.objs.size = D
  have noD : HB D = none := IB.hok.fresh (Nat.le_of_eq hD)
  obtain ⟨W, ⟨m0, w0⟩, turn⟩ := q D noD
  generalize hs3 : ({ sB with heap := sB.heap.push { cls := .type "list", data := .seq ([] : List Value).toArray } } : Shared) = s3
  have I3 : Inv X pins σ (upd HB D (.lst [])) s3 := by
    rw [← hs3]
    exact IB.laid (t' := sB.toks) (fun b o e => Heap.get?_push_of_some _ e) (Nat.le_of_eq hD) ⟨Nat.zero_le _, [], 0, .nil, by rw [← hD]; exact Heap.get?_push_size _ rfl⟩
  have h3 : s3.heap = sB.heap.push { cls := .type "list", data := .seq ([] : List Value).toArray } := by rw [← hs3]
  have f3 : ∀ b ∈ fp, FpOk X pins (upd HB D (.lst [])) b ∧ b < s3.heap.objs.size := fun b hb => by
    obtain ⟨o, e, _⟩ := T.obj _ _ stB b hb
    have lt : b < sB.heap.objs.size := Heap.lt_size e
    have ne : b ≠ D := by rw [← hD]; exact Nat.ne_of_lt lt
    exact ⟨⟨by rw [upd_ne ne]; exact (fB b hb).1, (fB b hb).2⟩, by rw [h3, Heap.size_push]; exact Nat.lt_succ_of_lt lt⟩
  have st3 : tn 0 s3.heap := T.keep _ _ _ stB fun b _ o e => by rw [h3]; exact Heap.get?_push_of_some _ e
  have I4 := block_start I3 ok hN f3
  have p1 := P1 s3 (upd HB D (.lst [])) s3.heap.objs.size (cellsFrom (s3.heap.objs.size + 1) scope.names (cloFrom X.env.cells scope.names [])) fp
  have c1 := C1 s3 (upd HB D (.lst [])) s3.heap.objs.size (cellsFrom (s3.heap.objs.size + 1) scope.names (cloFrom X.env.cells scope.names [])) fp
  have i2 := I2 s3 (upd HB D (.lst [])) s3.heap.objs.size (cellsFrom (s3.heap.objs.size + 1) scope.names (cloFrom X.env.cells scope.names [])) fp
  have p2 := P2 s3 (upd HB D (.lst [])) s3.heap.objs.size (cellsFrom (s3.heap.objs.size + 1) scope.names (cloFrom X.env.cells scope.names [])) fp
  have c2 := C2 s3 (upd HB D (.lst [])) s3.heap.objs.size (cellsFrom (s3.heap.objs.size + 1) scope.names (cloFrom X.env.cells scope.names [])) fp
  have e2 := el s3 (upd HB D (.lst [])) s3.heap.objs.size (cellsFrom (s3.heap.objs.size + 1) scope.names (cloFrom X.env.cells scope.names [])) fp
  have fold2 := h2 s3.heap.objs.size (cellsFrom (s3.heap.objs.size + 1) scope.names (cloFrom X.env.cells scope.names []))
  show codeAny _ _ (.compStart (.ListComp elt [⟨t1, it1, ifs1, 0⟩, ⟨t2, it2, ifs2, 0⟩] scope pos) 0 (.ref it) (.ref D) (compEnvC scope (cellsFrom (s3.heap.objs.size + 1) scope.names (cloFrom X.env.cells scope.names [])) s3.heap.objs.size X.env)) (compPost (model X.prog X.w) X.A X.xe use Qf (.ref D) s3.heap.objs.size) { s3 with heap := pushCells (s3.heap.push { cls := .type "dict", data := .dict #[] }) scope.names }
  have nfp : ∀ b ∈ fp, (upd HB D (.lst [])) b = none := fun b hb => (f3 b hb).1.1
  generalize hce : compEnvC scope (cellsFrom (s3.heap.objs.size + 1) scope.names (cloFrom X.env.cells scope.names [])) s3.heap.objs.size X.env = ce at I4 p1 c1 i2 p2 c2 e2 fold2 ⊢
  have cL : ce.locals = s3.heap.objs.size := by subst hce; rfl
  generalize hH3 : upd HB D (.lst []) = H3 at I3 I4 p1 c1 i2 p2 c2 e2 w0 nfp f3
  generalize hs4 : ({ s3 with heap := pushCells (s3.heap.push { cls := .type "dict", data := .dict #[] }) scope.names } : Shared) = s4 at I4 ⊢
  have st4 : tn 0 s4.heap := T.keep _ _ _ st3 fun b _ o e => by rw [← hs4]; exact pushCells_keeps _ _ _ _ (Heap.get?_push_of_some _ e)
  have stat : ∀ {σ' : L2.St} {H' : Hp} {s' : Shared}, Inv (X.blk s3 H3 scope ce fp) [] σ' H' s' → (∀ b ∈ fp, H' b = none) → ∀ b ∈ fp, FpOk (X.blk s3 H3 scope ce fp) [] H' b := fun {σ' H' s'} I' hn b hb =>
    ⟨hn b hb, (I'.ok.exf b hb).1, I'.ok.exfs b hb, .inl hb, fun x c e => (I'.ok.exf b hb).2 x c e, fun p hp => absurd (show p ∈ ([] : List (Addr × Obj)) ++ [] from hp) (by simp)⟩
  have loop : codeAny (model X.prog X.w) X.A (.compLoop (.ListComp elt [⟨t1, it1, ifs1, 0⟩, ⟨t2, it2, ifs2, 0⟩] scope pos) 0 (.ref it) (.ref D) ce) (compPost (model X.prog X.w) X.A X.xe use Qf (.ref D) s3.heap.objs.size) s4 := by
    refine codeAny_loop rfl (fun n s' => ∃ i H', Inv (X.blk s3 H3 scope ce fp) [] (wipe σ (own.map (·.2))) H' s' ∧ tn i s'.heap ∧ (∀ b ∈ fp, H' b = none) ∧ W i n H') ?_ m0 ⟨0, H3, I4, st4, nfp, w0⟩
    rintro n s5 ⟨i, H5, I5, st5, n5, w5⟩
    show wpAny _ X.A ((compTurn (.ListComp elt [⟨t1, it1, ifs1, 0⟩, ⟨t2, it2, ifs2, 0⟩] scope pos) 0 (.ref it) (.ref D) ce).onRaise (fun x => do noteFrame x ce; theTreesLotGoes x)) _ _ s5
    refine wpAny_noted ?_
    rw [compTurn_list2_out]
    refine wpAny_bind (wpAny_standAt ?_)
    rcases turn i n H5 w5 with ⟨stop, qq⟩ | ⟨go, Nx, hNx, step⟩
    · refine wpAny_bind (thnF (T.done (X.blk s3 H3 scope ce fp) rfl rfl rfl hc i [] s5 _ H5 (fun _ _ => False) I5 (stat I5 n5) st5 stop) fun r s6 hr => ?_)
      obtain ⟨hr, I6⟩ := hr
      subst hr
      refine wpAny_pure ?_
      have I7 : Inv X pins σ H5 s6 := I3.call' (ch := fp) I6.os I6.base I6.hok I6.bare fun b hb => ⟨(f3 b hb).1.2.2.2.1, (f3 b hb).1.2.1, (f3 b hb).1.2.2.2.2.1, (f3 b hb).1.2.2.2.2.2⟩
      have nC : H5 s3.heap.objs.size = none := by
        have z : H5 ce.locals = none := I6.free
        rw [cL] at z
        exact z
      obtain ⟨m, hn, _⟩ := I6.loc
      have hn : s6.heap.Ns ce.locals m := hn
      rw [cL] at hn
      exact behind D s3.heap.objs.size s6 m H5 I7 qq hn (I3.fpOk (Nat.le_refl _) nC)
    · refine wpAny_bind (thnF (T.item (X.blk s3 H3 scope ce fp) rfl rfl rfl hc i [] s5 _ H5 (fun _ _ => False) I5 (stat I5 n5) st5 go) fun r s6 hr => ?_)
      obtain ⟨u, hr, h6⟩ := hr
      subst hr
      refine wpAny_bind (thnF h6 fun _ s7 h7 => ?_)
      obtain ⟨x, H7, I7, r7, y7, st7, n7⟩ := h7
      have I7' := I7.pinned (stat I7 n7) (T.obj _ _ st7)
      refine wpAny_bind (thnF (p1.run _ s7 _ H7 x u _ I7' r7 (step x H7 y7)) fun _ s8 h8 => ?_)
      obtain ⟨σ8, H8, I8, hw8, q8⟩ := h8
      refine wpAny_bind (thnF (c1.run _ s8 σ8 H8 _ I8 q8) fun b s9 h9 => ?_)
      obtain ⟨H9, I9, q9⟩ := h9
      have back : ∀ {s' : Shared} {σ' : L2.St} {H' : Hp}, Inv (X.blk s3 H3 scope ce fp) ([] ++ pinsAt fp s7.heap) σ' H' s' → (wipe σ (own.map (·.2))).length = σ'.length → (∀ (j : Nat) (v : V), (wipe σ (own.map (·.2)))[j]? = some (some v) → σ'[j]? = some (some v)) → Nx H' →
          ∃ m, m < n ∧ ∃ i H', Inv (X.blk s3 H3 scope ce fp) [] (wipe σ (own.map (·.2))) H' s' ∧ tn i s'.heap ∧ (∀ b ∈ fp, H' b = none) ∧ W i m H' := fun {s' σ' H'} I' hl hv nx => by
        obtain ⟨m', hm, w'⟩ := hNx H' nx
        refine ⟨m', hm, i + 1, H', (I'.unpinned (pins := [])).weak hl hv, T.keep _ _ _ st7 fun b hb o e => (I'.pin (b, o) (List.mem_append_right _ (List.mem_append_right _ (mem_pinsAt hb e)))).1, fun b hb => ?_, w'⟩
        obtain ⟨o, e, _⟩ := T.obj _ _ st7 b hb
        exact (I'.pin (b, o) (List.mem_append_right _ (List.mem_append_right _ (mem_pinsAt hb e)))).2.1
      have hl8 : (wipe σ (own.map (·.2))).length = σ8.length := by rw [← hw8, wipe_length]
      cases b with
      | false =>
        simp only [Bool.false_eq_true, if_false] at q9 ⊢
        exact wpAny_pure ⟨rfl, back I9 hl8 (fun j v e => by rw [← hw8] at e; exact (wipe_some e).1) q9⟩
      | true =>
        simp only [if_true] at q9 ⊢
        refine wpAny_bind (thnF (lc2_in (X := X.blk s3 H3 scope ce fp) (t1 := t1) (it1 := it1) (ifs1 := ifs1) (scope := scope) (pos := pos) rfl hc i2 p2 c2 e2 I9 q9) fun xv s10 h10 => ?_)
        refine wpAny_bind (wpAny_standAt (wpAny_bind (wpAny_of_eq (fold2 xv) ?_)))
        refine wpAny_bind (wpAny_holding (thnF h10 fun itv s11 h11 => ?_))
        refine wpAny_bind (wpAny_runOwn ?_)
        refine h11 _ fun s' H' I' nx => ?_
        refine wpAny_pure ⟨rfl, back I' (by rw [wipe_length, wipe_length]; rw [wipe_length] at hl8; exact hl8) (fun j v e => ?_) nx⟩
        rw [← hw8] at e
        have z := wipe_some e
        rw [wipe_out fun hj => z.2 (sub j hj)]
        exact z.1
  exact codeAny_compStart_list loop (T.self X.A 0 _ _ _ st4 loop)
/-- [elt for t1 in it1 if .. for t2 in it2 if ..] -/
theorem pe_lc2 {own : List (Str × Nat)} (hc : X.calm = true) (hN : X.N.Nodup) (first : PI X t1 it1 wi1) (ok : BlkOk X.N X.env.scope scope own) (sub : ∀ j ∈ vs2, j ∈ own.map (·.2))
    (P1 : ∀ (s : Shared) (H : Hp) (C : Addr) (cl : List (Str × Addr)) (fp : List Addr), PG (X.blk s H scope (compEnvC scope cl C X.env) fp) t1 g1) (C1 : ∀ (s : Shared) (H : Hp) (C : Addr) (cl : List (Str × Addr)) (fp : List Addr), PTs (X.blk s H scope (compEnvC scope cl C X.env) fp) ifs1 tt1)
    (I2 : ∀ (s : Shared) (H : Hp) (C : Addr) (cl : List (Str × Addr)) (fp : List Addr), PI (X.blk s H scope (compEnvC scope cl C X.env) fp) t2 it2 wi2)
    (P2 : ∀ (s : Shared) (H : Hp) (C : Addr) (cl : List (Str × Addr)) (fp : List Addr), PG (X.blk s H scope (compEnvC scope cl C X.env) fp) t2 g2) (C2 : ∀ (s : Shared) (H : Hp) (C : Addr) (cl : List (Str × Addr)) (fp : List Addr), PTs (X.blk s H scope (compEnvC scope cl C X.env) fp) ifs2 tt2)
    (el : ∀ (s : Shared) (H : Hp) (C : Addr) (cl : List (Str × Addr)) (fp : List Addr), PE (X.blk s H scope (compEnvC scope cl C X.env) fp) elt te)
    (h1 : ∀ x, foldedSetIterable it1 X.env x = pure x := by intro _; rfl) (h2 : ∀ (C : Addr) (cl : List (Str × Addr)) x, foldedSetIterable it2 (compEnvC scope cl C X.env) x = pure x := by intro _ _ _; rfl) :
    PE X (.ListComp elt [⟨t1, it1, ifs1, 0⟩, ⟨t2, it2, ifs2, 0⟩] scope pos) (tLc2 wi1 g1 tt1 wi2 g2 tt2 te (own.map (·.2)) vs2) := by
  refine ⟨fun pins s σ H Q I rd => ?_⟩
  rw [eval_ListComp]
  refine lc2_core hc hN first ok sub P1 C1 I2 P2 C2 el h1 h2 I rd fun D C s' m H' I' q hn f => ⟨m, hn, fun h'' sb => ?_⟩
  obtain ⟨f0, f1, f2, f3, f4, f5⟩ := f
  exact ⟨.ref D, H', I'.turned (t' := s'.toks) (fun b o hb e => (sb.2 b hb).trans e) f0 f1 f3 f4 f5, rfl, q⟩
/-- name = [..] on one row, the name a local -/
theorem ps_setLc2 {i : Nat} {y : Str} {py spos : Pos} {own : List (Str × Nat)} (hc : X.calm = true) (hN : X.N.Nodup) (hy : X.N[i]? = some y) (hyl : X.env.scope.names.lookup y = some .local)
    (hsw : swapsWith (.ListComp elt [⟨t1, it1, ifs1, 0⟩, ⟨t2, it2, ifs2, 0⟩] scope pos) (some (.Name y py)) spos.line X.env = pure true) (first : PI X t1 it1 wi1) (ok : BlkOk X.N X.env.scope scope own) (sub : ∀ j ∈ vs2, j ∈ own.map (·.2))
    (P1 : ∀ (s : Shared) (H : Hp) (C : Addr) (cl : List (Str × Addr)) (fp : List Addr), PG (X.blk s H scope (compEnvC scope cl C X.env) fp) t1 g1) (C1 : ∀ (s : Shared) (H : Hp) (C : Addr) (cl : List (Str × Addr)) (fp : List Addr), PTs (X.blk s H scope (compEnvC scope cl C X.env) fp) ifs1 tt1)
    (I2 : ∀ (s : Shared) (H : Hp) (C : Addr) (cl : List (Str × Addr)) (fp : List Addr), PI (X.blk s H scope (compEnvC scope cl C X.env) fp) t2 it2 wi2)
    (P2 : ∀ (s : Shared) (H : Hp) (C : Addr) (cl : List (Str × Addr)) (fp : List Addr), PG (X.blk s H scope (compEnvC scope cl C X.env) fp) t2 g2) (C2 : ∀ (s : Shared) (H : Hp) (C : Addr) (cl : List (Str × Addr)) (fp : List Addr), PTs (X.blk s H scope (compEnvC scope cl C X.env) fp) ifs2 tt2)
    (el : ∀ (s : Shared) (H : Hp) (C : Addr) (cl : List (Str × Addr)) (fp : List Addr), PE (X.blk s H scope (compEnvC scope cl C X.env) fp) elt te)
    (h1 : ∀ x, foldedSetIterable it1 X.env x = pure x := by intro _; rfl) (h2 : ∀ (C : Addr) (cl : List (Str × Addr)) x, foldedSetIterable it2 (compEnvC scope cl C X.env) x = pure x := by intro _ _ _; rfl) :
    PS X (.Assign [.Name y py] (.ListComp elt [⟨t1, it1, ifs1, 0⟩, ⟨t2, it2, ifs2, 0⟩] scope pos) spos) (tAsg (tLc2 wi1 g1 tt1 wi2 g2 tt2 te (own.map (·.2)) vs2) (gName i)) := by
  refine ⟨fun pins s σ H D I h => ?_⟩
  rw [exec_Assign_Name_used _ _ _ _ hsw]
  refine wpAny_bind (wpAny_standAt (wpAny_bind ?_))
  show wpAny _ X.A (do let _ ← comprehension (.ListComp elt [⟨t1, it1, ifs1, 0⟩, ⟨t2, it2, ifs2, 0⟩] scope pos) scope X.env (firstIterPos [⟨t1, it1, ifs1, 0⟩, ⟨t2, it2, ifs2, 0⟩] pos) (newList []) false (eval it1 X.env) (some (assign (.Name y py) X.env))) _ _ s
  have h : tLc2 wi1 g1 tt1 wi2 g2 tt2 te (own.map (·.2)) vs2 σ H (fun x H1 => gName i x σ H1 D.nx) := h
  refine wpAny_bind (thn (lc2_core (Qf := fun _ s' => SP X pins D .next s') hc hN first ok sub P1 C1 I2 P2 C2 el h1 h2 I h fun L C s' m H' I' q hn f => ?_) fun _ s' hq => wpAny_pure (wpAny_pure hq))
  show wpAny _ _ (assign (.Name y py) X.env (.ref L)) _ _ _
  refine wpAny_assign_Name (store_ok2 (v := V.ref L) I' hN hy (.inl hyl) rfl (fun s2 J ⟨a, sb, ha⟩ => ?_) (.inr hyl))
  obtain ⟨f0, f1, f2, f3, f4, f5⟩ := f
  have ne : C ≠ a := ha.elim (fun z => by rw [z]; exact f1) fun z e => f4 y a z e.symm
  exact ⟨m, hn.sameBut sb ne, fun h3 sb3 => ⟨_, H', J.turned (t' := s2.toks) (fun b o hb e => (sb3.2 b hb).trans e) f0 f1 f3 f4 f5, q⟩⟩
end
end My

set_option Elab.async false
set_option linter.all false
set_option maxRecDepth 100000
set_option maxHeartbeats 4000000
/-! ### [te for p in range(m) for q in range(n)] -/
namespace My
open PySem L2
theorem it_range {m : Nat} {W0 : Hp → Prop} (Pv : Nat → Hp → Prop) {H : Hp} (h0 : Pv 0 H) {Nx : Hp → Prop} {g : TG} {tt : TT} {te : TE} {vs : List Nat} {σ : L2.St} {D : Addr}
    (step : ∀ i H', i < m → Pv i H' → g (.int (i : Nat)) (wipe σ vs) H' fun σ2 H2 => wipe σ2 vs = wipe σ vs ∧ tt σ2 H2 fun b H3 => if b = true then te σ2 H3 fun y H4 => ∃ acc, H4 D = some (.lst acc) ∧ acc.length < sizeLine ∧ Pv (i + 1) (upd H4 D (.lst (acc ++ [y]))) else Pv (i + 1) H3)
    (fin : ∀ H', Pv m H' → Nx H') : ∃ W : Nat → Nat → Hp → Prop, (∃ k, W 0 k H) ∧ ∀ i k H, W i k H →
  ((Itr 0 m).stop i H ∧ Nx H) ∨ ((Itr 0 m).go i H ∧ ∃ N2 : Hp → Prop, (∀ H', N2 H' → ∃ m', m' < k ∧ W (i + 1) m' H') ∧ ∀ x H', (Itr 0 m).yld i H x H' → g x (wipe σ vs) H' fun σ2 H2 => wipe σ2 vs = wipe σ vs ∧ tt σ2 H2 fun b H3 =>
    if b = true then te σ2 H3 fun y H4 => ∃ acc, H4 D = some (.lst acc) ∧ acc.length < sizeLine ∧ N2 (upd H4 D (.lst (acc ++ [y]))) else N2 H3) := by
  refine ⟨fun i k H => k + i = m ∧ Pv i H, ⟨m, rfl, h0⟩, fun i k H h => ?_⟩
  obtain ⟨e, p⟩ := h
  rcases Nat.lt_or_ge i m with lt | ge
  · refine .inr ⟨lt, Pv (i + 1), fun H' p' => ⟨k - 1, by omega, by omega, p'⟩, fun x H' y => ?_⟩
    obtain ⟨rfl, rfl⟩ := y
    rw [Int.zero_add]
    exact step i H' lt p
  · have z : i = m := by omega
    exact .inl ⟨by subst z; first | rfl | exact Nat.le_refl _, fin H (by rw [← z]; exact p)⟩
theorem lc2Rg {ta tb : TA} {te : TE} {σ : L2.St} {H : Hp} {Q : VK} {p q : Nat} (m n : Nat) (hm : m ≤ 1000) (hn : n ≤ 1000) (Pv : Addr → Nat → Nat → Hp → Prop)
    (ha : ∀ R : List V → Hp → Prop, R [.int (m : Nat)] H → ta σ H R)
    (hb : ∀ (D : Addr) (i : Nat) (H' : Hp) (R : List V → Hp → Prop), H D = none → i < m → Pv D i 0 H' → R [.int (n : Nat)] H' → tb ((wipe σ [p, q]).set p (some (.int (i : Nat)))) H' R)
    (hw1 : ∀ x, wipe ((wipe σ [p, q]).set p (some x)) [p, q] = wipe σ [p, q])
    (hw2 : ∀ x y, wipe ((wipe ((wipe σ [p, q]).set p (some x)) [q]).set q (some y)) [q] = wipe ((wipe σ [p, q]).set p (some x)) [q])
    (h0 : ∀ D, H D = none → Pv D 0 0 (upd H D (.lst [])))
    (body : ∀ (D : Addr) (i j : Nat) (H' : Hp), H D = none → i < m → j < n → Pv D i j H' → te ((wipe ((wipe σ [p, q]).set p (some (.int (i : Nat)))) [q]).set q (some (.int (j : Nat)))) H' fun y H4 => ∃ acc, H4 D = some (.lst acc) ∧ acc.length < sizeLine ∧ Pv D i (j + 1) (upd H4 D (.lst (acc ++ [y]))))
    (nextRow : ∀ (D : Addr) (i : Nat) (H' : Hp), Pv D i n H' → Pv D (i + 1) 0 H') (fin : ∀ D H', H D = none → Pv D m 0 H' → Q (.ref D) H') :
    tLc2 (iRng1 ta) (gName p) tYes (iRng1 tb) (gName q) tYes te [p, q] [q] σ H Q := by
  refine ha _ ⟨(m : Nat), rfl, by omega, by omega, fun D nD => ?_⟩
  rw [Int.toNat_natCast]
  refine ⟨fun i k H' => k + i = m ∧ Pv D i 0 H', ⟨m, rfl, h0 D nD⟩, fun i k H1 h => ?_⟩
  obtain ⟨e, pv⟩ := h
  rcases Nat.lt_or_ge i m with lt | ge
  · refine .inr ⟨lt, Pv D (i + 1) 0, fun H' p' => ⟨k - 1, by omega, by omega, p'⟩, fun x H' y => ?_⟩
    obtain ⟨rfl, rfl⟩ := y
    rw [Int.zero_add]
    refine ⟨hw1 _, ?_⟩
    simp only [tYes, if_true]
    refine hb D i H' _ nD lt pv ⟨(n : Nat), rfl, by omega, by omega, ?_⟩
    rw [Int.toNat_natCast]
    exact it_range (W0 := fun _ => True) (Pv D i) pv (fun j H2 hj pj => ⟨hw2 _ _, body D i j H2 nD lt hj pj⟩) fun H2 pj => nextRow D i H2 pj
  · have z : i = m := by omega
    exact .inl ⟨by subst z; first | rfl | exact Nat.le_refl _, fin D H1 nD (by rw [← z]; exact pv)⟩
end My

set_option Elab.async false
set_option linter.all false
set_option maxRecDepth 100000
/-! ### raised out of a walk of a dict: behind it the dict stands as before -/
namespace My
open PySem L2
/-- the same wish, asked where the walked dict is free again -/
def WLock (X : Cx) (W : WX) : WX := fun cls dx σ H => ∃ (d : Addr) (u : HO) (od : Obj), H d = some (.frz od u) ∧ (∀ o v, X.H_0 d ≠ some (.frz o v)) ∧ W cls dx σ (upd H d u)
theorem takes_lock {X : Cx} {W : WX} (tk : Takes X W) : Takes X (WLock X W) := by
  rintro e s' ⟨a, B, sI, pins, σ, H, cls, dx, rfl, I, nb, up, sky, na, os, ag, d, u, od, hd, nf, w⟩
  have ad : a ≠ d := fun z => by rw [z, hd] at na; cases na
  exact tk _ _ ⟨a, B, sI, pins, σ, upd H d u, cls, dx, rfl, I.unlock hd nf, nb, up, sky, by rw [upd_ne ad]; exact na, os, ag, w⟩
end My

set_option Elab.async false
set_option linter.all false
set_option maxRecDepth 100000
set_option maxHeartbeats 4000000
/-! ### defs that close over their class, and super().__init__(..) of an own error -/
namespace My
open PySem L2 NdefX
/-- a block whose activation is known -/
structure PSat (X : Cx) (c : Code) (body : List Stmt) (t : TS) : Prop where
  run : ∀ (pins : List (Addr × Obj)) (s : Shared) (σ : L2.St) (H : Hp) (D : Ends), Inv X pins σ H s → t D σ H → wpAt (model X.prog X.w) X.A c (execs body X.env) (SP X pins D) X.xe s
structure PSat1 (X : Cx) (c : Code) (st : Stmt) (t : TS) : Prop where
  run : ∀ (pins : List (Addr × Obj)) (s : Shared) (σ : L2.St) (H : Hp) (D : Ends), Inv X pins σ H s → t D σ H → wpAt (model X.prog X.w) X.A c (exec st X.env) (SP X pins D) X.xe s
theorem psat_of {X : Cx} {c : Code} {body : List Stmt} {t : TS} (h : PSs X body t) : PSat X c body t := ⟨fun pins s σ H D I q => wpAt_of_wpAny (h.run pins s σ H D I q)⟩
theorem psat_cons {X : Cx} {c : Code} {st : Stmt} {rest : List Stmt} {t u : TS} (h1 : PSat1 X c st t) (h2 : PSs X rest u) : PSat X c (st :: rest) (tSeq t u) := by
  refine ⟨fun pins s σ H D I q => ?_⟩
  refine PySem.ks_wpAt_execs_cons (wpAt_mono (h1.run pins s σ H { D with nx := u D } I q) (fun f s1 r => ?_) fun _ _ z => z)
  cases f with
  | next =>
    obtain ⟨σ', H', I', r⟩ := r
    exact wpAt_of_wpAny (h2.run pins s1 σ' H' D I' r)
  | brk => exact r
  | cont => exact r
  | ret u => exact r
/-- the words of a def that closes over its class -/
def nfOf (x qual : Str) (st : Stmt) (cc cda : Addr) : NF := ⟨x, qual, defArgs st, defBody st, defScope st, [("__class__", cc)], cda⟩
structure FunX (K : PySem.W.Frag) (x qual : Str) (st : Stmt) (f : Addr) (fd : FuncData) (cc cda D : Addr) : Prop where
  ex : ∃ (oc : Value) (od : Option Addr) (kV doc pm : Value) (an : Option Addr) (ct : Value) (osl : Array (Option Value)),
    fd = PySem.W.fnX x qual (defArgs st) (defBody st) (defScope st) [("__class__", cc)] .none kV doc pm an (.ref cda) ct ∧ K.lookup f = some ⟨oc, od, .func fd, osl⟩ ∧ PySem.W.codeIn K (.ref cda) qual = true
  cell : ∃ (cl : Value) (cld : Option Addr) (csl : Array (Option Value)), K.lookup cc = some ⟨cl, cld, .cell (some (.ref D)), csl⟩
  kp : PySem.W.keepIn K (.ref f) = true
section
variable {P : Program} {w : World} {K : PySem.W.Frag} {mg : Str → Option Value} {base : Heap}
abbrev cxX (CX : CXT) (P : Program) (w : World) (K : PySem.W.Frag) (mg : Str → Option Value) (base : Heap) (N : List Str) (x qual : Str) (st : Stmt) (cc cda f : Addr) (A : Around) (outer : List Env) (s : Shared) (H : Hp) (E : XK) : Cx := ncx CX P w K mg base N (nfOf x qual st cc cda) f A outer s H E
theorem FunX.ok {CX : CXT} {x qual : Str} {st : Stmt} {f cc cda D : Addr} {fd : FuncData} {N ps : List Str} {k : Nat} {sp : Sp} (F : FunX K x qual st f fd cc cda D) (S : NScope N ps ["__class__"] (defScope st)) (len : ∀ vs H Q E, sp vs H Q E → vs.length = ps.length)
    (hbody : ∀ (A : Around) (outer : List Env) (s : Shared) (H : Hp) (vs : List V) (Q : VK) (E : XK), Room k (A.deeper (envF (nfOf x qual st cc cda) f s.heap.objs.size)) → sp vs H Q E →
      ∃ t, PSat (cxX CX P w K mg base N x qual st cc cda f A outer s H E) (.func (defBody st) (envF (nfOf x qual st cc cda) f s.heap.objs.size)) (defBody st) t ∧ t { nx := fun _ H' => Q .non H', rt := Q } (startF N vs [some (.ref D)]) H) :
    FnOk P w K mg base CX (k + 1) f fd ps sp := by
  obtain ⟨oc, od, kV, doc, pm, an, ct, osl, rfl, lk, hcd⟩ := F.ex
  obtain ⟨cl, cld, csl, hcc⟩ := F.cell
  refine ⟨len, fun A outer s H args us vs Q E hr e0 hb r hsp => ?_⟩
  have hl := len _ _ _ _ hsp
  have KX : K.In s.heap := e0.mod.kin.keeps fun b o e => (e0.bs b o e).1
  have lim : s.heap.NoLimit := e0.mod.nolimit.keeps fun b o e => (e0.bs b o e).1
  have hcB := e0.mod.kin _ _ hcc
  have C : CellsAt (nfOf x qual st cc cda).cl ["__class__"] [some (.ref D)] s.heap H := by
    refine ⟨rfl, fun y c e => ?_, fun a b c e1 e2 => ?_, fun i y e => ?_⟩
    · have e' : (if y = ("__class__" : Str) then some cc else none) = some c := by
        rw [← e]
        show _ = List.lookup y [(("__class__" : Str), cc)]
        rw [List.lookup_cons, List.lookup_nil]
        by_cases h : y = ("__class__" : Str)
        · rw [if_pos h, beq_iff_eq.mpr h]
        · rw [if_neg h, beq_eq_false_iff_ne.mpr h]
      split at e'
      · cases e'
        exact ⟨(e0.bs _ _ hcB).2, _, _, KX _ _ hcc, rfl⟩
      · cases e'
    · have g : ∀ (y : Str) (d : Addr), List.lookup y [(("__class__" : Str), cc)] = some d → y = "__class__" := by
        intro y d e
        rw [List.lookup_cons, List.lookup_nil] at e
        by_cases h : y = ("__class__" : Str)
        · exact h
        · rw [beq_eq_false_iff_ne.mpr h] at e
          cases e
      exact (g a c e1).trans (g b c e2).symm
    · match i, e with
      | 0, e =>
        have ey : y = "__class__" := (Option.some.inj e).symm
        subst ey
        exact ⟨cc, rfl, fun v hv => ⟨.ref D, by cases hv; rfl, _, KX _ _ hcc, rfl⟩⟩
      | i + 1, e => cases e
  refine PySem.ks_codeAny_call_defAt (fd := PySem.W.fnX x qual (defArgs st) (defBody st) (defScope st) [("__class__", cc)] .none kV doc pm an (.ref cda) ct) (body := defBody st) (binds := ps.zip us) hr.depth (KX _ _ lk) rfl lim (PySem.W.codeRec_of KX hcd) rfl hb S.nocell (fun ⟨n, v⟩ hy => S.par n (List.of_mem_zip hy).1) (fun h₁ hns kp => ?_) S.co S.gen S.kind
  obtain ⟨t, ht, hq⟩ := hbody A outer s H vs Q E (hr.deeper _) hsp
  have I : Inv (cxX CX P w K mg base N x qual st cc cda f A outer s H E) [] (startF N vs [some (.ref D)]) H { s with heap := h₁, toks := s.toks + (ps.zip us).length } := inv_startN S hr.hd e0 hl r C hns kp
  refine wpAt_mono (ht.run [] _ (startF N vs [some (.ref D)]) H _ I hq) (fun fl s' hs => ?_) fun e s' hs => hs
  have fin : ∀ {σ' : L2.St} {H' : Hp} {v : V} {u : Value}, Inv (cxX CX P w K mg base N x qual st cc cda f A outer s H E) [] σ' H' s' → L2.RelV v u → Q v H' → CE outer P w H s Q u s' :=
    fun {σ' H' v u} J rv q => ⟨v, H', J.os, J.bare, J.base, J.hok, rv, q⟩
  cases fl with
  | ret u =>
    obtain ⟨v, σ', H', J, rv, q⟩ := hs
    exact fin J rv q
  | next =>
    obtain ⟨σ', H', J, q⟩ := hs
    exact fin (v := V.non) (u := Value.none) J rfl q
  | brk =>
    obtain ⟨_, _, _, q⟩ := hs
    exact False.elim q
  | cont =>
    obtain ⟨_, _, _, q⟩ := hs
    exact False.elim q
end

/-! ### super().__init__(e) -/
/-- what the written part says of an own error that is made by an __init__ of its own: OexC, its place in the chain -/
structure ErrC (K : PySem.W.Frag) (C : Addr) : Prop where
  ox : OexC K C
  sup : PySem.W.ks_superIn K C C "__init__" = some (some (.builtin "ValueError.__init__"))
  isV : PySem.W.subIn K (.ref C) (.type "ValueError") = some true
  opq : PySem.W.nsIn K cStatics "thirdparty.any" = some none
  me : PySem.W.mroIn K C (.ref C) = some true
/-- what the code object of the def tells -/
structure CodeF (K : PySem.W.Frag) (P : Program) (cda : Addr) : Prop where
  at_ : ∃ (ccl : Value) (cdd : Option Addr) (vs : Array Value) (ccs : Array (Option Value)) (file : Str) (tf : Tok), K.lookup cda = some ⟨ccl, cdd, .fields vs, ccs⟩ ∧ vs[2]? = some (.str file tf) ∧ ((P.main.file : Str) == file) = true
  noTop : (P.main.scope.names.lookup ("super" : Str)).isSome = false
/-- the reading: the text is reckoned, nothing more -/
def tSupI (C : Addr) (ta : TA) : TS := fun D σ H => ∃ a : Addr, σ[0]? = some (some (.ref a)) ∧ H a = some (exo a C none) ∧ ta σ H fun vs H1 => vs.length ≤ 1000 ∧ H1 a = some (exo a C none) ∧ D.nx σ H1
section
variable {X : Cx}
theorem psat_sup {body : List Stmt} {f cc cda C : Addr} {fd : FuncData} {oc : Value} {od : Option Addr} {osl : Array (Option Value)} {cl : Value} {cld : Option Addr} {csl : Array (Option Value)} {ar : Arg} {e : Expr} {es : List Expr} {ta : TA} {p0 p1 apos cpos pos : Pos} {pl : Sem Bool}
    (T : ErrC X.K C) (G : CodeF X.K X.prog cda)
    (hf : X.K.lookup f = some ⟨oc, od, .func fd, osl⟩) (hp : (fd.params.posonlyargs ++ fd.params.args).head? = some ar)
    (hcell : X.K.lookup cc = some ⟨cl, cld, .cell (some (.ref C)), csl⟩) (hsuper : X.mg "super" = none)
    (hfu : X.env.func = some f) (hco : X.env.code = .ref cda) (hcl : X.env.cells.lookup ("__class__" : Str) = some cc)
    (hks : X.env.scope.names.lookup ("super" : Str) = some .globalImplicit) (hkc : X.env.scope.names.lookup ("__class__" : Str) = some .free) (hka : X.env.scope.names.lookup ar.arg = some .local)
    (hN : X.N[0]? = some ar.arg) (ha : PA X (e :: es) ta)
    (hev : eval (.Call (.Attribute (.Call (.Name "super" p0) [] [] p1) "__init__" apos) (e :: es) [] cpos) X.env = (do
      let ov ← attributeBase (.Call (.Name "super" p0) [] [] p1) "__init__" X.env (eval (.Call (.Name "super" p0) [] [] p1) X.env)
      standAt apos.atName
      let (f, first) ← holding [ov] (getMethod ov "__init__" pl)
      callWith cpos f first (backTo cpos (starEach (e :: es) X.env)) []))
    (hst : starEach (e :: es) X.env = (false, eval e X.env) :: starEach es X.env) (hpl : (backTo cpos (starEach es X.env)).any (·.1) = false)
    (hsw : swapsWith (.Call (.Attribute (.Call (.Name "super" p0) [] [] p1) "__init__" apos) (e :: es) [] cpos) none pos.line X.env = pure false) (hint : interactive X.env = false) :
    PSat1 X (.func body X.env) (.Expr (.Call (.Attribute (.Call (.Name "super" p0) [] [] p1) "__init__" apos) (e :: es) [] cpos) pos) (tSupI C ta) := by
  refine ⟨fun pins s σ H D I h => ?_⟩
  obtain ⟨a, hσ, ea, q⟩ := h
  obtain ⟨ccl, cdd, vs, ccs, file, tf, hcode, hvs, hfile⟩ := G.at_
  obtain ⟨nm, qn, N, bs, bm, sn, sub, ab, col, dd, k0, k1, k2, k3, k5, hC, hbm⟩ := T.ox.cls
  have hcls : PySem.W.clsIn X.K C = some { name := nm, bases := bs, mro := .ref C :: bm, ns := N, qualname := qn, hasDict := true, slotNames := sn, subclasses := sub, abstract := ab, collection := col, hasDel := false } := by unfold PySem.W.clsIn; rw [hC] <;> rfl
  obtain ⟨t1, ho⟩ := exo_at I.hok ea
  obtain ⟨hh, g, d, t, os⟩ := s
  have XK := I.kIn
  obtain ⟨mb, hb1, hb2⟩ := I.mod.blt
  obtain ⟨m, hn, hl⟩ := id I.loc
  obtain ⟨u0, ru0, lk0⟩ := hl 0 ar.arg (.ref a) hN hσ (.inl hka)
  obtain rfl : u0 = Value.ref a := ru0
  have hv : m ar.arg = some (Value.ref a) := by
    rcases lk0 with ⟨_, e⟩ | ⟨z, _⟩
    · exact e
    · exfalso
      rcases z with z | z
      · have z' : X.env.scope.names.lookup ar.arg = some .cell := z
        rw [hka] at z'; cases z'
      · have z' : X.env.scope.names.lookup ar.arg = some .free := z
        rw [hka] at z'; cases z'
  refine PySem.ks_wpAt_Expr_any (PySem.ks_wpAt_MethodCall ?_ hev) hint hsw
  refine PySem.ks_wpAt_super_base (env := X.env) hks hkc (by decide) hfu (XK _ _ hf) rfl hp hco (XK _ _ hcode) rfl hvs hfile G.noTop ?_
  refine PySem.W.ks_loadName_global I.ok.kind hks (PySem.Calls.loadGlobal_builtin (by rw [I.ok.glob]; exact I.mod.glob.keeps I.bk) hsuper (by rw [I.ok.blt]; exact hb1.keeps I.bk) ((hb2 "super" (by decide)).trans (by decide +kernel)) ⟨rfl, ?_⟩)
  refine wpAny_loadName_free I.ok.kind hkc hcl ⟨_, XK _ _ hcell, rfl⟩ ?_
  refine wpAny_loadName_local I.ok.kind hka hn hv ?_
  refine ks_wpAny_isType_cls (XK _ _ hC) rfl ⟨rfl, ?_⟩
  refine ks_wpAny_call_super (XK _ _ hC) rfl ho rfl (fun c z => nomatch z) (PySem.W.looks_mroIn XK T.me) (fun h' e1 k1' => ?_)
  have I1 : Inv X pins σ H ⟨h', g, d, t, os⟩ := I.kept (t' := t) k1'
  have X1 := I1.kIn
  have ho1 := k1' _ _ ho
  have IA : PySem.W.InstAt h' a _ C none := ⟨ho1, rfl, rfl, trivial⟩
  refine PySem.W.kxs_getMethod PySem.W.kxs_ValueError e1 (PySem.W.looks_opaque X1 T.opq) (l₀ := .ref C :: bm) ?_ rfl X1 ?_ (IA.type.andThen (PySem.W.looks_subIn X1 T.isV)) (PySem.W.ks_ne X1 IA hcls) (by decide) ?_
  · exact fun A Q E s k q => wpAny_bind ((PySem.W.looks_clsIn X1 hcls) A _ E s k (wpAny_pure q))
  · have q1 := T.sup
    unfold PySem.W.ks_superIn at q1
    rw [hcls] at q1
    exact q1
  have I2 : Inv X pins σ H ⟨h'.push (PySem.W.kxs_mw "ValueError.__init__" a), g, d, t + 1, os⟩ := I1.kept (t' := t + 1) (fun b o z => Heap.get?_push_of_some _ z)
  have hu2 : (h'.push (PySem.W.kxs_mw "ValueError.__init__" a)).get? h'.objs.size = some (PySem.W.kxs_mw "ValueError.__init__" a) := Heap.get?_push_size _ rfl
  have hHu : H h'.objs.size = none := I1.hok.fresh (Nat.le_refl _)
  have J2 : Inv X ((h'.objs.size, PySem.W.kxs_mw "ValueError.__init__" a) :: pins) σ H ⟨h'.push (PySem.W.kxs_mw "ValueError.__init__" a), g, d, t + 1, os⟩ := by
    refine I2.pins_of fun p hp => ?_
    rcases List.mem_cons.mp hp with rfl | hp
    · exact ⟨hu2, hHu, Nat.ne_of_gt I1.lt, I1.nofs (Nat.le_refl _), fun v z => nomatch z⟩
    · exact I2.pin p (List.mem_append_right _ hp)
  have key : wpAny (model X.prog X.w) X.A (spliced (backTo cpos (starEach (e :: es) X.env))) (fun vs s₁ => PySem.W.KxsAt "ValueError.__init__" h'.objs.size a s₁.heap ∧ wpAny (model X.prog X.w) X.A (call (.ref h'.objs.size) vs) (fun _ => SP X pins D .next) X.xe s₁) X.xe ⟨h'.push (PySem.W.kxs_mw "ValueError.__init__" a), g, d, t + 1, os⟩ := by
    refine thn (ha.run cpos _ _ σ H _ J2 q) fun us s3 ⟨vs3, H1, I3, rv, hvl, ea1, qn⟩ => ?_
    have hu3 := (I3.pin (h'.objs.size, PySem.W.kxs_mw "ValueError.__init__" a) (List.mem_append_right _ List.mem_cons_self)).1
    refine ⟨hu3, ?_⟩
    have J3 : Inv X pins σ H1 s3 := I3.pins_of fun p hp => I3.pin p (List.mem_append_right _ (List.mem_cons_of_mem _ hp))
    obtain ⟨t2, ho3⟩ := exo_at J3.hok ea1
    have hus : us.length ≤ sizeLine := by
      rw [← Paired.length rv, sizeLine_eq]; omega
    have hC3 := J3.kIn _ _ hC
    obtain ⟨h3, g3, d3, tk3, os3⟩ := s3
    refine wpAny_call (codeAny_of_tree ?_)
    show wpAny _ X.A.in1 (callAny (.ref h'.objs.size) ⟨us, []⟩) _ _ _
    simp only [callAny]
    refine wpAny_bind (wpAny_load hu3 ?_)
    simp only [PySem.W.kxs_mw, show (Value.type "method-wrapper" == Value.type "method" || Value.type "method-wrapper" == Value.type "builtin_function_or_method" || Value.type "method-wrapper" == Value.type "method-wrapper") = true by decide, if_true]
    refine PySem.W.KFB.if_so (by decide) ?_
    refine wpAny_bind (PySem.W.check_bound_init F.excBase_ValueError.toExcCallFacts hC3 ho3 rfl ?_)
    refine wpAny_bind (wpAny_pure (wpAny_pure ?_))
    refine ⟨plainId_quiet F.excBase_ValueError.init.plain _, codeAny_builtin F.excBase_ValueError.initEntry ?_⟩
    refine PySem.W.exc_init_tree (cls := .ref C) (t0 := t2) (dv := none) (c2 := .none) (c3 := .none) (b4 := .bool false) ho3 hus fun h4 k4 hx4 ht4 => ?_
    have J := J3.write (t' := tk3) (x := a) (e := a) (o := exo a C none) (h' := h4) (by rw [ea1]; exact True.intro) (.inl rfl) k4 ⟨_, hx4⟩ (exo_ok hx4)
    have eu : upd H1 a (exo a C none) = H1 := by
      funext b
      by_cases hb : b = a
      · rw [hb, upd_same, ea1]
      · rw [upd_ne hb]
    rw [eu] at J
    exact ⟨σ, H1, J, qn⟩
  rw [hst] at key ⊢
  refine PySem.W.kxs_callWith (i := "ValueError.__init__") (x := a) (by show (false || (backTo cpos (starEach es X.env)).any (·.1)) = false; rw [hpl]; rfl) ?_
  exact PySem.Calls.evalArgs_plain key
end
end My

set_option Elab.async false
set_option linter.all false
set_option maxRecDepth 100000
set_option maxHeartbeats 4000000
/-! ### own errors: made, raised, caught, asked -/
namespace My
open PySem L2 NdefX
/-- __init__ of an error with one field: what it promises -/
def spErr1 (C : Addr) (f : Str) (P : V → Prop) : Sp := fun vs H Q _ => ∃ (a : Addr) (v : V), vs = [.ref a, v] ∧ P v ∧ H a = some (exo a C none) ∧ ∀ dx, H dx = none → dx ≠ a → Q .non (upd (upd H dx (exd dx [(f, v)])) a (exo a C (some dx)))
/-- .. with two fields -/
def spErr2 (C : Addr) (f g : Str) (P : V → V → Prop) : Sp := fun vs H Q _ => ∃ (a : Addr) (v u : V), vs = [.ref a, v, u] ∧ P v u ∧ H a = some (exo a C none) ∧ ∀ dx, H dx = none → dx ≠ a → Q .non (upd (upd (upd H dx (exd dx [(f, v)])) a (exo a C (some dx))) dx (exd dx [(g, u), (f, v)]))
theorem err_kp {H1 H2 : Hp} {a dx : Addr} {fs : List (Str × V)} (na : H1 a = none) (nd : H1 dx = none) (k : ∀ b, b ≠ a → b ≠ dx → H2 b = H1 b) : Kp [] H1 (upd (del H2 a) dx (.xd fs)) := fun b o _ e => by
  have h1 : b ≠ a := ne_of_none e na
  have h2 : b ≠ dx := ne_of_none e nd
  rw [upd_ne h2, del_ne h1, k b h1 h2]
  exact e
theorem err1_made {C : Addr} {f : Str} {P : V → Prop} {v : V} {H1 : Hp} {Q : XK} (hp : P v) (q : ∀ d H', H1 d = none → H' d = some (.xd [(f, v)]) → Kp [] H1 H' → Q (.ref C) (some d) H') :
    ([v] : List V).length ≤ 1000 ∧ ∀ a, H1 a = none → spErr1 C f P (.ref a :: ([v] ++ [])) (upd H1 a (exo a C none)) (fun v H2 => v = .non ∧ ∃ (d : Addr) (fs : List (Str × V)), H2 a = some (exo a C (some d)) ∧ H2 d = some (exd d fs) ∧ H1 d = none ∧ Q (.ref C) (some d) (upd (del H2 a) d (.xd fs))) (fun _ _ _ => False) := by
  refine ⟨by show 1 ≤ 1000; decide, fun a na => ⟨a, v, rfl, hp, upd_same, fun dx ndx hne => ?_⟩⟩
  rw [upd_ne hne] at ndx
  refine ⟨rfl, dx, _, upd_same, by rw [upd_ne hne]; exact upd_same, ndx, q dx _ ndx upd_same (err_kp na ndx fun b h1 h2 => ?_)⟩
  rw [upd_ne h1, upd_ne h2, upd_ne h1]
theorem err2_made {C : Addr} {f g : Str} {P : V → V → Prop} {v u : V} {H1 : Hp} {Q : XK} (hp : P v u) (q : ∀ d H', H1 d = none → H' d = some (.xd [(g, u), (f, v)]) → Kp [] H1 H' → Q (.ref C) (some d) H') :
    ([v, u] : List V).length ≤ 1000 ∧ ∀ a, H1 a = none → spErr2 C f g P (.ref a :: ([v, u] ++ [])) (upd H1 a (exo a C none)) (fun v H2 => v = .non ∧ ∃ (d : Addr) (fs : List (Str × V)), H2 a = some (exo a C (some d)) ∧ H2 d = some (exd d fs) ∧ H1 d = none ∧ Q (.ref C) (some d) (upd (del H2 a) d (.xd fs))) (fun _ _ _ => False) := by
  refine ⟨by show 2 ≤ 1000; decide, fun a na => ⟨a, v, u, rfl, hp, upd_same, fun dx ndx hne => ?_⟩⟩
  rw [upd_ne hne] at ndx
  refine ⟨rfl, dx, _, by rw [upd_ne hne.symm]; exact upd_same, upd_same, ndx, q dx _ ndx upd_same (err_kp na ndx fun b h1 h2 => ?_)⟩
  rw [upd_ne h2, upd_ne h1, upd_ne h2, upd_ne h1]
/-- what the written part says of an error class that is caught and asked -/
structure KitC (K : PySem.W.Frag) (C : Addr) : Prop where
  cl : (PySem.W.clsIn K C).isSome = true
  ga : PySem.W.findIn K (.ref C) "__getattribute__" = some (some (.builtin "BaseException.__getattribute__"))
  gg : PySem.W.findIn K (.ref C) "__getattr__" = some none
  bx : PySem.W.subIn K (.ref C) (.type "BaseException") = some true
  hc : PySem.W.findIn K (.ref C) "__class__" = some (some (.builtin "object.__class__"))
  hn : PySem.W.specialIn K (.builtin "object.__class__") "__get__" = some (some (.builtin "getset_descriptor.__get__"))
  ht : PySem.W.takesIn K (.builtin "object.__class__") = some true
  ob : PySem.W.mroIn K C (.type "object") = some true
/-- isinstance(e, c), e the error that the suite holds -/
def rIsX (K : PySem.W.Frag) (a : Addr) (cls : Value) (d : Option Addr) : List V → Hp → VK → Prop := fun xs H Q => ∃ (c : V) (cv : Value) (b : Bool) (D dd : Addr) (fs : List (Str × V)), xs = [.ref a, c] ∧ (∀ u, RelV c u → u = cv) ∧ cls = .ref D ∧ d = some dd ∧ H dd = some (.xd fs) ∧ KitC K D ∧ PySem.W.kitOne K (.ref D) cv = some b ∧ Q (.bl b) H
/-- .. a tuple of classes that was just laid -/
def rIsXT (K : PySem.W.Frag) (a : Addr) (cls : Value) (d : Option Addr) : List V → Hp → VK → Prop := fun xs H Q => ∃ (tp : Addr) (cs : List V) (us : List Value) (b : Bool) (D dd : Addr) (fs : List (Str × V)), xs = [.ref a, .ref tp] ∧ H tp = some (.tup cs) ∧ Paired ClsV cs us ∧ cls = .ref D ∧ d = some dd ∧ H dd = some (.xd fs) ∧ KitC K D ∧ PySem.W.kitAny K (.ref D) us = some b ∧ Q (.bl b) H
section
variable {X : Cx} {a : Addr} {oe : Obj} {cls : Value} {d : Option Addr} {pn : List (Addr × Obj)}
theorem inst_x {pins : List (Addr × Obj)} {s : Shared} {σ : L2.St} {H : Hp} {D dd : Addr} {fs : List (Str × V)} (I : Inv (X.suite a ((a, oe) :: pn)) pins σ H s) (hz : Zc (.ref D) (some dd) oe) (hf : ∃ vs, oe.data = .fields vs) (e : H dd = some (.xd fs)) : ∃ od, PySem.W.InstAt s.heap a oe D (some od) := by
  obtain ⟨ha, _⟩ := I.pin (a, oe) (List.mem_append_left _ List.mem_cons_self)
  obtain ⟨vs, hv⟩ := hf
  obtain ⟨mA, hns, _⟩ := (show ObjOk X.prog X.w H s.heap dd (.xd fs) from I.hok dd _ e)
  obtain ⟨od, ho, _⟩ := lookIn_ns hns
  exact ⟨od, ha, hz.1, by unfold PySem.W.notCls; rw [hv] <;> rfl, by rw [hz.2]; exact ho⟩
theorem call_isX (hz : Zc cls d oe) (hf : ∃ vs, oe.data = .fields vs) : CallR (X.suite a ((a, oe) :: pn)) (.builtin "isinstance") (rIsX X.K a cls d) := by
  intro pins s σ H xs us Q I r h
  obtain ⟨c, cv, b, D, dd, fs, rfl, hcv, rfl, rfl, ed, T, e, q⟩ := h
  obtain ⟨u1, u2, rfl, r1, r2⟩ := vals2 r
  cases (show u1 = Value.ref a from r1)
  cases hcv _ r2
  obtain ⟨od, J⟩ := inst_x I hz hf ed
  exact PySem.W.kia_one (PySem.W.kitx_exc T.cl T.ga T.gg T.bx T.hc T.hn T.ht T.ob) I.kIn J e (fun z => nomatch z) fun tk => ⟨.bl b, H, I.tok tk, rfl, q⟩
theorem call_isXT (hz : Zc cls d oe) (hf : ∃ vs, oe.data = .fields vs) : CallR (X.suite a ((a, oe) :: pn)) (.builtin "isinstance") (rIsXT X.K a cls d) := by
  intro pins s σ H xs us Q I r h
  obtain ⟨tp, cs, ws, b, D, dd, fs, rfl, hT, k, rfl, rfl, ed, T, e, q⟩ := h
  obtain ⟨u1, u2, rfl, r1, r2⟩ := vals2 r
  cases (show u1 = Value.ref a from r1)
  cases (show u2 = Value.ref tp from r2)
  obtain ⟨od, J⟩ := inst_x I hz hf ed
  obtain ⟨_, its, rv, o, h1, h2, n, h3⟩ := (show ObjOk X.prog X.w H s.heap tp (.tup cs) from I.hok tp _ hT)
  cases ClsV.all k rv
  obtain ⟨oc, od2, dt, sl⟩ := o
  simp only at h2 h3
  subst h2 h3
  exact PySem.W.kia_tup (PySem.W.kitx_exc T.cl T.ga T.gg T.bx T.hc T.hn T.ht T.ob) I.kIn J h1 e (fun z => nomatch z) fun tk => ⟨.bl b, H, I.tok tk, rfl, q⟩
end
end My

set_option Elab.async false
set_option linter.all false
set_option maxRecDepth 100000
set_option maxHeartbeats 4000000
/-! ### own errors without fields: C(), raised, caught, asked -/
namespace My
open PySem PySem.Spec PyProof.Rows L2
/-- __init__ of an error without fields: what it promises -/
def spErr0 (C : Addr) : Sp := fun vs H Q _ => ∃ a : Addr, vs = [.ref a] ∧ H a = some (exo a C none) ∧ Q .non H
theorem bare_end {X : Cx} {pins : List (Addr × Obj)} {σ : L2.St} {H1 : Hp} {hp hp2 h2 : Heap} {g1 g2 : Array GenState} {d1 d2 : Drawn} {t1 t2 : Nat} {os1 os2 : OsState} {a C : Addr} (I1 : Inv X pins σ H1 ⟨hp, g1, d1, t1, os1⟩)
    (ha : hp.objs.size ≤ a) (k : ∀ b o, hp.get? b = some o → hp2.get? b = some o) (un : Un (frs X.stack) [] (upd H1 a (exo a C none)) (upd H1 a (exo a C none)) hp2 h2) (hok : HOk X.prog X.w (upd H1 a (exo a C none)) h2) (ho : os2 = os1) (hb : AllBare g2) :
    ∃ (t0 : Addr) (G : Heap), Inv X pins σ H1 ⟨G, g2, d2, t2, os2⟩ ∧ (∀ b o, G.get? b = some o → h2.get? b = some o) ∧ G.get? a = none ∧
      h2.get? a = some ({ cls := .ref C, dict := none, data := .fields #[.ref t0, .none, .none, .none, .bool false, .none] } : Obj) ∧ H1 a = none := by
  have ea : (upd H1 a (exo a C none)) a = some (exo a C none) := upd_same
  obtain ⟨t0, hoe⟩ := exo_at hok ea
  have hn : H1 a = none := I1.hok.fresh ha
  obtain ⟨G, g1', g2'⟩ := restrict h2 fun b => decide (b ≠ a)
  have gk : ∀ b, b ≠ a → G.get? b = h2.get? b := fun b hb => g1' b (decide_eq_true hb)
  have ge : G.get? a = none := g2' a (by simp)
  have nha : ∀ {b : Addr} {o : Obj}, hp.get? b = some o → b ≠ a := fun {b o} z => Nat.ne_of_lt (Nat.lt_of_lt_of_le (Heap.lt_size z) ha)
  have up : ∀ {b : Addr}, b ≠ a → H1 b = none → upd H1 a (exo a C none) b = none := fun {b} hb n => by rw [upd_ne hb]; exact n
  have U : Un (frs X.stack) [] H1 H1 hp G := {
    keep := fun b o z n hf hx => by rw [gk b (nha z)]; exact un.keep b o (k b o z) (up (nha z) n) hf hx
    slot := fun b o z n hf hx => by rw [gk b (nha z)]; exact un.slot b o (k b o z) (up (nha z) n) hf hx
    free := fun b o z n hx => n
    there := fun b o z hx => by rw [gk b (nha z)]; exact un.there b o (k b o z) hx
    tups := fun b xs z => z
    frzs := fun b o v z => z
    tbls := fun b ps z => ⟨#[], by rw [z]; simp⟩ }
  have hok3 : HOk X.prog X.w H1 G := fun b o z => by
    have hba : b ≠ a := ne_of_none z hn
    have z2 : (upd H1 a (exo a C none)) b = some o := by rw [upd_ne hba]; exact z
    have noa : ∀ {c : Addr}, (upd H1 a (exo a C none)) c = some (.own b) → c ≠ a := fun {c} hc => at_ne ea hc exo_own
    exact (hok b o z2).stay (fun c v hc y => by
        have hca : c ≠ a := by
          rcases hc with hc | hc
          · rw [hc]; exact hba
          · exact noa hc
        rw [gk c hca]; exact y)
      (fun c hc => by have z := hc; rw [upd_ne (noa hc)] at z; exact z) (fun c xs hc => by have z := hc; rw [upd_ne (at_ne ea hc exo_tup)] at z; exact z)
  have J : Inv X pins σ H1 ⟨G, g2, d2, t2, os2⟩ := I1.call' (ch := []) ho U hok3 hb (fun b z => absurd z (by simp))
  refine ⟨t0, G, J, fun b o z => ?_, ge, hoe, hn⟩
  by_cases hba : b = a
  · rw [hba, ge] at z; cases z
  · exact (gk b hba).symm.trans z
theorem pmk_oex0 {X : Cx} {CX : CXT} {x : Str} {C fI : Addr} {k : Nat} {fd : FuncData} {ps : List Str} {p pos : Pos} (T : OexC X.K C) (iC : PySem.W.findIn X.K (.ref C) "__init__" = some (some (.ref fI))) (tI : PySem.W.typeIn X.K (.ref fI) = some (.type "function"))
    (F1 : FnOk X.prog X.w X.K X.mg X.base CX k fI fd ps (spErr0 C)) (hr : Room (k + 1) X.A) (hb : Binds X.K fd ps []) (hx : Passes CX X (fun _ _ _ => False)) (hg : Gl X x) (hm : X.mg x = some (.ref C))
    (hdb : (x == ("__debug__" : Str)) = false := by decide) : PMk X (.Call (.Name x p) [] [] pos) (fun _ H Q => Q (.ref C) none H) := by
  intro pins s σ H Q I h
  obtain ⟨nm, q, N, bs, bm, sn, sub, ab, col, dd, k0, k1, k2, k3, k5, hC, hbm⟩ := T.cls
  refine wpAny_Call_Name_kw (ld_glob I hg hm ?_ hdb)
  refine PySem.W.callWith_K0 I.kIn T.kC ?_
  show wpAny _ _ (call (.ref C) []) _ _ _
  obtain ⟨hp, g, dr, tk, os⟩ := s
  have hsz : hp.objs.size ≤ hp.objs.size + 1 := Nat.le_succ _
  have kk : ∀ b o, hp.get? b = some o → ((hp.push (PySem.W.kdv_tup [])).push (PySem.HandSPX.excO C hp.objs.size)).get? b = some o := fun b o e => Heap.get?_push_of_some _ (Heap.get?_push_of_some _ e)
  have there : ((hp.push (PySem.W.kdv_tup [])).push (PySem.HandSPX.excO C hp.objs.size)).get? (hp.objs.size + 1) = some (PySem.HandSPX.excO C hp.objs.size) := by heap_get
  have I2 : Inv X pins σ (upd H (hp.objs.size + 1) (exo (hp.objs.size + 1) C none)) ⟨(hp.push (PySem.W.kdv_tup [])).push (PySem.HandSPX.excO C hp.objs.size), g, dr, tk, os⟩ :=
    I.laid (t' := tk) (a := hp.objs.size + 1) (o := exo (hp.objs.size + 1) C none) (h' := (hp.push (PySem.W.kdv_tup [])).push (PySem.HandSPX.excO C hp.objs.size)) kk hsz (exo_ok there)
  have hq : spErr0 C [V.ref (hp.objs.size + 1)] (upd H (hp.objs.size + 1) (exo (hp.objs.size + 1) C none)) (fun v H2 => v = .non ∧ H2 = upd H (hp.objs.size + 1) (exo (hp.objs.size + 1) C none)) (fun _ _ _ => False) := ⟨_, rfl, upd_same, rfl, rfl⟩
  have r2 : Vals [V.ref (hp.objs.size + 1)] [Value.ref (hp.objs.size + 1)] := .cons rfl .nil
  have hl : ([Value.ref (hp.objs.size + 1)] ++ []).length = ps.length := (F1.len _ _ _ _ hq)
  refine wpAny_call (PySem.HandSPX.call_own F.excBase_ValueError (fun Y => PySem.HandSPX.refsVE_contains Y bm hbm) (I.kIn _ _ hC) (PySem.W.looks_findIn I.kIn iC) (fun self => PySem.W.bind_fn I.kIn self tI) (Nat.zero_le _)
    (codeAny_mono (F1.run _ X.stack _ _ ⟨[Value.ref (hp.objs.size + 1)], []⟩ [Value.ref (hp.objs.size + 1)] _ _ (fun _ _ _ => False) (hr.make C [] []) (I2.env0.make C [] []) (hb _ [Value.ref (hp.objs.size + 1)] I2.kIn hl) r2 hq) fun r s' hq' => ?_))
  cases r with
  | error er => exact hx pins σ _ _ er s' I2 hq'
  | ok fl =>
    cases fl with
    | ret u =>
      obtain ⟨v, H2, os2, bare2, un2, hok2, rv, ev, e2⟩ := hq'
      subst ev
      subst e2
      obtain ⟨h2, g2, d2, t2, os'⟩ := s'
      obtain ⟨t0, G, J, kG, ge, hoe, na⟩ := bare_end (d2 := d2) (t2 := t2) I hsz kk un2 hok2 os2 bare2
      exact ⟨rv, _, _, _, ⟨G, g2, d2, t2, os'⟩, _, .ref C, none, rfl, J, kG, ge, hoe, ⟨rfl, rfl⟩, rfl, rfl, na, rfl, bare2, raises_own T.exC T.tyC, h⟩
    | next => exact False.elim hq'
    | brk => exact False.elim hq'
    | cont => exact False.elim hq'
/-- isinstance(e, c), e the error without a dict that the suite holds -/
def rIsX0 (K : PySem.W.Frag) (a : Addr) (cls : Value) (d : Option Addr) : List V → Hp → VK → Prop := fun xs H Q => ∃ (c : V) (cv : Value) (b : Bool) (D : Addr), xs = [.ref a, c] ∧ (∀ u, RelV c u → u = cv) ∧ cls = .ref D ∧ d = none ∧ ExcC K D ∧ PySem.W.kitOne K (.ref D) cv = some b ∧ Q (.bl b) H
theorem call_isX0 {X : Cx} {a : Addr} {oe : Obj} {cls : Value} {d : Option Addr} {pn : List (Addr × Obj)} (hz : Zc cls d oe) (hf : ∃ vs, oe.data = .fields vs) : CallR (X.suite a ((a, oe) :: pn)) (.builtin "isinstance") (rIsX0 X.K a cls d) := by
  intro pins s σ H xs us Q I r h
  obtain ⟨c, cv, b, D, e, hcv, rfl, rfl, C, k, q⟩ := h
  exact call_isE C hz hf pins s σ H xs us Q I r ⟨c, cv, b, e, hcv, k, q⟩
structure Er0 (P : Program) (w : World) (K : PySem.W.Frag) (mg : Str → Option Value) (base : Heap) (nm : Str) (C f : Addr) (fd : FuncData) (ps : List Str) : Prop where
  k : mg nm = some (.ref C)
  ox : OexC K C
  ic : PySem.W.findIn K (.ref C) "__init__" = some (some (.ref f))
  ti : PySem.W.typeIn K (.ref f) = some (.type "function")
  b : Binds K fd ps []
  G : FnOk P w K mg base (L2.CX P w) 1 f fd ps (spErr0 C)
end My

set_option Elab.async false
set_option linter.all false
set_option maxRecDepth 100000
set_option maxHeartbeats 4000000
/-! ### slices of mapped lists -/
namespace My
open PySem L2
theorem cut_ij {α : Type} {f : α → V} {ts : List α} {i j : Nat} (h : i ≤ j) : cutV (ts.map f) (some (i : Int)) (some (j : Int)) = ((ts.drop i).take (j - i)).map f := by
  unfold cutV
  rw [HT.sIx_nat, HT.sIx_nat, List.length_map, ← List.map_drop, ← List.map_take]
  congr 1
  rcases Nat.le_total i ts.length with z | z
  · rw [Nat.min_eq_left z]
    rcases Nat.le_total j ts.length with z2 | z2
    · rw [Nat.min_eq_left z2]
    · rw [Nat.min_eq_right z2, List.take_of_length_le (by rw [List.length_drop]; omega), List.take_of_length_le (by rw [List.length_drop]; omega)]
  · rw [Nat.min_eq_right z, List.drop_length, List.drop_of_length_le z]; simp
theorem cut_0j {α : Type} {f : α → V} {ts : List α} {j : Nat} : cutV (ts.map f) none (some (j : Int)) = (ts.take j).map f := by
  have := cut_ij (f := f) (ts := ts) (Nat.zero_le j)
  rw [List.drop_zero, Nat.sub_zero] at this
  exact this
theorem cut_i {α : Type} {f : α → V} {ts : List α} {i : Nat} : cutV (ts.map f) (some (i : Int)) none = (ts.drop i).map f := by
  unfold cutV
  rw [HT.sIx_nat, ← List.map_drop, ← List.map_take]
  congr 1
  show (ts.drop (min i (ts.map f).length)).take ((ts.map f).length - _) = _
  rw [List.length_map]
  rcases Nat.le_total i ts.length with z | z
  · rw [Nat.min_eq_left z, List.take_of_length_le (by rw [List.length_drop]; omega)]
  · rw [Nat.min_eq_right z, List.drop_length, List.drop_of_length_le z]; simp
end My

set_option Elab.async false
set_option linter.all false
set_option maxRecDepth 100000
set_option maxHeartbeats 4000000
/-! ### tuples that stand; rows of related things; small loops -/
namespace My
open PySem L2 NdefX
theorem len_app (x y : Str) : (x ++ y).length = x.length + y.length := Array.size_append
theorem take_snoc {α : Type} {l : List α} {i : Nat} {x : α} (h : l[i]? = some x) : l.take (i + 1) = l.take i ++ [x] := by
  rw [List.take_add_one, h]; rfl
/-- tuples stand as they did -/
def Tp (H H' : Hp) : Prop := ∀ a xs, H a = some (.tup xs) → H' a = some (.tup xs)
theorem Tp.refl (H : Hp) : Tp H H := fun _ _ h => h
theorem Tp.trans {H H1 H2 : Hp} (a : Tp H H1) (b : Tp H1 H2) : Tp H H2 := fun c xs h => b c xs (a c xs h)
theorem Kp.tps {H H' : Hp} (k : Kp [] H H') : Tp H H' := fun a xs h => k a _ not0 h
theorem Tp.putN {H H' : Hp} {l : Addr} {o : HO} (t : Tp H H') (h : ∀ xs, H' l ≠ some (.tup xs)) : Tp H (upd H' l o) := fun a xs e => by
  have z : a ≠ l := fun z => h xs (by rw [← z]; exact t a xs e)
  rw [upd_ne z]; exact t a xs e
theorem Tp.putL {H H' : Hp} {l : Addr} {o : HO} {ys : List V} (t : Tp H H') (h : H' l = some (.lst ys)) : Tp H (upd H' l o) := t.putN fun xs z => by rw [h] at z; cases z
theorem Tp.putI {H H' : Hp} {l C dx : Addr} {o : HO} {fs : List (Str × V)} (t : Tp H H') (h : H' l = some (.ins C dx fs)) : Tp H (upd H' l o) := t.putN fun xs z => by rw [h] at z; cases z
theorem Tp.new {H H' : Hp} {l : Addr} {o : HO} (t : Tp H H') (h : H' l = none) : Tp H (upd H' l o) := t.putN fun xs z => by rw [h] at z; cases z
theorem Kp.tpsI {H H' : Hp} {o C dx : Addr} {fs : List (Str × V)} (k : Kp [o] H H') (h : H o = some (.ins C dx fs)) : Tp H H' := fun a xs e => k a _ (not1 fun z => by rw [z, h] at e; cases e) e
theorem Kp.tpsL {H H' : Hp} {o : Addr} {ys : List V} (k : Kp [o] H H') (h : H o = some (.lst ys)) : Tp H H' := fun a xs e => k a _ (not1 fun z => by rw [z, h] at e; cases e) e
/-- one by one related -/
structure Rw {α : Type} (R : V → α → Prop) (us : List V) (gs : List α) : Prop where
  len : us.length = gs.length
  get : ∀ {i : Nat} {u : V}, us[i]? = some u → ∃ g, gs[i]? = some g ∧ R u g
theorem Rw.nil {α : Type} {R : V → α → Prop} : Rw R [] [] := ⟨rfl, fun e => nomatch e⟩
theorem Rw.mono {α : Type} {R R' : V → α → Prop} {us : List V} {gs : List α} (h : Rw R us gs) (f : ∀ u g, R u g → R' u g) : Rw R' us gs := ⟨h.len, fun e => by
  obtain ⟨g, a, b⟩ := h.get e
  exact ⟨g, a, f _ _ b⟩⟩
theorem Rw.at {α : Type} {R : V → α → Prop} {us : List V} {gs : List α} (h : Rw R us gs) {i : Nat} {g : α} (e : gs[i]? = some g) : ∃ u, us[i]? = some u ∧ R u g := by
  have il : i < us.length := by rw [h.len]; exact (List.getElem?_eq_some_iff.mp e).1
  obtain ⟨g', a, b⟩ := h.get (List.getElem?_eq_getElem il)
  rw [e] at a; cases a
  exact ⟨_, List.getElem?_eq_getElem il, b⟩
theorem Rw.cons {α : Type} {R : V → α → Prop} {us : List V} {gs : List α} {u : V} {g : α} (h : R u g) (t : Rw R us gs) : Rw R (u :: us) (g :: gs) := ⟨by simp [t.len], fun {i x} e => by
  cases i with
  | zero => cases e; exact ⟨g, rfl, h⟩
  | succ i => exact t.get (i := i) e⟩
theorem Rw.app {α : Type} {R : V → α → Prop} {us vs : List V} {gs hs : List α} (a : Rw R us gs) (b : Rw R vs hs) : Rw R (us ++ vs) (gs ++ hs) := ⟨by simp [a.len, b.len], fun {i x} e => by
  rcases Nat.lt_or_ge i us.length with z | z
  · rw [List.getElem?_append_left z] at e
    rw [List.getElem?_append_left (by rw [← a.len]; exact z)]
    exact a.get e
  · rw [List.getElem?_append_right z] at e
    rw [List.getElem?_append_right (by rw [← a.len]; exact z), ← a.len]
    exact b.get e⟩
theorem Rw.snoc {α : Type} {R : V → α → Prop} {us : List V} {gs : List α} {u : V} {g : α} (t : Rw R us gs) (h : R u g) : Rw R (us ++ [u]) (gs ++ [g]) := t.app (.cons h .nil)
theorem Rw.take {α : Type} {R : V → α → Prop} {us : List V} {gs : List α} (h : Rw R us gs) (n : Nat) : Rw R (us.take n) (gs.take n) := ⟨by simp [h.len], fun {i x} e => by
  rcases Nat.lt_or_ge i n with z | z
  · rw [List.getElem?_take_of_lt z] at e ⊢
    exact h.get e
  · rw [List.getElem?_take, if_neg (by omega)] at e; cases e⟩
theorem Rw.set {α : Type} {R : V → α → Prop} {us : List V} {gs : List α} {u : V} {g : α} (h : Rw R us gs) (n : Nat) (r : R u g) : Rw R (us.set n u) (gs.set n g) := ⟨by simp [h.len], fun {i x} e => by
  rcases Nat.decEq n i with z | z
  · rw [List.getElem?_set_ne z] at e ⊢
    exact h.get e
  · subst z
    have hl := (List.getElem?_eq_some_iff.mp e).1
    rw [List.length_set] at hl
    rw [List.getElem?_set_self hl] at e
    cases e
    exact ⟨g, by rw [List.getElem?_set_self (by rw [← h.len]; exact hl)], r⟩⟩
theorem Rw.tail {α : Type} {R : V → α → Prop} {u : V} {us : List V} {g : α} {gs : List α} (h : Rw R (u :: us) (g :: gs)) : R u g ∧ Rw R us gs := by
  obtain ⟨g', e, r⟩ := h.get (i := 0) rfl
  cases e
  exact ⟨r, by have := h.len; simpa using this, fun {i x} e => h.get (i := i + 1) e⟩
theorem Rw.isNil {α : Type} {R : V → α → Prop} {us : List V} (h : Rw R us ([] : List α)) : us = [] := List.eq_nil_of_length_eq_zero h.len
theorem Rw.ex {α : Type} {R : V → α → Prop} {us : List V} {g : α} {gs : List α} (h : Rw R us (g :: gs)) : ∃ u r, us = u :: r ∧ R u g ∧ Rw R r gs := by
  cases us with
  | nil => cases h.len
  | cons u r => exact ⟨u, r, rfl, h.tail⟩
theorem Rw.last {α : Type} {R : V → α → Prop} {us : List V} {gi : List α} {g : α} (h : Rw R us (gi ++ [g])) : ∃ ui u, us = ui ++ [u] ∧ Rw R ui gi ∧ R u g := by
  have e : (gi ++ [g])[gi.length]? = some g := by simp
  obtain ⟨u, eu, r⟩ := h.at e
  have hl : us.length = gi.length + 1 := by rw [h.len]; simp
  refine ⟨us.take gi.length, u, ?_, ?_, r⟩
  · rw [← take_snoc eu, List.take_of_length_le (by omega)]
  · have := h.take gi.length
    rw [List.take_left' rfl] at this
    exact this
theorem ixN_last {n : Nat} : ixN (n + 1) (-1) = some n := by
  unfold ixN
  rw [if_neg (by decide), if_pos (by omega)]
  congr 1
  omega
theorem seqIx {n : Nat} {i : Int} (h0 : 0 ≤ i) (h : i < n) : seqIndex? i n = some i.toNat := by
  have e : (if i < 0 then i + (n : Int) else i) = i := if_neg (by omega)
  unfold seqIndex?
  simp only [e, h0, h, decide_true, Bool.and_true, if_true]
theorem perm_erase : ∀ (l : List Int) (k : Nat) (h : k < l.length), (l[k] :: l.eraseIdx k).Perm l
  | [], k, h => absurd h (Nat.not_lt_zero k)
  | a :: r, 0, h => List.Perm.refl _
  | a :: r, k + 1, h => by
    have h' : k < r.length := by simpa using h
    show (r[k] :: a :: r.eraseIdx k).Perm (a :: r)
    exact (List.Perm.swap a r[k] _).trans ((perm_erase r k h').cons a)
/-- v is a tracked tuple of the ints xs -/
def TI (H : Hp) (v : V) (xs : List Int) : Prop := ∃ a, v = .ref a ∧ H a = some (.tup (xs.map V.int))
theorem TI.tp {H H' : Hp} {v : V} {xs : List Int} (h : TI H v xs) (t : Tp H H') : TI H' v xs := by
  obtain ⟨a, e, h⟩ := h
  exact ⟨a, e, t _ _ h⟩
theorem TI.kp {H H' : Hp} {v : V} {xs : List Int} (h : TI H v xs) (t : Kp [] H H') : TI H' v xs := h.tp t.tps
theorem TI.dp {K : PySem.W.Frag} {H : Hp} {v : V} {xs : List Int} (h : TI H v xs) : Dp K H v (.tuple (xs.map PyData.int)) := by
  obtain ⟨a, rfl, h⟩ := h
  refine .tup (sq_t h) ?_
  clear h
  induction xs with
  | nil => exact .nil
  | cons x r ih => exact .cons (.int x) ih
theorem map_get {α : Type} {f : Int → α} {xs : List Int} {i : Nat} {x : α} (h : (xs.map f)[i]? = some x) : ∃ k, xs[i]? = some k ∧ x = f k := by
  rw [List.getElem?_map] at h
  cases e : xs[i]? with
  | none => rw [e] at h; cases h
  | some k => rw [e] at h; cases h; exact ⟨k, rfl, rfl⟩
theorem rwInts (xs : List Int) : Rw (fun v x => v = V.int x) (xs.map V.int) xs := ⟨by simp, fun e => by
  obtain ⟨k, e, h⟩ := map_get e
  exact ⟨k, e, h⟩⟩
theorem rwInts_eq {us : List V} {xs : List Int} (h : Rw (fun v x => v = V.int x) us xs) : us = xs.map V.int := by
  apply List.ext_getElem?
  intro i
  cases e : us[i]? with
  | none =>
    rw [List.getElem?_eq_none_iff] at e
    rw [List.getElem?_eq_none (by rw [List.length_map, ← h.len]; exact e)]
  | some u =>
    obtain ⟨x, ex, rfl⟩ := h.get e
    rw [List.getElem?_map, ex]; rfl
theorem inV_int {z : Int} : ∀ {ks : List Int}, inV (.int z) (ks.map V.int) = decide (z ∈ ks)
  | [] => rfl
  | k :: ks => by
    have e : inV (.int z) ((k :: ks).map V.int) = ((k == z) || inV (.int z) (ks.map V.int)) := rfl
    rw [e, inV_int (ks := ks)]
    by_cases h : k = z
    · rw [h, beq_self_eq_true, Bool.true_or, decide_eq_true List.mem_cons_self]
    · rw [beq_eq_false_iff_ne.mpr h, Bool.false_or]
      refine decide_eq_decide.mpr ⟨fun q => List.mem_cons_of_mem _ q, fun q => ?_⟩
      rcases List.mem_cons.mp q with q | q
      · exact absurd q.symm h
      · exact q
theorem flat_ints (ys : List Int) : (ys.map V.int).all flatV = true := by
  rw [List.all_map]
  exact List.all_eq_true.mpr fun _ _ => rfl
/-- int(x) -/
def rInt1 : List V → Hp → VK → Prop := fun xs H Q => (∃ i, xs = [V.int i] ∧ Q (V.int i) H) ∨ ∃ k, xs = [V.bl k] ∧ Q (V.int (if k = true then 1 else 0)) H
theorem rInt1_int {i : Int} {H : Hp} {Q : VK} : rInt1 [V.int i] H Q = Q (V.int i) H := by
  unfold rInt1
  simp
theorem rInt1_bl {k : Bool} {H : Hp} {Q : VK} : rInt1 [V.bl k] H Q = Q (V.int (if k = true then 1 else 0)) H := by
  unfold rInt1
  simp
theorem forRg {ta : TA} {g : TG} {tb : TS} {D : Ends} {σ : L2.St} {H : Hp} (m : Int) (Pv : Nat → L2.St → Hp → Prop) (ht : ∀ R : List V → Hp → Prop, R [.int m] H → ta σ H R) (h1 : -(2 ^ 62) ≤ m) (h2 : m < 2 ^ 62) (h0 : Pv 0 σ H)
    (step : ∀ j σ H, j < m.toNat → Pv j σ H → g (.int (0 + j)) σ H fun σ2 H2 => tb { D with nx := Pv (j + 1), ct := Pv (j + 1), bk := D.nx } σ2 H2) (fin : ∀ σ H, Pv m.toNat σ H → D.nx σ H) : tFor (iRng1 ta) g tb D σ H :=
  ht _ ⟨m, rfl, h1, h2, for_range Pv h0 step fin⟩
/-- .. by a count -/
theorem forN {ta : TA} {g : TG} {tb : TS} {D : Ends} {σ : L2.St} {H : Hp} (m : Nat) (hm : m ≤ 100000) (Pv : Nat → L2.St → Hp → Prop) (ht : ∀ R : List V → Hp → Prop, R [.int (m : Nat)] H → ta σ H R) (h0 : Pv 0 σ H)
    (step : ∀ j σ H, j < m → Pv j σ H → g (.int (j : Nat)) σ H fun σ2 H2 => tb { D with nx := Pv (j + 1), ct := Pv (j + 1), bk := D.nx } σ2 H2) (fin : ∀ σ H, Pv m σ H → D.nx σ H) : tFor (iRng1 ta) g tb D σ H :=
  forRg (m : Nat) Pv ht (by omega) (by omega) h0 (fun j σ H hj p => by rw [Int.zero_add]; exact step j σ H (by omega) p) fun σ H p => fin σ H (by rw [Int.toNat_natCast] at p; exact p)
theorem lcRgN {ta : TA} {g : TG} {tt : TT} {te : TE} {vs : List Nat} {σ : L2.St} {H : Hp} {Q : VK} (m : Nat) (hm : m ≤ 100000) (Pv : Addr → Nat → Hp → Prop) (ht : ∀ R : List V → Hp → Prop, R [.int (m : Nat)] H → ta σ H R) (h0 : ∀ o, H o = none → Pv o 0 (upd H o (.lst [])))
    (step : ∀ o i H', H o = none → i < m → Pv o i H' → g (.int (i : Nat)) (wipe σ vs) H' fun σ2 H2 => wipe σ2 vs = wipe σ vs ∧ tt σ2 H2 fun b H3 => if b = true then te σ2 H3 fun y H4 => ∃ acc, H4 o = some (.lst acc) ∧ acc.length < sizeLine ∧ Pv o (i + 1) (upd H4 o (.lst (acc ++ [y]))) else Pv o (i + 1) H3)
    (fin : ∀ o H', H o = none → Pv o m H' → Q (.ref o) H') : tLc (iRng1 ta) g tt te vs σ H Q :=
  ht _ ⟨(m : Nat), rfl, by omega, by omega, fun o no => lc_range (Pv o) (h0 o no) (fun i H' hi p => by rw [Int.zero_add]; exact step o i H' no (by omega) p) fun H' p => fin o H' no (by rw [Int.toNat_natCast] at p; exact p)⟩
/-- [f(k) for k in range(m)], each item told by its number -/
theorem lcRgF {α : Type} {ta : TA} {j : Nat} {te : TE} {σ : L2.St} {H : Hp} {Q : VK} (m : Nat) (hm : m ≤ 100000) (R : Hp → V → α → Prop) (f : Nat → α) (mono : ∀ H H' v x, Tp H H' → R H v x → R H' v x) (hj : j < σ.length) (ht : ∀ R : List V → Hp → Prop, R [.int (m : Nat)] H → ta σ H R)
    (body : ∀ (i : Nat) H' (Q' : VK), i < m → Kp [] H H' → (∀ v H2, R H2 v (f i) → Kp [] H' H2 → Q' v H2) → te ((wipe σ [j]).set j (some (.int (i : Nat)))) H' Q')
    (fin : ∀ o us H', H o = none → H' o = some (.lst us) → Rw (R H') us ((List.range m).map f) → Kp [] H H' → Q (.ref o) H') : tLc (iRng1 ta) (gName j) tYes te [j] σ H Q :=
  lcRgN m hm (fun o i H' => ∃ us, H' o = some (.lst us) ∧ Rw (R H') us ((List.range i).map f) ∧ Kp [] H H') ht (fun o no => ⟨[], upd_same, .nil, Kp.new no⟩) (fun o i H' no hi ⟨us, ho, hr, k⟩ => by
    refine ⟨by simp [wipe], ?_⟩
    simp only [tYes, if_true]
    refine body i H' _ hi k fun v H2 hv k2 => ?_
    have ho2 := k2 _ _ not0 ho
    have tp2 : Tp H' (upd H2 o (.lst (us ++ [v]))) := k2.tps.putL ho2
    have tp3 : Tp H2 (upd H2 o (.lst (us ++ [v]))) := (Tp.refl H2).putL ho2
    refine ⟨us, ho2, smallL (by have := hr.len; rw [this, List.length_map, List.length_range]; omega), us ++ [v], upd_same, ?_, (k.trans k2).wr no⟩
    rw [List.range_succ, List.map_append]
    exact (hr.mono fun u g r => mono _ _ _ _ tp2 r).snoc (mono _ _ _ _ tp3 hv)) fun o H' no ⟨us, ho, hr, k⟩ => fin o us H' no ho hr k
/-- [x for x in t if b(x)], t a tuple of ints -/
theorem lcFilt {K : PySem.W.Frag} {tv : TE} {j : Nat} {tt : TT} {te : TE} {σ : L2.St} {H : Hp} {Q : VK} {a : Addr} {xs : List Int} (b : Int → Bool) (hv : ∀ R : VK, R (.ref a) H → tv σ H R) (ha : SqT K H a (xs.map V.int)) (hl : xs.length ≤ 1000) (hj : j < σ.length)
    (test : ∀ x H' (R : Bool → Hp → Prop), x ∈ xs → Kp [] H H' → R (b x) H' → tt ((wipe σ [j]).set j (some (.int x))) H' R)
    (elt : ∀ x H' (R : VK), R (.int x) H' → te ((wipe σ [j]).set j (some (.int x))) H' R)
    (fin : ∀ D H', H D = none → H' D = some (.lst ((xs.filter b).map V.int)) → Kp [] H H' → Q (.ref D) H') :
    tLc (iTup K tv) (gName j) tt te [j] σ H Q := by
  unfold tLc iTup
  refine hv _ ⟨a, rfl, ⟨_, ha⟩, fun D nD => ?_⟩
  refine lc_tup (xs := xs.map V.int) (fun i H' => H' D = some (.lst (((xs.take i).filter b).map V.int)) ∧ Kp [] H H') ⟨upd_same, Kp.new nD⟩ (fun i H' _ h => h.2.tp not0 ha) (fun i x H' hx h => ?_) fun H' h => ?_
  · obtain ⟨k, ek, rfl⟩ := map_get hx
    obtain ⟨hD, kp⟩ := h
    refine ⟨by simp [wipe], ?_⟩
    refine test k H' _ (List.mem_of_getElem? ek) kp ?_
    cases hb : b k with
    | true =>
      rw [if_pos rfl]
      refine elt k H' _ ⟨_, hD, ?_, ?_, kp.wr nD⟩
      · rw [List.length_map]
        have := List.length_filter_le b (xs.take i)
        rw [List.length_take] at this
        exact smallL (by omega)
      · rw [upd_same, take_snoc ek, List.filter_append]
        simp [hb]
    | false =>
      rw [if_neg (by simp)]
      refine ⟨?_, kp⟩
      rw [take_snoc ek, List.filter_append]
      simpa [hb] using hD
  · obtain ⟨hD, kp⟩ := h
    rw [List.length_map, List.take_length] at hD
    exact fin D H' nD hD kp
/-- [f(x) for x in t], t a tuple -/
theorem lcMapT {α β : Type} {K : PySem.W.Frag} {tv : TE} {j : Nat} {te : TE} {σ : L2.St} {H : Hp} {Q : VK} {a : Addr} {us : List V} {gs : List α} {R : Hp → V → α → Prop} (mono : ∀ H H' v x, Tp H H' → R H v x → R H' v x) (f : α → β) (put : β → V) (hv : ∀ R : VK, R (.ref a) H → tv σ H R) (ha : SqT K H a us) (hr : Rw (R H) us gs) (hl : gs.length ≤ 1000) (hj : j < σ.length)
    (elt : ∀ v x H' (Q' : VK), x ∈ gs → R H' v x → Kp [] H H' → (∀ H2, Kp [] H' H2 → Q' (put (f x)) H2) → te ((wipe σ [j]).set j (some v)) H' Q')
    (fin : ∀ D H', H D = none → H' D = some (.lst (gs.map fun x => put (f x))) → Kp [] H H' → Q (.ref D) H') :
    tLc (iTup K tv) (gName j) tYes te [j] σ H Q := by
  unfold tLc iTup
  refine hv _ ⟨a, rfl, ⟨_, ha⟩, fun D nD => ?_⟩
  refine lc_tup (xs := us) (fun i H' => H' D = some (.lst ((gs.take i).map fun x => put (f x))) ∧ Kp [] H H') ⟨upd_same, Kp.new nD⟩ (fun i H' _ h => h.2.tp not0 ha) (fun i x H' hx h => ?_) fun H' h => ?_
  · obtain ⟨g, eg, hg⟩ := hr.get hx
    obtain ⟨hD, kp⟩ := h
    refine ⟨by simp [wipe], ?_⟩
    simp only [tYes, if_true]
    refine elt x g H' _ (List.mem_of_getElem? eg) (mono _ _ _ _ kp.tps hg) kp fun H2 k2 => ?_
    refine ⟨_, k2 _ _ not0 hD, ?_, ?_, (kp.trans k2).wr nD⟩
    · rw [List.length_map, List.length_take]; exact smallL (by omega)
    · rw [upd_same, take_snoc eg, List.map_append]; rfl
  · obtain ⟨hD, kp⟩ := h
    rw [hr.len, List.take_length] at hD
    exact fin D H' nD hD kp
/-- [f(x) for x in l], l a list -/
theorem lcMapL {α β : Type} {K : PySem.W.Frag} {tv : TE} {j : Nat} {te : TE} {σ : L2.St} {H : Hp} {Q : VK} {a : Addr} {us : List V} {gs : List α} {R : Hp → V → α → Prop} (mono : ∀ H H' v x, Tp H H' → R H v x → R H' v x) (f : α → β) (put : β → V) (hv : ∀ R : VK, R (.ref a) H → tv σ H R) (ha : SqL K H a us) (hr : Rw (R H) us gs) (hl : gs.length ≤ 1000) (hj : j < σ.length)
    (elt : ∀ v x H' (Q' : VK), x ∈ gs → R H' v x → Kp [] H H' → (∀ H2, Kp [] H' H2 → Q' (put (f x)) H2) → te ((wipe σ [j]).set j (some v)) H' Q')
    (fin : ∀ D H', H D = none → H' D = some (.lst (gs.map fun x => put (f x))) → Kp [] H H' → Q (.ref D) H') :
    tLc (iList K tv) (gName j) tYes te [j] σ H Q := by
  unfold tLc iList
  refine hv _ ⟨a, rfl, ⟨_, ha⟩, fun D nD => ?_⟩
  refine lc_list (xs := us) (fun i H' => H' D = some (.lst ((gs.take i).map fun x => put (f x))) ∧ Kp [] H H') ⟨upd_same, Kp.new nD⟩ (fun i H' _ h => h.2.ls not0 ha) (fun i x H' hx h => ?_) fun H' h => ?_
  · obtain ⟨g, eg, hg⟩ := hr.get hx
    obtain ⟨hD, kp⟩ := h
    refine ⟨by simp [wipe], ?_⟩
    simp only [tYes, if_true]
    refine elt x g H' _ (List.mem_of_getElem? eg) (mono _ _ _ _ kp.tps hg) kp fun H2 k2 => ?_
    refine ⟨_, k2 _ _ not0 hD, ?_, ?_, (kp.trans k2).wr nD⟩
    · rw [List.length_map, List.length_take]; exact smallL (by omega)
    · rw [upd_same, take_snoc eg, List.map_append]; rfl
  · obtain ⟨hD, kp⟩ := h
    rw [hr.len, List.take_length] at hD
    exact fin D H' nD hD kp
/-- [f(x) for x in t], t a list; the results related -/
theorem lcRelL {α β : Type} {K : PySem.W.Frag} {tv : TE} {j : Nat} {te : TE} {σ : L2.St} {H : Hp} {Q : VK} {a : Addr} {us : List V} {gs : List α} {R : Hp → V → α → Prop} {R2 : Hp → V → β → Prop} (mono : ∀ H H' v x, Tp H H' → R H v x → R H' v x) (mono2 : ∀ H H' v x, Tp H H' → R2 H v x → R2 H' v x) (f : α → β) (hv : ∀ R : VK, R (.ref a) H → tv σ H R) (ha : SqL K H a us) (hr : Rw (R H) us gs) (hl : gs.length ≤ 1000) (hj : j < σ.length)
    (elt : ∀ v x H' (Q' : VK), x ∈ gs → R H' v x → Kp [] H H' → (∀ v' H2, R2 H2 v' (f x) → Kp [] H' H2 → Q' v' H2) → te ((wipe σ [j]).set j (some v)) H' Q')
    (fin : ∀ D ws H', H D = none → H' D = some (.lst ws) → Rw (R2 H') ws (gs.map f) → Kp [] H H' → Q (.ref D) H') :
    tLc (iList K tv) (gName j) tYes te [j] σ H Q := by
  unfold tLc iList
  refine hv _ ⟨a, rfl, ⟨_, ha⟩, fun D nD => ?_⟩
  refine lc_list (xs := us) (fun i H' => ∃ ws, H' D = some (.lst ws) ∧ Rw (R2 H') ws ((gs.take i).map f) ∧ Kp [] H H') ⟨[], upd_same, .nil, Kp.new nD⟩ (fun i H' _ h => by obtain ⟨_, _, _, k⟩ := h; exact k.ls not0 ha) (fun i x H' hx h => ?_) fun H' h => ?_
  · obtain ⟨g, eg, hg⟩ := hr.get hx
    obtain ⟨ws, hD, hw, kp⟩ := h
    refine ⟨by simp [wipe], ?_⟩
    simp only [tYes, if_true]
    refine elt x g H' _ (List.mem_of_getElem? eg) (mono _ _ _ _ kp.tps hg) kp fun v' H2 h2 k2 => ?_
    have hD2 := k2 _ _ not0 hD
    refine ⟨_, hD2, ?_, ws ++ [v'], upd_same, ?_, (kp.trans k2).wr nD⟩
    · rw [hw.len, List.length_map, List.length_take]; exact smallL (by omega)
    · rw [take_snoc eg, List.map_append]
      exact (hw.mono fun u g r => mono2 _ _ _ _ (k2.tps.putL hD2) r).snoc (mono2 _ _ _ _ ((Tp.refl H2).putL hD2) h2)
  · obtain ⟨ws, hD, hw, kp⟩ := h
    rw [hr.len, List.take_length] at hw
    exact fin D ws H' nD hD hw kp
theorem lc_src {K : PySem.W.Frag} {tv : TE} {g : TG} {tt : TT} {te : TE} {vs : List Nat} {σ : L2.St} {H : Hp} {Q : VK} (h : tv σ H fun v H1 => tLc (iList K (tC v)) g tt te vs σ H1 Q) : tLc (iList K tv) g tt te vs σ H Q := h
theorem lc_srcT {K : PySem.W.Frag} {tv : TE} {g : TG} {tt : TT} {te : TE} {vs : List Nat} {σ : L2.St} {H : Hp} {Q : VK} (h : tv σ H fun v H1 => tLc (iTup K (tC v)) g tt te vs σ H1 Q) : tLc (iTup K tv) g tt te vs σ H Q := h
def rTupOf (K : PySem.W.Frag) : List V → Hp → VK → Prop := fun xs H Q => ∃ p ys, xs = [V.ref p] ∧ ((SqL K H p ys ∧ ∀ l, H l = none → Q (.ref l) (upd H l (.tup ys))) ∨ (SqT K H p ys ∧ Q (.ref p) H))
theorem TI.make {H : Hp} {s : Addr} {xs : List Int} : TI (upd H s (.tup (xs.map V.int))) (.ref s) xs := ⟨s, rfl, upd_same⟩
/-- [k for k in range(m) if b(k)] -/
theorem lcRgFilt {ta : TA} {j : Nat} {tt : TT} {te : TE} {σ : L2.St} {H : Hp} {Q : VK} (m : Nat) (hm : m ≤ 1000) (b : Int → Bool) (hj : j < σ.length) (ht : ∀ R : List V → Hp → Prop, R [.int (m : Nat)] H → ta σ H R)
    (test : ∀ (i : Nat) H' (R : Bool → Hp → Prop), i < m → Kp [] H H' → (∀ H2, Kp [] H' H2 → R (b i) H2) → tt ((wipe σ [j]).set j (some (.int (i : Nat)))) H' R)
    (elt : ∀ (i : Nat) H' (R : VK), R (.int (i : Nat)) H' → te ((wipe σ [j]).set j (some (.int (i : Nat)))) H' R)
    (fin : ∀ D H', H D = none → H' D = some (.lst ((((List.range m).map fun i => ((i : Nat) : Int)).filter b).map V.int)) → Kp [] H H' → Q (.ref D) H') :
    tLc (iRng1 ta) (gName j) tt te [j] σ H Q :=
  lcRgN m (by omega) (fun o i H' => H' o = some (.lst ((((List.range i).map fun i => ((i : Nat) : Int)).filter b).map V.int)) ∧ Kp [] H H') ht (fun o no => ⟨upd_same, Kp.new no⟩) (fun o i H' no hi ⟨hD, kp⟩ => by
    refine ⟨by simp [wipe], ?_⟩
    refine test i H' _ hi kp fun H2 k2 => ?_
    have hD2 := k2 _ _ not0 hD
    cases hb : b i with
    | true =>
      rw [if_pos rfl]
      refine elt i H2 _ ⟨_, hD2, ?_, ?_, (kp.trans k2).wr no⟩
      · rw [List.length_map]
        have := List.length_filter_le b ((List.range i).map fun i => ((i : Nat) : Int))
        rw [List.length_map, List.length_range] at this
        exact smallL (by omega)
      · rw [upd_same, List.range_succ, List.map_append, List.filter_append]
        simp [hb]
    | false =>
      rw [if_neg (by simp)]
      refine ⟨?_, kp.trans k2⟩
      rw [List.range_succ, List.map_append, List.filter_append]
      simpa [hb] using hD2) fun o H' no ⟨hD, kp⟩ => fin o H' no hD kp
theorem forT_src {K : PySem.W.Frag} {te : TE} {g : TG} {tb : TS} {D : Ends} {σ : L2.St} {H : Hp} (h : te σ H fun v H1 => tFor (iTup K (tC v)) g tb D σ H1) : tFor (iTup K te) g tb D σ H := h
theorem forTC {K : PySem.W.Frag} {g : TG} {tb : TS} {D : Ends} {σ : L2.St} {H : Hp} {a : Addr} {xs : List V} (Pv : Nat → L2.St → Hp → Prop) (hS : SqT K H a xs) (h0 : Pv 0 σ H) (hl : ∀ j σ H, j ≤ xs.length → Pv j σ H → SqT K H a xs)
    (hs : ∀ j x σ H, xs[j]? = some x → Pv j σ H → g x σ H fun σ2 H2 => tb { D with nx := Pv (j + 1), ct := Pv (j + 1), bk := D.nx } σ2 H2) (hd : ∀ σ H, Pv xs.length σ H → D.nx σ H) : tFor (iTup K (tC (.ref a))) g tb D σ H :=
  ⟨a, rfl, ⟨xs, hS⟩, for_tup Pv h0 hl hs hd⟩
theorem forN2 {ta : TA} {g : TG} {tb : TS} {D : Ends} {σ : L2.St} {H : Hp} (lo m : Nat) (hlo : lo ≤ 1000) (hm : m ≤ 100000) (Pv : Nat → L2.St → Hp → Prop) (ht : ∀ R : List V → Hp → Prop, (∀ H1, Kp [] H H1 → R [.int (lo : Nat), .int (m : Nat)] H1) → ta σ H R) (h0 : ∀ H1, Kp [] H H1 → Pv 0 σ H1)
    (step : ∀ j σ H, lo + j < m → Pv j σ H → g (.int ((lo + j : Nat) : Int)) σ H fun σ2 H2 => tb { D with nx := Pv (j + 1), ct := Pv (j + 1), bk := D.nx } σ2 H2) (fin : ∀ σ H, Pv (m - lo) σ H → D.nx σ H) : tFor (iRng2 ta) g tb D σ H :=
  ht _ fun H1 k1 => ⟨(lo : Nat), (m : Nat), rfl, ⟨by omega, by omega, by omega, by omega⟩, for_range (lo := (lo : Nat)) (n := ((m : Int) - (lo : Nat)).toNat) Pv (h0 H1 k1) (fun j σ H hj p => by
    have e : ((lo : Nat) : Int) + (j : Nat) = ((lo + j : Nat) : Int) := by omega
    rw [e]
    exact step j σ H (by omega) p) fun σ H p => fin σ H (by
      have e : ((m : Int) - (lo : Nat)).toNat = m - lo := by omega
      rw [e] at p; exact p)⟩
/-- [e for k in range(m)], of each item a fact -/
theorem lcRgE {α : Type} {ta : TA} {j : Nat} {te : TE} {σ : L2.St} {H : Hp} {Q : VK} (m : Nat) (hm : m ≤ 100000) (R : Hp → V → α → Prop) (G : α → Prop) (mono : ∀ H H' v x, Tp H H' → R H v x → R H' v x) (hj : j < σ.length) (ht : ∀ R : List V → Hp → Prop, R [.int (m : Nat)] H → ta σ H R)
    (body : ∀ (i : Nat) H' (Q' : VK), i < m → Kp [] H H' → (∀ v g H2, R H2 v g → G g → Kp [] H' H2 → Q' v H2) → te ((wipe σ [j]).set j (some (.int (i : Nat)))) H' Q')
    (fin : ∀ o us gs H', H o = none → H' o = some (.lst us) → Rw (R H') us gs → gs.length = m → (∀ g ∈ gs, G g) → Kp [] H H' → Q (.ref o) H') : tLc (iRng1 ta) (gName j) tYes te [j] σ H Q :=
  lcRgN m hm (fun o i H' => ∃ us gs, H' o = some (.lst us) ∧ Rw (R H') us gs ∧ gs.length = i ∧ (∀ g ∈ gs, G g) ∧ Kp [] H H') ht (fun o no => ⟨[], [], upd_same, .nil, rfl, (fun g h => nomatch h), Kp.new no⟩) (fun o i H' no hi ⟨us, gs, ho, hr, gl, hg, k⟩ => by
    refine ⟨by simp [wipe], ?_⟩
    simp only [tYes, if_true]
    refine body i H' _ hi k fun v g H2 hv gg k2 => ?_
    have ho2 := k2 _ _ not0 ho
    refine ⟨us, ho2, smallL (by have := hr.len; omega), us ++ [v], gs ++ [g], upd_same, (hr.mono fun u g r => mono _ _ _ _ (k2.tps.putL ho2) r).snoc (mono _ _ _ _ ((Tp.refl H2).putL ho2) hv), by simp [gl], fun x hx => ?_, (k.trans k2).wr no⟩
    rcases List.mem_append.mp hx with hx | hx
    · exact hg x hx
    · rw [List.mem_singleton.mp hx]; exact gg) fun o H' no ⟨us, gs, ho, hr, gl, hg, k⟩ => fin o us gs H' no ho hr gl hg k
/-- a walk of a tuple that stands -/
theorem it_tup {K : PySem.W.Frag} {a : Addr} {xs : List V} {W0 : Hp → Prop} (Pv : Nat → Hp → Prop) {H : Hp} (h0 : Pv 0 H) {Nx : Hp → Prop} {Body : V → Hp → (Hp → Prop) → Prop} (hl : ∀ i H', Pv i H' → SqT K H' a xs)
    (step : ∀ i x H', xs[i]? = some x → Pv i H' → Body x H' (Pv (i + 1))) (fin : ∀ H', Pv xs.length H' → Nx H') : ∃ W : Nat → Nat → Hp → Prop, (∃ k, W 0 k H) ∧ ∀ i k H, W i k H →
  ((Itt K a).stop i H ∧ Nx H) ∨ ((Itt K a).go i H ∧ ∃ N2 : Hp → Prop, (∀ H', N2 H' → ∃ m', m' < k ∧ W (i + 1) m' H') ∧ ∀ x H', (Itt K a).yld i H x H' → Body x H' N2) := by
  refine ⟨fun i k H => k = xs.length - i ∧ i ≤ xs.length ∧ Pv i H, ⟨xs.length, rfl, Nat.zero_le _, h0⟩, ?_⟩
  rintro i k H ⟨rfl, hi, p⟩
  have q := hl i H p
  by_cases lt : i < xs.length
  · refine .inr ⟨⟨xs, xs[i], q, by simp [lt]⟩, Pv (i + 1), fun H' p' => ⟨xs.length - (i + 1), by omega, rfl, lt, p'⟩, fun x H' y => ?_⟩
    obtain ⟨e, y⟩ := y
    subst e
    exact step i x _ (y xs q) p
  · have e : i = xs.length := by omega
    subst e
    exact .inl ⟨⟨xs, q, Nat.le_refl _⟩, fin H p⟩
theorem flat_take {gs : List (List Int)} {i : Nat} {g : List Int} (e : gs[i]? = some g) : (gs.take (i + 1)).flatten = (gs.take i).flatten ++ g := by
  rw [take_snoc e, List.flatten_append, List.flatten_singleton]
theorem flat_le (gs : List (List Int)) (i : Nat) : (gs.take i).flatten.length ≤ gs.flatten.length := by
  have e : (gs.take i ++ gs.drop i).flatten.length = gs.flatten.length := by rw [List.take_append_drop]
  rw [List.flatten_append, List.length_append] at e
  omega
/-- [x for g in t for x in g], t a tuple of tuples of ints -/
theorem lcFlat {K : PySem.W.Frag} {tv : TE} {p q : Nat} {σ : L2.St} {H : Hp} {Q : VK} {a : Addr} {us : List V} {gs : List (List Int)} (hv : ∀ R : VK, R (.ref a) H → tv σ H R) (ha : SqT K H a us) (hr : Rw (TI H) us gs) (hl : gs.flatten.length ≤ 1000) (hp : p < σ.length) (hq : q < σ.length) (pq : p ≠ q)
    (fin : ∀ D H', H D = none → H' D = some (.lst (gs.flatten.map V.int)) → Kp [] H H' → Q (.ref D) H') :
    tLc2 (iTup K tv) (gName p) tYes (iTup K (tVar p)) (gName q) tYes (tVar q) [p, q] [q] σ H Q := by
  unfold tLc2 iTup
  refine hv _ ⟨a, rfl, ⟨_, ha⟩, fun D nD => ?_⟩
  have w1 : ∀ x, wipe ((wipe σ [p, q]).set p (some x)) [p, q] = wipe σ [p, q] := fun x => by
    apply List.ext_getElem?
    intro n
    simp only [wipe, List.getElem?_set, List.length_set]
    by_cases h1 : p = n <;> by_cases h2 : q = n <;> simp [h1, h2]
  refine it_tup (K := K) (a := a) (xs := us) (W0 := fun _ => True) (Body := fun x H' N => gName p x (wipe σ [p, q]) H' fun σ2 H2 => wipe σ2 [p, q] = wipe σ [p, q] ∧ tYes σ2 H2 fun b H3 => if b = true then tLcIn (iTup K (tVar p)) (gName q) tYes (tVar q) [q] D σ2 H3 N else N H3)
    (fun i H' => H' D = some (.lst ((gs.take i).flatten.map V.int)) ∧ Kp [] H H') ⟨upd_same, Kp.new nD⟩ (fun i H' h => h.2.tp not0 ha) (fun i x H' hx h => ?_) fun H' h => ?_
  · obtain ⟨g, eg, b, rfl, hb⟩ := hr.get hx
    obtain ⟨hD, kp⟩ := h
    refine ⟨w1 _, ?_⟩
    simp only [tYes, if_true]
    have hb' := kp _ _ not0 hb
    refine ⟨.ref b, ?_, b, rfl, ⟨_, sq_t hb'⟩, ?_⟩
    · show ((wipe σ [p, q]).set p (some (.ref b)))[p]? = _
      rw [List.getElem?_set_self (by rw [wipe_length]; exact hp)]
    have fl := flat_le gs (i + 1)
    rw [flat_take eg, List.length_append] at fl
    refine it_tup (K := K) (a := b) (xs := g.map V.int) (W0 := fun _ => True) (Body := fun x H' N => gName q x (wipe ((wipe σ [p, q]).set p (some (.ref b))) [q]) H' fun σ2 H2 => wipe σ2 [q] = wipe ((wipe σ [p, q]).set p (some (.ref b))) [q] ∧ tYes σ2 H2 fun b H3 => if b = true then tVar q σ2 H3 fun y H4 => ∃ acc, H4 D = some (.lst acc) ∧ acc.length < sizeLine ∧ N (upd H4 D (.lst (acc ++ [y]))) else N H3)
      (fun j H2 => H2 D = some (.lst (((gs.take i).flatten ++ g.take j).map V.int)) ∧ Kp [] H H2) ⟨by rw [List.take_zero, List.append_nil]; exact hD, kp⟩ (fun j H2 h => sq_t (h.2 _ _ not0 (by exact hb))) (fun j x H2 hx2 h => ?_) fun H2 h => ?_
    · obtain ⟨k, ek, rfl⟩ := map_get hx2
      obtain ⟨hD2, kp2⟩ := h
      refine ⟨by simp [wipe], ?_⟩
      simp only [if_true]
      refine ⟨.int k, ?_, _, hD2, ?_, ?_, kp2.wr nD⟩
      · rw [List.getElem?_set_self (by rw [wipe_length, List.length_set, wipe_length]; exact hq)]
      · rw [List.length_map, List.length_append, List.length_take]; exact smallL (by omega)
      · rw [upd_same, take_snoc ek]; simp
    · obtain ⟨hD2, kp2⟩ := h
      rw [List.length_map, List.take_length] at hD2
      exact ⟨by rw [flat_take eg]; exact hD2, kp2⟩
  · obtain ⟨hD, kp⟩ := h
    rw [hr.len, List.take_length] at hD
    exact fin D H' nD hD kp
/-- what stands of an own error with one field, and its __init__ -/
structure Er1 (P : Program) (w : World) (K : PySem.W.Frag) (mg : Str → Option Value) (base : Heap) (nm fld : Str) (C f : Addr) (fd : FuncData) (ps : List Str) (Pf : V → Prop) : Prop where
  k : mg nm = some (.ref C)
  ox : OexC K C
  ic : PySem.W.findIn K (.ref C) "__init__" = some (some (.ref f))
  ti : PySem.W.typeIn K (.ref f) = some (.type "function")
  b : Binds K fd ps []
  G : FnOk P w K mg base (L2.CX P w) 1 f fd ps (spErr1 C fld Pf)
theorem find_first {α : Type} {f : α → Bool} {l : List α} {i : Nat} {x : α} (e : l[i]? = some x) (hx : f x = true) (h : ∀ j y, j < i → l[j]? = some y → f y = false) : l.find? f = some x := by
  induction l generalizing i with
  | nil => cases e
  | cons a r ih =>
    cases i with
    | zero => cases e; rw [List.find?_cons, hx]
    | succ i =>
      rw [List.find?_cons, h 0 a (by omega) rfl]
      exact ih e fun j y hj ey => h (j + 1) y (by omega) ey
end My

set_option Elab.async false
set_option linter.all false
set_option maxRecDepth 100000
set_option maxHeartbeats 4000000
/-! ### methods and called objects within a try -/
namespace My
open PySem L2 StX PySem.Spec PyProof.Rows
def tMethT (C : Addr) (m : Str) (sp : Sp) (E : L2.St → XK) (ta : TE) (t : TA) : TE := fun σ H Q => ta σ H fun x H1 => ∃ a dx fs, x = .ref a ∧ H1 a = some (.ins C dx fs) ∧ fs.lookup m = none ∧ t σ H1 fun vs H2 => sp (.ref a :: vs) H2 Q (E σ)
section
variable {X : Cx} {CX : CXT} {C g : Addr} {fd : FuncData} {ps : List Str} {sp : Sp} {E : L2.St → XK} {k : Nat} {o e : Expr} {es : List Expr} {ta : TE} {t : TA} {pos apos : Pos} {m : Str} {f : Addr}
theorem pe_methT {pl : Sem Bool} (c : Cls X.K C) (hm : Meth X.K C m f) (F : FnOk X.prog X.w X.K X.mg X.base CX k f fd ps sp) (hr : Room k X.A) (hb : Binds X.K fd ps []) (hx : ∀ σ, PassesAt CX X σ (E σ)) (he : PE X o ta) (ha : PA X (e :: es) t)
    (hst : starEach (e :: es) X.env = (false, eval e X.env) :: starEach es X.env := by rfl) (hpl : (backTo pos (starEach es X.env)).any (·.1) = false := by rfl)
    (ht : eval (.Call (.Attribute o m apos) (e :: es) [] pos) X.env = (do
      let ov ← eval o X.env
      standAt apos.atName
      let (f, first) ← holding [ov] (getMethod ov m pl)
      callWith pos f first (backTo pos (starEach (e :: es) X.env)) (backToKw pos (keywordEach [] X.env))) := by rfl) :
    PE X (.Call (.Attribute o m apos) (e :: es) [] pos) (tMethT C m sp E ta t) := by
  refine ⟨fun pins s σ H Q I h => ?_⟩
  refine PySem.W.methodCall_KW (pl := pl) (thn (he.run pins s σ H _ I h) fun u s1 ⟨x, H1, I1, rx, a, dx, fs, ex, ea, l, q⟩ => ?_) ht
  subst ex
  obtain rfl : u = Value.ref a := rx
  refine getmeth_ok I1 ea c hm l ?_
  refine PySem.W.callWith_K (first := [.ref a]) (h₀ := X.base) I.ok.mod.kin hm.kp (thn (ha.run pos pins s1 σ H1 _ I1 q) fun us s2 ⟨vs, H2, I2, r, q2⟩ => ⟨I2.kIn, ?_⟩) hst hpl
  exact run_fnS (us := .ref a :: us) (vs := .ref a :: vs) F hr hb (hx σ) I2 (.cons rfl r) q2
def tCallOT (C : Addr) (sp : Sp) (E : L2.St → XK) (tf : TE) (t : TA) : TE := fun σ H Q => tf σ H fun y H1 => ∃ a, y = V.ref a ∧ t σ H1 fun vs H2 => (∃ dx fs, H2 a = some (.ins C dx fs)) ∧ sp (V.ref a :: vs) H2 Q (E σ)
theorem run_fnRS {pins : List (Addr × Obj)} {σ : L2.St} {H : Hp} {s : Shared} {f : Addr} {Q : VK} {E : L2.St → XK} {us : List Value} {vs : List V} (F : FnR X.prog X.w X.K X.mg X.base CX k f sp) (hr : Room k X.A) (hx : PassesAt CX X σ (E σ)) (I : Inv X pins σ H s) (r : Vals vs us) (h : sp vs H Q (E σ)) :
    codeAny (model X.prog X.w) X.A (.call (.ref f) ⟨us, []⟩) (fun r s' => match r with | .ok (.ret v) => EP X pins σ Q v s' | .ok _ => False | .error e => X.xe e s') s := by
  refine codeAny_mono (F X.A X.stack s H us vs Q (E σ) hr I.env0 r h) fun r s' hq => ?_
  cases r with
  | error e => exact hx pins H s e s' I hq
  | ok fl =>
    cases fl with
    | ret u => exact I.after hq
    | next => exact False.elim hq
    | brk => exact False.elim hq
    | cont => exact False.elim hq
theorem pe_callOT {fe : Expr} {tf : TE} (c : CallO X.K C g) (F : FnR X.prog X.w X.K X.mg X.base CX k g sp) (hr : Room k X.A) (hx : ∀ σ, PassesAt CX X σ (E σ)) (hf : PE X fe tf) (ha : PA X (e :: es) t)
    (ht : eval (.Call fe (e :: es) [] pos) X.env = (do callWith pos (← eval fe X.env) [] (backTo pos (starEach (e :: es) X.env)) (backToKw pos (keywordEach [] X.env))) := by rfl)
    (he : starEach (e :: es) X.env = (false, eval e X.env) :: starEach es X.env := by rfl) (hpl : (backTo pos (starEach es X.env)).any (·.1) = false := by rfl) : PE X (.Call fe (e :: es) [] pos) (tCallOT C sp E tf t) := by
  refine ⟨fun pins s σ H Q I h => ?_⟩
  refine Call_ (thn (hf.run pins s σ H _ I h) fun u s1 ⟨y, H1, I1, ry, a, ey, q⟩ => ?_) ht
  subst ey
  obtain rfl : u = Value.ref a := ry
  refine callO_with (thn (ha.run pos pins s1 σ H1 _ I1 q) fun us s2 ⟨vs, H2, I2, r, hi, q2⟩ => ?_) he hpl
  obtain ⟨ox, od, J, hd⟩ := insC_at I2 (.inr hi)
  exact ⟨⟨C, ox, od, J, hd⟩, wpAny_call (PySem.W.kco_code I2.kIn J hd c.at_ c.fn c.fi (run_fnRS (us := .ref a :: us) (vs := .ref a :: vs) F hr (hx σ) I2 (.cons rfl r) q2))⟩
end
end My

set_option Elab.async false
set_option linter.all false
set_option maxRecDepth 100000
set_option maxHeartbeats 4000000
namespace My
open PySem L2
def top (i : Nat) : Stmt := PySem.Challenge.pw_coretower_k04_paper_is_a_set_of_pairs.main.body.getD i (.Pass ⟨0, 0, 0, 0⟩)
def mtop (i j : Nat) : Stmt := match top i with
  | .ClassDef _ _ _ b _ _ _ _ _ _ _ => b.getD j (.Pass ⟨0, 0, 0, 0⟩)
  | _ => .Pass ⟨0, 0, 0, 0⟩
abbrev s_is_name : Stmt := top 9
theorem sc_is_name : FnScope ["value", "letter"] ["value"] (defScope s_is_name) := ⟨rfl, rfl, rfl, by decide +kernel, rfl, by decide +kernel, by decide +kernel⟩
abbrev s_is_below : Stmt := top 10
theorem sc_is_below : FnScope ["value", "bound"] ["value", "bound"] (defScope s_is_below) := ⟨rfl, rfl, rfl, by decide +kernel, rfl, by decide +kernel, by decide +kernel⟩
abbrev s_is_number : Stmt := top 11
theorem sc_is_number : FnScope ["value"] ["value"] (defScope s_is_number) := ⟨rfl, rfl, rfl, by decide +kernel, rfl, by decide +kernel, by decide +kernel⟩
abbrev s_is_deed : Stmt := top 12
theorem sc_is_deed : FnScope ["value", "caller", "word", "what"] ["value"] (defScope s_is_deed) := ⟨rfl, rfl, rfl, by decide +kernel, rfl, by decide +kernel, by decide +kernel⟩
abbrev s_is_visible : Stmt := top 13
theorem sc_is_visible : FnScope ["deed"] ["deed"] (defScope s_is_visible) := ⟨rfl, rfl, rfl, by decide +kernel, rfl, by decide +kernel, by decide +kernel⟩
def lets : Str := "abcdefghijklmnopqrstuvwxyz"
def lowC (c : Nat) : Bool := decide (97 ≤ c) && decide (c ≤ 122)
def nameS (z : Str) : Bool := decide (1 ≤ z.length) && (decide (z.length ≤ 8) && z.cps.toList.all lowC)
def nameD : PyData → Bool
  | .str z => nameS z
  | _ => false
def belowD (m : Int) : PyData → Bool
  | .int i => decide (0 ≤ i) && decide (i < m)
  | _ => false
mutual
def szD : PyData → Bool
  | .str z => decide (z.length ≤ 1000)
  | .tuple ds => szAll ds
  | .list ds => szAll ds
  | _ => true
def szAll : List PyData → Bool
  | [] => true
  | d :: ds => szD d && szAll ds
end
theorem szAll_mem : ∀ {ds : List PyData}, szAll ds = true → ∀ d ∈ ds, szD d = true
  | d :: ds, h, e, he => by
    have h' : (szD d && szAll ds) = true := h
    rw [Bool.and_eq_true] at h'
    rcases List.mem_cons.mp he with rfl | he
    · exact h'.1
    · exact szAll_mem h'.2 e he
structure Bt (mg : Str → Option Value) (tL t1 t2 : Tok) : Prop where
  b_isinstance : mg "isinstance" = none
  b_str : mg "str" = none
  b_int : mg "int" = none
  b_bool : mg "bool" = none
  b_tuple : mg "tuple" = none
  b_list : mg "list" = none
  b_len : mg "len" = none
  b_all : mg "all" = none
  c_LETTERS : mg "LETTERS" = some (.str lets tL)
/-- the promise of a test of data -/
def spD (pre : PyData → Prop) (f : PyData → Bool) : Sp := fun vs H Q _ => ∃ (v : V) (d : PyData), vs = [v] ∧ Dq H v d ∧ szD d = true ∧ pre d ∧ ∀ H', Kp [] H H' → Q (.bl (f d)) H'
def LowIn (z : Str) (D : Addr) (H : Hp) (i : Nat) (H' : Hp) : Prop := H' D = some (.lst ((z.cps.toList.take i).map fun c => V.bl (lowC c))) ∧ Kp [] H H'
theorem lets_mem (c : Nat) : decide (c ∈ lets.cps.toList) = lowC c := by
  have e : lets.cps.toList = (List.range 26).map (97 + ·) := by decide +kernel
  rw [e, Bool.eq_iff_iff, decide_eq_true_eq]
  unfold lowC
  rw [Bool.and_eq_true, decide_eq_true_eq, decide_eq_true_eq, List.mem_map]
  constructor
  · rintro ⟨i, hi, rfl⟩
    have := List.mem_range.mp hi
    omega
  · rintro ⟨h1, h2⟩
    exact ⟨c - 97, List.mem_range.mpr (by omega), by omega⟩
theorem all_take {α : Type} {f : α → Bool} {l : List α} : ((l.map fun c => f c).all id) = l.all f := by
  rw [List.all_map]; rfl
section
variable {P : Program} {w : World} {K : PySem.W.Frag} {mg : Str → Option Value} {base : Heap} {tL t1 t2 : Tok}
theorem ok_is_name {f : Addr} {fd : FuncData} (D : Df K mg "is_name" s_is_name ["value"] f fd) (T : Bt mg tL t1 t2) : FnOk P w K mg base CX0 1 f fd ["value"] (spD (fun _ => True) nameD) := by
  refine D.F.ok sc_is_name (fun vs H Q E h => ?_) (fun cdv A outer s H vs Q E hr h => ?_)
  · obtain ⟨a, m, rfl, _⟩ := h
    rfl
  · obtain ⟨v, d, rfl, hd, sz, _, q⟩ := h
    have hu := hu_of hr
    refine ⟨_, (pss_cons (ps_if (pt_not (pt_val (pe_callB (id := "isinstance") (r := rIsi K) call_isi (by rfl) T.b_isinstance (by decide +kernel) (pa_cons (pv 0) (pa_cons (pe_bltn (v := .ty "str") (by rfl) T.b_str (by decide +kernel) rfl) pa_nil))))) (pss_one (ps_ret pe_bl)) pss_nil)
      (pss_one (ps_ret (pe_and (pe_chain op_le op_le pe_int (pe_callB (id := "len") call_len_str (by rfl) T.b_len PySem.boot_len (pa_cons (pv 0) pa_nil)) pe_int) (pe_one (pe_callB (id := "all") (r := rAll K) (cr_all rfl) (by rfl) T.b_all (by decide +kernel) (pa_cons (pe_lc (own := [("letter", 1)]) (g := (gName 1)) (tt := tYes) rfl sc_is_name.nd (pi_str (pv 0)) (blkOk_by (N := ["value", "letter"]) (sc := defScope s_is_name) (by decide +kernel)) (fun _ _ _ _ _ => (pg_name (i := 1) sc_is_name.nd rfl (Or.inl rfl))) (fun _ _ _ _ _ => pts_nil) (fun _ _ _ _ _ => (pe_cmpR op_in_sign (pv 1) (pe_glob (v := .str lets) rfl T.c_LETTERS ⟨_, rfl⟩) (by rfl)))) pa_nil))))))), ?_⟩
    try simp (maxSteps := 1000000) only [tSeq, tIfS, tTest, tOp, tUn, tCB, tCons, tNil, tVar, tC, rI0, rI, rU, rEq, rNe, tRet, tRetN, tAsg, gName, gSub, tBM, tBM0, tNext, tB, tNot, tAnd, tOr, tIf, tCall, tDrop, tBreak, tCont, L2.start, tDGet, sDPut, tTup, tLst, tDNewK, tRevL, rCat, rAppend, rPop, rSetL, tAndV, tOrV, tNotV, tSl, tPart, tNoPart, tM1, gTup, gCons, gNil, cxK, cxnK, List.map_cons, List.map_nil, List.length_cons, List.length_nil, List.replicate, List.cons_append, List.nil_append, List.append_nil, List.set_cons_zero, List.set_cons_succ, List.getElem?_cons_zero, List.getElem?_cons_succ, Option.some.injEq, V.ref.injEq, V.int.injEq, V.str.injEq, V.bl.injEq, V.ty.injEq, exists_eq_left', exists_eq_left, exists_and_left, List.cons.injEq, and_true, true_and, sc_ii, sc_ss, sc_bb, sc_ni, sc_in, sc_is, sc_si, sc_nn, decide_true, decide_false, reduceCtorEq, Bool.false_eq_true, if_true, if_false, ite_true, ite_false, exists_const, eq_self, false_and, and_false, or_false, false_or, exists_false, Evl.rLenS, rSum, wipe, tYes, exists_eq, exists_eq', rIxL, rIxT, rIxS, exists_and_right, gt_iff_lt, not_true_eq_false, not_false_eq_true, Bool.not_true, Bool.not_false, decide_eq_true_eq, Nat.reduceSub, Nat.reduceAdd, List.append_assoc, tChain, tDIn, tDNotIn, sDDel, tAug, ipI, rInt1_int, rInt1_bl]
    refine isi_Dstr hd ?_
    try simp (maxSteps := 1000000) only [tSeq, tIfS, tTest, tOp, tUn, tCB, tCons, tNil, tVar, tC, rI0, rI, rU, rEq, rNe, tRet, tRetN, tAsg, gName, gSub, tBM, tBM0, tNext, tB, tNot, tAnd, tOr, tIf, tCall, tDrop, tBreak, tCont, L2.start, tDGet, sDPut, tTup, tLst, tDNewK, tRevL, rCat, rAppend, rPop, rSetL, tAndV, tOrV, tNotV, tSl, tPart, tNoPart, tM1, gTup, gCons, gNil, cxK, cxnK, List.map_cons, List.map_nil, List.length_cons, List.length_nil, List.replicate, List.cons_append, List.nil_append, List.append_nil, List.set_cons_zero, List.set_cons_succ, List.getElem?_cons_zero, List.getElem?_cons_succ, Option.some.injEq, V.ref.injEq, V.int.injEq, V.str.injEq, V.bl.injEq, V.ty.injEq, exists_eq_left', exists_eq_left, exists_and_left, List.cons.injEq, and_true, true_and, sc_ii, sc_ss, sc_bb, sc_ni, sc_in, sc_is, sc_si, sc_nn, decide_true, decide_false, reduceCtorEq, Bool.false_eq_true, if_true, if_false, ite_true, ite_false, exists_const, eq_self, false_and, and_false, or_false, false_or, exists_false, Evl.rLenS, rSum, wipe, tYes, exists_eq, exists_eq', rIxL, rIxT, rIxS, exists_and_right, gt_iff_lt, not_true_eq_false, not_false_eq_true, Bool.not_true, Bool.not_false, decide_eq_true_eq, Nat.reduceSub, Nat.reduceAdd, List.append_assoc, tChain, tDIn, tDNotIn, sDDel, tAug, ipI, rInt1_int, rInt1_bl]
    cases hd with
    | str z =>
      try simp (maxSteps := 1000000) only [tSeq, tIfS, tTest, tOp, tUn, tCB, tCons, tNil, tVar, tC, rI0, rI, rU, rEq, rNe, tRet, tRetN, tAsg, gName, gSub, tBM, tBM0, tNext, tB, tNot, tAnd, tOr, tIf, tCall, tDrop, tBreak, tCont, L2.start, tDGet, sDPut, tTup, tLst, tDNewK, tRevL, rCat, rAppend, rPop, rSetL, tAndV, tOrV, tNotV, tSl, tPart, tNoPart, tM1, gTup, gCons, gNil, cxK, cxnK, List.map_cons, List.map_nil, List.length_cons, List.length_nil, List.replicate, List.cons_append, List.nil_append, List.append_nil, List.set_cons_zero, List.set_cons_succ, List.getElem?_cons_zero, List.getElem?_cons_succ, Option.some.injEq, V.ref.injEq, V.int.injEq, V.str.injEq, V.bl.injEq, V.ty.injEq, exists_eq_left', exists_eq_left, exists_and_left, List.cons.injEq, and_true, true_and, sc_ii, sc_ss, sc_bb, sc_ni, sc_in, sc_is, sc_si, sc_nn, decide_true, decide_false, reduceCtorEq, Bool.false_eq_true, if_true, if_false, ite_true, ite_false, exists_const, eq_self, false_and, and_false, or_false, false_or, exists_false, Evl.rLenS, rSum, wipe, tYes, exists_eq, exists_eq', rIxL, rIxT, rIxS, exists_and_right, gt_iff_lt, not_true_eq_false, not_false_eq_true, Bool.not_true, Bool.not_false, decide_eq_true_eq, Nat.reduceSub, Nat.reduceAdd, List.append_assoc, tChain, tDIn, tDNotIn, sDDel, tAug, ipI, rInt1_int, rInt1_bl, isStrD]
      have zs : z.cps.toList.length = z.length := Array.length_toList
      have zl : z.length ≤ 1000 := of_decide_eq_true sz
      have q' : ∀ H', Kp [] H H' → Q (.bl (nameS z)) H' := q
      unfold nameS at q'
      refine ⟨small (by omega), ?_⟩
      by_cases h1 : 1 ≤ z.length
      · by_cases h8 : z.length ≤ 8
        · have e1 : (1 : Int) ≤ (z.length : Nat) := by omega
          have e8 : ((z.length : Nat) : Int) ≤ 8 := by omega
          rw [decide_eq_true h1, decide_eq_true h8] at q'
          rw [if_pos e1, if_pos e8]
          refine ⟨.str z, rfl, z, rfl, fun o no => lc_it walk_str (LowIn z o H) ⟨upd_same, Kp.new no⟩ (fun _ _ _ _ => True.intro) ?_ ?_⟩
          · rintro i x H1 H2 hi ⟨ho, kp⟩ ⟨rfl, c, hc, rfl⟩
            try simp (maxSteps := 1000000) only [tSeq, tIfS, tTest, tOp, tUn, tCB, tCons, tNil, tVar, tC, rI0, rI, rU, rEq, rNe, tRet, tRetN, tAsg, gName, gSub, tBM, tBM0, tNext, tB, tNot, tAnd, tOr, tIf, tCall, tDrop, tBreak, tCont, L2.start, tDGet, sDPut, tTup, tLst, tDNewK, tRevL, rCat, rAppend, rPop, rSetL, tAndV, tOrV, tNotV, tSl, tPart, tNoPart, tM1, gTup, gCons, gNil, cxK, cxnK, List.map_cons, List.map_nil, List.length_cons, List.length_nil, List.replicate, List.cons_append, List.nil_append, List.append_nil, List.set_cons_zero, List.set_cons_succ, List.getElem?_cons_zero, List.getElem?_cons_succ, Option.some.injEq, V.ref.injEq, V.int.injEq, V.str.injEq, V.bl.injEq, V.ty.injEq, exists_eq_left', exists_eq_left, exists_and_left, List.cons.injEq, and_true, true_and, sc_ii, sc_ss, sc_bb, sc_ni, sc_in, sc_is, sc_si, sc_nn, decide_true, decide_false, reduceCtorEq, Bool.false_eq_true, if_true, if_false, ite_true, ite_false, exists_const, eq_self, false_and, and_false, or_false, false_or, exists_false, Evl.rLenS, rSum, wipe, tYes, exists_eq, exists_eq', rIxL, rIxT, rIxS, exists_and_right, gt_iff_lt, not_true_eq_false, not_false_eq_true, Bool.not_true, Bool.not_false, decide_eq_true_eq, Nat.reduceSub, Nat.reduceAdd, List.append_assoc, tChain, tDIn, tDNotIn, sDDel, tAug, ipI, rInt1_int, rInt1_bl]
            refine ⟨c, rfl, _, ho, ?_, ?_, kp.wr no⟩
            · rw [List.length_map, List.length_take, zs]; exact smallL (by omega)
            · rw [upd_same, lets_mem, take_snoc (x := c) (by rw [← hc]; simp), List.map_append]; rfl
          · rintro H1 ⟨ho, kp⟩
            have q2 := q' H1 kp
            rw [← all_take] at q2
            refine ⟨_, z.cps.toList.map lowC, rfl, sq_l (ho.trans ?_), ?_⟩
            · rw [List.take_of_length_le (by simp), List.map_map]; rfl
            · simpa using q2
        · have e1 : (1 : Int) ≤ (z.length : Nat) := by omega
          have e8 : ¬ ((z.length : Nat) : Int) ≤ 8 := by omega
          rw [decide_eq_true h1, decide_eq_false h8] at q'
          rw [if_pos e1, if_neg e8]
          exact q' _ (Kp.refl _ _)
      · have e1 : ¬ (1 : Int) ≤ (z.length : Nat) := by omega
        rw [decide_eq_false h1] at q'
        rw [if_neg e1]
        exact q' _ (Kp.refl _ _)
    | _ => exact q H (Kp.refl _ _)

def spBelow : Sp := fun vs H Q _ => ∃ (v : V) (d : PyData) (m : Int), vs = [v, .int m] ∧ Dq H v d ∧ Q (.bl (belowD m d)) H
theorem ok_is_below {f : Addr} {fd : FuncData} (D : Df K mg "is_below" s_is_below ["value", "bound"] f fd) (T : Bt mg tL t1 t2) : FnOk P w K mg base CX0 1 f fd ["value", "bound"] spBelow := by
  refine D.F.ok sc_is_below (fun vs H Q E h => ?_) (fun cdv A outer s H vs Q E hr h => ?_)
  · obtain ⟨v, d, m, rfl, _⟩ := h
    rfl
  · obtain ⟨v, d, m, rfl, hd, q⟩ := h
    refine ⟨_, (pss_one (ps_ret (pe_and (pe_callB (id := "isinstance") (r := rIsi K) call_isi (by rfl) T.b_isinstance (by decide +kernel) (pa_cons (pv 0) (pa_cons (pe_bltn (v := .ty "int") (by rfl) T.b_int (by decide +kernel) rfl) pa_nil))) (pe_and (pe_not (pe_callB (id := "isinstance") (r := rIsi K) call_isi (by rfl) T.b_isinstance (by decide +kernel) (pa_cons (pv 0) (pa_cons (pe_bltn (v := .ty "bool") (by rfl) T.b_bool (by decide +kernel) rfl) pa_nil)))) (pe_one (pe_chain op_le op_lt pe_int (pv 0) (pv 1))))))), ?_⟩
    try simp (maxSteps := 1000000) only [tSeq, tIfS, tTest, tOp, tUn, tCB, tCons, tNil, tVar, tC, rI0, rI, rU, rEq, rNe, tRet, tRetN, tAsg, gName, gSub, tBM, tBM0, tNext, tB, tNot, tAnd, tOr, tIf, tCall, tDrop, tBreak, tCont, L2.start, tDGet, sDPut, tTup, tLst, tDNewK, tRevL, rCat, rAppend, rPop, rSetL, tAndV, tOrV, tNotV, tSl, tPart, tNoPart, tM1, gTup, gCons, gNil, cxK, cxnK, List.map_cons, List.map_nil, List.length_cons, List.length_nil, List.replicate, List.cons_append, List.nil_append, List.append_nil, List.set_cons_zero, List.set_cons_succ, List.getElem?_cons_zero, List.getElem?_cons_succ, Option.some.injEq, V.ref.injEq, V.int.injEq, V.str.injEq, V.bl.injEq, V.ty.injEq, exists_eq_left', exists_eq_left, exists_and_left, List.cons.injEq, and_true, true_and, sc_ii, sc_ss, sc_bb, sc_ni, sc_in, sc_is, sc_si, sc_nn, decide_true, decide_false, reduceCtorEq, Bool.false_eq_true, if_true, if_false, ite_true, ite_false, exists_const, eq_self, false_and, and_false, or_false, false_or, exists_false, Evl.rLenS, rSum, wipe, tYes, exists_eq, exists_eq', rIxL, rIxT, rIxS, exists_and_right, gt_iff_lt, not_true_eq_false, not_false_eq_true, Bool.not_true, Bool.not_false, decide_eq_true_eq, Nat.reduceSub, Nat.reduceAdd, List.append_assoc, tChain, tDIn, tDNotIn, sDDel, tAug, ipI, rInt1_int, rInt1_bl]
    refine isi_Dint hd ?_
    cases hd with
    | int i =>
      try simp (maxSteps := 1000000) only [tSeq, tIfS, tTest, tOp, tUn, tCB, tCons, tNil, tVar, tC, rI0, rI, rU, rEq, rNe, tRet, tRetN, tAsg, gName, gSub, tBM, tBM0, tNext, tB, tNot, tAnd, tOr, tIf, tCall, tDrop, tBreak, tCont, L2.start, tDGet, sDPut, tTup, tLst, tDNewK, tRevL, rCat, rAppend, rPop, rSetL, tAndV, tOrV, tNotV, tSl, tPart, tNoPart, tM1, gTup, gCons, gNil, cxK, cxnK, List.map_cons, List.map_nil, List.length_cons, List.length_nil, List.replicate, List.cons_append, List.nil_append, List.append_nil, List.set_cons_zero, List.set_cons_succ, List.getElem?_cons_zero, List.getElem?_cons_succ, Option.some.injEq, V.ref.injEq, V.int.injEq, V.str.injEq, V.bl.injEq, V.ty.injEq, exists_eq_left', exists_eq_left, exists_and_left, List.cons.injEq, and_true, true_and, sc_ii, sc_ss, sc_bb, sc_ni, sc_in, sc_is, sc_si, sc_nn, decide_true, decide_false, reduceCtorEq, Bool.false_eq_true, if_true, if_false, ite_true, ite_false, exists_const, eq_self, false_and, and_false, or_false, false_or, exists_false, Evl.rLenS, rSum, wipe, tYes, exists_eq, exists_eq', rIxL, rIxT, rIxS, exists_and_right, gt_iff_lt, not_true_eq_false, not_false_eq_true, Bool.not_true, Bool.not_false, decide_eq_true_eq, Nat.reduceSub, Nat.reduceAdd, List.append_assoc, tChain, tDIn, tDNotIn, sDDel, tAug, ipI, rInt1_int, rInt1_bl, isIntD]
      refine isi_int_bool ?_
      try simp (maxSteps := 1000000) only [tSeq, tIfS, tTest, tOp, tUn, tCB, tCons, tNil, tVar, tC, rI0, rI, rU, rEq, rNe, tRet, tRetN, tAsg, gName, gSub, tBM, tBM0, tNext, tB, tNot, tAnd, tOr, tIf, tCall, tDrop, tBreak, tCont, L2.start, tDGet, sDPut, tTup, tLst, tDNewK, tRevL, rCat, rAppend, rPop, rSetL, tAndV, tOrV, tNotV, tSl, tPart, tNoPart, tM1, gTup, gCons, gNil, cxK, cxnK, List.map_cons, List.map_nil, List.length_cons, List.length_nil, List.replicate, List.cons_append, List.nil_append, List.append_nil, List.set_cons_zero, List.set_cons_succ, List.getElem?_cons_zero, List.getElem?_cons_succ, Option.some.injEq, V.ref.injEq, V.int.injEq, V.str.injEq, V.bl.injEq, V.ty.injEq, exists_eq_left', exists_eq_left, exists_and_left, List.cons.injEq, and_true, true_and, sc_ii, sc_ss, sc_bb, sc_ni, sc_in, sc_is, sc_si, sc_nn, decide_true, decide_false, reduceCtorEq, Bool.false_eq_true, if_true, if_false, ite_true, ite_false, exists_const, eq_self, false_and, and_false, or_false, false_or, exists_false, Evl.rLenS, rSum, wipe, tYes, exists_eq, exists_eq', rIxL, rIxT, rIxS, exists_and_right, gt_iff_lt, not_true_eq_false, not_false_eq_true, Bool.not_true, Bool.not_false, decide_eq_true_eq, Nat.reduceSub, Nat.reduceAdd, List.append_assoc, tChain, tDIn, tDNotIn, sDDel, tAug, ipI, rInt1_int, rInt1_bl]
      by_cases h0 : 0 ≤ i
      · simp only [h0, decide_true, if_true]
        have q' : Q (.bl (decide (0 ≤ i) && decide (i < m))) H := q
        rw [decide_eq_true h0] at q'
        exact q'
      · simp only [h0, decide_false, Bool.false_eq_true, if_false]
        have q' : Q (.bl (decide (0 ≤ i) && decide (i < m))) H := q
        rw [decide_eq_false h0] at q'
        exact q'
    | bl b =>
      try simp (maxSteps := 1000000) only [tSeq, tIfS, tTest, tOp, tUn, tCB, tCons, tNil, tVar, tC, rI0, rI, rU, rEq, rNe, tRet, tRetN, tAsg, gName, gSub, tBM, tBM0, tNext, tB, tNot, tAnd, tOr, tIf, tCall, tDrop, tBreak, tCont, L2.start, tDGet, sDPut, tTup, tLst, tDNewK, tRevL, rCat, rAppend, rPop, rSetL, tAndV, tOrV, tNotV, tSl, tPart, tNoPart, tM1, gTup, gCons, gNil, cxK, cxnK, List.map_cons, List.map_nil, List.length_cons, List.length_nil, List.replicate, List.cons_append, List.nil_append, List.append_nil, List.set_cons_zero, List.set_cons_succ, List.getElem?_cons_zero, List.getElem?_cons_succ, Option.some.injEq, V.ref.injEq, V.int.injEq, V.str.injEq, V.bl.injEq, V.ty.injEq, exists_eq_left', exists_eq_left, exists_and_left, List.cons.injEq, and_true, true_and, sc_ii, sc_ss, sc_bb, sc_ni, sc_in, sc_is, sc_si, sc_nn, decide_true, decide_false, reduceCtorEq, Bool.false_eq_true, if_true, if_false, ite_true, ite_false, exists_const, eq_self, false_and, and_false, or_false, false_or, exists_false, Evl.rLenS, rSum, wipe, tYes, exists_eq, exists_eq', rIxL, rIxT, rIxS, exists_and_right, gt_iff_lt, not_true_eq_false, not_false_eq_true, Bool.not_true, Bool.not_false, decide_eq_true_eq, Nat.reduceSub, Nat.reduceAdd, List.append_assoc, tChain, tDIn, tDNotIn, sDDel, tAug, ipI, rInt1_int, rInt1_bl, isIntD]
      refine isi_bl_bool ?_
      try simp (maxSteps := 1000000) only [tSeq, tIfS, tTest, tOp, tUn, tCB, tCons, tNil, tVar, tC, rI0, rI, rU, rEq, rNe, tRet, tRetN, tAsg, gName, gSub, tBM, tBM0, tNext, tB, tNot, tAnd, tOr, tIf, tCall, tDrop, tBreak, tCont, L2.start, tDGet, sDPut, tTup, tLst, tDNewK, tRevL, rCat, rAppend, rPop, rSetL, tAndV, tOrV, tNotV, tSl, tPart, tNoPart, tM1, gTup, gCons, gNil, cxK, cxnK, List.map_cons, List.map_nil, List.length_cons, List.length_nil, List.replicate, List.cons_append, List.nil_append, List.append_nil, List.set_cons_zero, List.set_cons_succ, List.getElem?_cons_zero, List.getElem?_cons_succ, Option.some.injEq, V.ref.injEq, V.int.injEq, V.str.injEq, V.bl.injEq, V.ty.injEq, exists_eq_left', exists_eq_left, exists_and_left, List.cons.injEq, and_true, true_and, sc_ii, sc_ss, sc_bb, sc_ni, sc_in, sc_is, sc_si, sc_nn, decide_true, decide_false, reduceCtorEq, Bool.false_eq_true, if_true, if_false, ite_true, ite_false, exists_const, eq_self, false_and, and_false, or_false, false_or, exists_false, Evl.rLenS, rSum, wipe, tYes, exists_eq, exists_eq', rIxL, rIxT, rIxS, exists_and_right, gt_iff_lt, not_true_eq_false, not_false_eq_true, Bool.not_true, Bool.not_false, decide_eq_true_eq, Nat.reduceSub, Nat.reduceAdd, List.append_assoc, tChain, tDIn, tDNotIn, sDDel, tAug, ipI, rInt1_int, rInt1_bl]
      exact q
    | _ =>
      try simp (maxSteps := 1000000) only [tSeq, tIfS, tTest, tOp, tUn, tCB, tCons, tNil, tVar, tC, rI0, rI, rU, rEq, rNe, tRet, tRetN, tAsg, gName, gSub, tBM, tBM0, tNext, tB, tNot, tAnd, tOr, tIf, tCall, tDrop, tBreak, tCont, L2.start, tDGet, sDPut, tTup, tLst, tDNewK, tRevL, rCat, rAppend, rPop, rSetL, tAndV, tOrV, tNotV, tSl, tPart, tNoPart, tM1, gTup, gCons, gNil, cxK, cxnK, List.map_cons, List.map_nil, List.length_cons, List.length_nil, List.replicate, List.cons_append, List.nil_append, List.append_nil, List.set_cons_zero, List.set_cons_succ, List.getElem?_cons_zero, List.getElem?_cons_succ, Option.some.injEq, V.ref.injEq, V.int.injEq, V.str.injEq, V.bl.injEq, V.ty.injEq, exists_eq_left', exists_eq_left, exists_and_left, List.cons.injEq, and_true, true_and, sc_ii, sc_ss, sc_bb, sc_ni, sc_in, sc_is, sc_si, sc_nn, decide_true, decide_false, reduceCtorEq, Bool.false_eq_true, if_true, if_false, ite_true, ite_false, exists_const, eq_self, false_and, and_false, or_false, false_or, exists_false, Evl.rLenS, rSum, wipe, tYes, exists_eq, exists_eq', rIxL, rIxT, rIxS, exists_and_right, gt_iff_lt, not_true_eq_false, not_false_eq_true, Bool.not_true, Bool.not_false, decide_eq_true_eq, Nat.reduceSub, Nat.reduceAdd, List.append_assoc, tChain, tDIn, tDNotIn, sDDel, tAug, ipI, rInt1_int, rInt1_bl, isIntD]
      exact q
theorem ok_is_number {f : Addr} {fd : FuncData} (D : Df K mg "is_number" s_is_number ["value"] f fd) (T : Bt mg tL t1 t2) {fb : Addr} {fdb : FuncData} (D_is_below : Df K mg "is_below" s_is_below ["value", "bound"] fb fdb) (G_is_below : FnOk P w K mg base CX0 1 fb fdb ["value", "bound"] spBelow) :
    FnOk P w K mg base CX0 2 f fd ["value"] (spD (fun _ => True) (belowD 10)) := by
  refine D.F.ok sc_is_number (fun vs H Q E h => ?_) (fun cdv A outer s H vs Q E hr h => ?_)
  · obtain ⟨v, d, rfl, _⟩ := h
    rfl
  · obtain ⟨v, d, rfl, hd, _, _, q⟩ := h
    refine ⟨_, (pss_one (ps_ret (pe_call G_is_below (hr.mono (by decide)) rfl D_is_below.g D_is_below.F.kp D_is_below.b .nil pass0 (pa_cons (pv 0) (pa_cons pe_int pa_nil))))), ?_⟩
    try simp (maxSteps := 1000000) only [tSeq, tIfS, tTest, tOp, tUn, tCB, tCons, tNil, tVar, tC, rI0, rI, rU, rEq, rNe, tRet, tRetN, tAsg, gName, gSub, tBM, tBM0, tNext, tB, tNot, tAnd, tOr, tIf, tCall, tDrop, tBreak, tCont, L2.start, tDGet, sDPut, tTup, tLst, tDNewK, tRevL, rCat, rAppend, rPop, rSetL, tAndV, tOrV, tNotV, tSl, tPart, tNoPart, tM1, gTup, gCons, gNil, cxK, cxnK, List.map_cons, List.map_nil, List.length_cons, List.length_nil, List.replicate, List.cons_append, List.nil_append, List.append_nil, List.set_cons_zero, List.set_cons_succ, List.getElem?_cons_zero, List.getElem?_cons_succ, Option.some.injEq, V.ref.injEq, V.int.injEq, V.str.injEq, V.bl.injEq, V.ty.injEq, exists_eq_left', exists_eq_left, exists_and_left, List.cons.injEq, and_true, true_and, sc_ii, sc_ss, sc_bb, sc_ni, sc_in, sc_is, sc_si, sc_nn, decide_true, decide_false, reduceCtorEq, Bool.false_eq_true, if_true, if_false, ite_true, ite_false, exists_const, eq_self, false_and, and_false, or_false, false_or, exists_false, Evl.rLenS, rSum, wipe, tYes, exists_eq, exists_eq', rIxL, rIxT, rIxS, exists_and_right, gt_iff_lt, not_true_eq_false, not_false_eq_true, Bool.not_true, Bool.not_false, decide_eq_true_eq, Nat.reduceSub, Nat.reduceAdd, List.append_assoc, tChain, tDIn, tDNotIn, sDDel, tAug, ipI, rInt1_int, rInt1_bl]
    exact ⟨v, d, 10, rfl, hd, q H (Kp.refl _ _)⟩

/-! ### deeds -/
def wordD (x : PyData) : PyData → Bool
  | .str w => if w = ("call" : Str) then nameD x else (decide (w = ("return" : Str)) || decide (w = ("step" : Str))) && belowD 10 x
  | _ => false
def deedB : PyData → Bool
  | .tuple [c, w, x] => belowD 3 c && wordD x w
  | _ => false
def GoodDd (d : Dd) : Prop := 0 ≤ d.1 ∧ d.1 < 3 ∧ ((d.2.1 = "call" ∧ ∃ z, d.2.2 = .inr z ∧ nameS z = true) ∨ ((d.2.1 = "return" ∨ d.2.1 = "step") ∧ ∃ i : Int, d.2.2 = .inl i ∧ 0 ≤ i ∧ i < 10))
theorem below_iff {m : Int} {d : PyData} : belowD m d = true ↔ ∃ i : Int, d = .int i ∧ 0 ≤ i ∧ i < m := by
  cases d with
  | int i =>
    show (decide (0 ≤ i) && decide (i < m)) = true ↔ _
    rw [Bool.and_eq_true, decide_eq_true_eq, decide_eq_true_eq]
    exact ⟨fun h => ⟨i, rfl, h.1, h.2⟩, fun ⟨j, e, h⟩ => by cases e; exact h⟩
  | _ => exact ⟨(fun h => by cases h), (fun ⟨_, e, _⟩ => by cases e)⟩
/-- at t stands the tuple of the deed d -/
def TD (H : Hp) (t : Addr) (d : Dd) : Prop := H t = some (.tup [.int d.1, .str d.2.1, kV d.2.2])
theorem TD.dq {H : Hp} {t : Addr} {d : Dd} (h : TD H t d) : Dq H (.ref t) (ddD d) := .tup h (.cons (.int _) (.cons (.str _) (.cons (by cases d.2.2 with | inl i => exact .int i | inr z => exact .str z) .nil)))
def spDeed : Sp := fun vs H Q _ => ∃ (t : Addr) (d : Dd), vs = [.ref t] ∧ TD H t d ∧ GoodDd d ∧ ∀ H', Kp [] H H' → Q (.bl true) H'
def visB (d : Dd) : Bool := decide (d.2.1 ≠ "step")
def spVis : Sp := fun vs H Q _ => ∃ (t : Addr) (d : Dd), vs = [.ref t] ∧ TD H t d ∧ Q (.bl (visB d)) H
theorem ok_is_deed {f : Addr} {fd : FuncData} (D : Df K mg "is_deed" s_is_deed ["value"] f fd) (T : Bt mg tL t1 t2) {fn : Addr} {fdn : FuncData} (D_is_name : Df K mg "is_name" s_is_name ["value"] fn fdn) (G_is_name : FnOk P w K mg base CX0 1 fn fdn ["value"] (spD (fun _ => True) nameD))
    {fb : Addr} {fdb : FuncData} (D_is_below : Df K mg "is_below" s_is_below ["value", "bound"] fb fdb) (G_is_below : FnOk P w K mg base CX0 1 fb fdb ["value", "bound"] spBelow) {fu : Addr} {fdu : FuncData} (D_is_number : Df K mg "is_number" s_is_number ["value"] fu fdu) (G_is_number : FnOk P w K mg base CX0 2 fu fdu ["value"] (spD (fun _ => True) (belowD 10))) :
    FnOk P w K mg base CX0 3 f fd ["value"] spDeed := by
  refine D.F.ok sc_is_deed (fun vs H Q E h => ?_) (fun cdv A outer s H vs Q E hr h => ?_)
  · obtain ⟨t, d, rfl, _⟩ := h
    rfl
  · obtain ⟨t, ⟨c, wd, k⟩, rfl, hd, ⟨c0, c3, gd⟩, q⟩ := h
    have hd : H t = some (.tup [.int c, .str wd, kV k]) := hd
    refine ⟨_, (pss_cons (ps_if (PW.pt (pw_or (pt_not (pt_val (pe_callB (id := "isinstance") (r := rIsi K) call_isi (by rfl) T.b_isinstance (by decide +kernel) (pa_cons (pv 0) (pa_cons (pe_bltn (v := .ty "tuple") (by rfl) T.b_tuple (by decide +kernel) rfl) pa_nil))))) (pw_or1 (pt_cmpR op_ne (pe_callB (id := "len") (r := Evl.rLenS K) call_len_seq (by rfl) T.b_len PySem.boot_len (pa_cons (pv 0) pa_nil)) pe_int (nomark _))))) (pss_one (ps_ret pe_bl)) pss_nil)
      (pss_cons (ps_asg (pv 0) (pg_tup (n := 3) (by rfl) (pgs_cons (pg_name (i := 1) sc_is_deed.nd rfl (Or.inl rfl)) (pgs_cons (pg_name (i := 2) sc_is_deed.nd rfl (Or.inl rfl)) (pgs_cons (pg_name (i := 3) sc_is_deed.nd rfl (Or.inl rfl)) pgs_nil)))))
      (pss_cons (ps_if (PW.pt (pw_or (pt_not (pt_val (pe_call G_is_below (hr.mono (by decide)) rfl D_is_below.g D_is_below.F.kp D_is_below.b .nil pass0 (pa_cons (pv 1) (pa_cons pe_int pa_nil))))) (pw_or1 (pt_not (pt_val (pe_callB (id := "isinstance") (r := rIsi K) call_isi (by rfl) T.b_isinstance (by decide +kernel) (pa_cons (pv 2) (pa_cons (pe_bltn (v := .ty "str") (by rfl) T.b_str (by decide +kernel) rfl) pa_nil)))))))) (pss_one (ps_ret pe_bl)) pss_nil)
      (pss_cons (ps_if (pt_cmpR op_eq (pv 2) pe_str (nomark _)) (pss_one (ps_ret (pe_call G_is_name (hr.mono (by decide)) rfl D_is_name.g D_is_name.F.kp D_is_name.b .nil pass0 (pa_cons (pv 3) pa_nil)))) pss_nil)
      (pss_one (ps_ret (pe_and (pe_cmpR op_in_seq (pv 2) (pe_tup (pa_cons pe_str (pa_cons pe_str pa_nil))) (by rfl)) (pe_one (pe_call G_is_number (hr.mono (by decide)) rfl D_is_number.g D_is_number.F.kp D_is_number.b .nil pass0 (pa_cons (pv 3) pa_nil)))))))))), ?_⟩
    try simp (maxSteps := 1000000) only [tSeq, tIfS, tTest, tOp, tUn, tCB, tCons, tNil, tVar, tC, rI0, rI, rU, rEq, rNe, tRet, tRetN, tAsg, gName, gSub, tBM, tBM0, tNext, tB, tNot, tAnd, tOr, tIf, tCall, tDrop, tBreak, tCont, L2.start, tDGet, sDPut, tTup, tLst, tDNewK, tRevL, rCat, rAppend, rPop, rSetL, tAndV, tOrV, tNotV, tSl, tPart, tNoPart, tM1, gTup, gCons, gNil, cxK, cxnK, List.map_cons, List.map_nil, List.length_cons, List.length_nil, List.replicate, List.cons_append, List.nil_append, List.append_nil, List.set_cons_zero, List.set_cons_succ, List.getElem?_cons_zero, List.getElem?_cons_succ, Option.some.injEq, V.ref.injEq, V.int.injEq, V.str.injEq, V.bl.injEq, V.ty.injEq, exists_eq_left', exists_eq_left, exists_and_left, List.cons.injEq, and_true, true_and, sc_ii, sc_ss, sc_bb, sc_ni, sc_in, sc_is, sc_si, sc_nn, decide_true, decide_false, reduceCtorEq, Bool.false_eq_true, if_true, if_false, ite_true, ite_false, exists_const, eq_self, false_and, and_false, or_false, false_or, exists_false, Evl.rLenS, rSum, wipe, tYes, exists_eq, exists_eq', rIxL, rIxT, rIxS, exists_and_right, gt_iff_lt, not_true_eq_false, not_false_eq_true, Bool.not_true, Bool.not_false, decide_eq_true_eq, Nat.reduceSub, Nat.reduceAdd, List.append_assoc, tChain, tDIn, tDNotIn, sDDel, tAug, ipI, rInt1_int, rInt1_bl]
    refine isi_Dtup (TD.dq (d := (c, wd, k)) hd) ⟨true, rfl, ?_⟩
    rw [if_neg (by decide)]
    refine ⟨_, .inr (sq_t hd), ?_⟩
    rw [if_neg (show ¬ (!decide ((([V.int c, V.str wd, kV k].length : Nat) : Int) = 3)) = true by rw [show [V.int c, V.str wd, kV k].length = 3 from rfl]; decide)]
    refine ⟨_, sq_t hd, rfl, _, _, rfl, _, _, rfl, _, _, rfl, rfl, _, _, _, rfl, .int c, ?_⟩
    refine ⟨_, rfl, ?_⟩
    rw [show belowD 3 (.int c) = true by exact below_iff.mpr ⟨c, rfl, c0, c3⟩]
    try simp (maxSteps := 1000000) only [tSeq, tIfS, tTest, tOp, tUn, tCB, tCons, tNil, tVar, tC, rI0, rI, rU, rEq, rNe, tRet, tRetN, tAsg, gName, gSub, tBM, tBM0, tNext, tB, tNot, tAnd, tOr, tIf, tCall, tDrop, tBreak, tCont, L2.start, tDGet, sDPut, tTup, tLst, tDNewK, tRevL, rCat, rAppend, rPop, rSetL, tAndV, tOrV, tNotV, tSl, tPart, tNoPart, tM1, gTup, gCons, gNil, cxK, cxnK, List.map_cons, List.map_nil, List.length_cons, List.length_nil, List.replicate, List.cons_append, List.nil_append, List.append_nil, List.set_cons_zero, List.set_cons_succ, List.getElem?_cons_zero, List.getElem?_cons_succ, Option.some.injEq, V.ref.injEq, V.int.injEq, V.str.injEq, V.bl.injEq, V.ty.injEq, exists_eq_left', exists_eq_left, exists_and_left, List.cons.injEq, and_true, true_and, sc_ii, sc_ss, sc_bb, sc_ni, sc_in, sc_is, sc_si, sc_nn, decide_true, decide_false, reduceCtorEq, Bool.false_eq_true, if_true, if_false, ite_true, ite_false, exists_const, eq_self, false_and, and_false, or_false, false_or, exists_false, Evl.rLenS, rSum, wipe, tYes, exists_eq, exists_eq', rIxL, rIxT, rIxS, exists_and_right, gt_iff_lt, not_true_eq_false, not_false_eq_true, Bool.not_true, Bool.not_false, decide_eq_true_eq, Nat.reduceSub, Nat.reduceAdd, List.append_assoc, tChain, tDIn, tDNotIn, sDDel, tAug, ipI, rInt1_int, rInt1_bl]
    refine isi_Dstr (.str wd) ?_
    try simp (maxSteps := 1000000) only [tSeq, tIfS, tTest, tOp, tUn, tCB, tCons, tNil, tVar, tC, rI0, rI, rU, rEq, rNe, tRet, tRetN, tAsg, gName, gSub, tBM, tBM0, tNext, tB, tNot, tAnd, tOr, tIf, tCall, tDrop, tBreak, tCont, L2.start, tDGet, sDPut, tTup, tLst, tDNewK, tRevL, rCat, rAppend, rPop, rSetL, tAndV, tOrV, tNotV, tSl, tPart, tNoPart, tM1, gTup, gCons, gNil, cxK, cxnK, List.map_cons, List.map_nil, List.length_cons, List.length_nil, List.replicate, List.cons_append, List.nil_append, List.append_nil, List.set_cons_zero, List.set_cons_succ, List.getElem?_cons_zero, List.getElem?_cons_succ, Option.some.injEq, V.ref.injEq, V.int.injEq, V.str.injEq, V.bl.injEq, V.ty.injEq, exists_eq_left', exists_eq_left, exists_and_left, List.cons.injEq, and_true, true_and, sc_ii, sc_ss, sc_bb, sc_ni, sc_in, sc_is, sc_si, sc_nn, decide_true, decide_false, reduceCtorEq, Bool.false_eq_true, if_true, if_false, ite_true, ite_false, exists_const, eq_self, false_and, and_false, or_false, false_or, exists_false, Evl.rLenS, rSum, wipe, tYes, exists_eq, exists_eq', rIxL, rIxT, rIxS, exists_and_right, gt_iff_lt, not_true_eq_false, not_false_eq_true, Bool.not_true, Bool.not_false, decide_eq_true_eq, Nat.reduceSub, Nat.reduceAdd, List.append_assoc, tChain, tDIn, tDNotIn, sDDel, tAug, ipI, rInt1_int, rInt1_bl, isStrD]
    rcases gd with ⟨hw, z, hx, hz⟩ | ⟨hw, j, hx, j0, j9⟩
    · have hw : wd = ("call" : Str) := hw
      have hx : k = .inr z := hx
      subst hw hx
      rw [if_pos rfl]
      have z8 : z.length ≤ 8 := by
        unfold nameS at hz
        rw [Bool.and_eq_true, Bool.and_eq_true] at hz
        exact of_decide_eq_true hz.2.1
      exact ⟨_, _, rfl, .str z, decide_eq_true (show z.length ≤ 1000 by omega), True.intro, fun H' k => by
        rw [show nameD (.str z) = true from hz]
        exact q H' k⟩
    · have hx : k = .inl j := hx
      have nc : ¬ wd = ("call" : Str) := fun e => by
        have e : wd = ("call" : Str) := e
        rcases hw with h | h
        · have h : wd = ("return" : Str) := h
          rw [h] at e
          exact absurd e (by decide +kernel)
        · have h : wd = ("step" : Str) := h
          rw [h] at e
          exact absurd e (by decide +kernel)
      rw [if_neg nc]
      refine ⟨by rw [sizeLine_eq]; decide, fun p hp => ⟨p, [V.str (Str.ofString "return"), V.str (Str.ofString "step")], rfl, .inr (sq_t upd_same), rfl, rfl, _, rfl, ?_⟩⟩
      have i2 : inV (V.str wd) [V.str (Str.ofString "return"), V.str (Str.ofString "step")] = true := by
        rcases hw with h | h
        · have h : wd = ("return" : Str) := h
          subst h; decide +kernel
        · have h : wd = ("step" : Str) := h
          subst h; decide +kernel
      rw [i2]
      try simp (maxSteps := 1000000) only [tSeq, tIfS, tTest, tOp, tUn, tCB, tCons, tNil, tVar, tC, rI0, rI, rU, rEq, rNe, tRet, tRetN, tAsg, gName, gSub, tBM, tBM0, tNext, tB, tNot, tAnd, tOr, tIf, tCall, tDrop, tBreak, tCont, L2.start, tDGet, sDPut, tTup, tLst, tDNewK, tRevL, rCat, rAppend, rPop, rSetL, tAndV, tOrV, tNotV, tSl, tPart, tNoPart, tM1, gTup, gCons, gNil, cxK, cxnK, List.map_cons, List.map_nil, List.length_cons, List.length_nil, List.replicate, List.cons_append, List.nil_append, List.append_nil, List.set_cons_zero, List.set_cons_succ, List.getElem?_cons_zero, List.getElem?_cons_succ, Option.some.injEq, V.ref.injEq, V.int.injEq, V.str.injEq, V.bl.injEq, V.ty.injEq, exists_eq_left', exists_eq_left, exists_and_left, List.cons.injEq, and_true, true_and, sc_ii, sc_ss, sc_bb, sc_ni, sc_in, sc_is, sc_si, sc_nn, decide_true, decide_false, reduceCtorEq, Bool.false_eq_true, if_true, if_false, ite_true, ite_false, exists_const, eq_self, false_and, and_false, or_false, false_or, exists_false, Evl.rLenS, rSum, wipe, tYes, exists_eq, exists_eq', rIxL, rIxT, rIxS, exists_and_right, gt_iff_lt, not_true_eq_false, not_false_eq_true, Bool.not_true, Bool.not_false, decide_eq_true_eq, Nat.reduceSub, Nat.reduceAdd, List.append_assoc, tChain, tDIn, tDNotIn, sDDel, tAug, ipI, rInt1_int, rInt1_bl]
      subst hx
      exact ⟨_, .int j, rfl, .int j, rfl, True.intro, fun H' k => by
        rw [show belowD 10 (.int j) = true from below_iff.mpr ⟨j, rfl, j0, j9⟩]
        exact q H' ((Kp.new hp).trans k)⟩
theorem ok_is_visible {f : Addr} {fd : FuncData} (D : Df K mg "is_visible" s_is_visible ["deed"] f fd) (T : Bt mg tL t1 t2) : FnOk P w K mg base CX0 1 f fd ["deed"] spVis := by
  refine D.F.ok sc_is_visible (fun vs H Q E h => ?_) (fun cdv A outer s H vs Q E hr h => ?_)
  · obtain ⟨t, d, rfl, _⟩ := h
    rfl
  · obtain ⟨t, ⟨c, wd, k⟩, rfl, hd, q⟩ := h
    have hd : H t = some (.tup [.int c, .str wd, kV k]) := hd
    refine ⟨_, (pss_one (ps_ret (pe_cmpR op_ne (pe_ix (r := rIxT K) ix_tup (pv 0) pe_int (fun _ _ => rfl)) pe_str (nomark _)))), ?_⟩
    try simp (maxSteps := 1000000) only [tSeq, tIfS, tTest, tOp, tUn, tCB, tCons, tNil, tVar, tC, rI0, rI, rU, rEq, rNe, tRet, tRetN, tAsg, gName, gSub, tBM, tBM0, tNext, tB, tNot, tAnd, tOr, tIf, tCall, tDrop, tBreak, tCont, L2.start, tDGet, sDPut, tTup, tLst, tDNewK, tRevL, rCat, rAppend, rPop, rSetL, tAndV, tOrV, tNotV, tSl, tPart, tNoPart, tM1, gTup, gCons, gNil, cxK, cxnK, List.map_cons, List.map_nil, List.length_cons, List.length_nil, List.replicate, List.cons_append, List.nil_append, List.append_nil, List.set_cons_zero, List.set_cons_succ, List.getElem?_cons_zero, List.getElem?_cons_succ, Option.some.injEq, V.ref.injEq, V.int.injEq, V.str.injEq, V.bl.injEq, V.ty.injEq, exists_eq_left', exists_eq_left, exists_and_left, List.cons.injEq, and_true, true_and, sc_ii, sc_ss, sc_bb, sc_ni, sc_in, sc_is, sc_si, sc_nn, decide_true, decide_false, reduceCtorEq, Bool.false_eq_true, if_true, if_false, ite_true, ite_false, exists_const, eq_self, false_and, and_false, or_false, false_or, exists_false, Evl.rLenS, rSum, wipe, tYes, exists_eq, exists_eq', rIxL, rIxT, rIxS, exists_and_right, gt_iff_lt, not_true_eq_false, not_false_eq_true, Bool.not_true, Bool.not_false, decide_eq_true_eq, Nat.reduceSub, Nat.reduceAdd, List.append_assoc, tChain, tDIn, tDNotIn, sDDel, tAug, ipI, rInt1_int, rInt1_bl]
    refine ⟨_, sq_t hd, _, rfl, rfl, ?_⟩
    have e : (!decide (V.str wd = V.str (Str.ofString "step"))) = visB (c, wd, k) := by
      unfold visB
      by_cases h : wd = (Str.ofString "step")
      · rw [decide_eq_true (congrArg V.str h)]
        exact (decide_eq_false (fun z => z h)).symm
      · rw [decide_eq_false fun z => h (V.str.inj z)]
        exact (decide_eq_true h).symm
    rw [e]
    exact q
end
end My

set_option Elab.async false
set_option linter.all false
set_option maxRecDepth 100000
set_option maxHeartbeats 4000000
namespace My
open PySem L2 NdefX
abbrev s_TooLarge_init : Stmt := mtop 3 0
theorem sc_TooLarge_init : NScope ["self", "bound", "__class__"] ["self", "bound"] ["__class__"] (defScope s_TooLarge_init) := nscope_by (by decide +kernel)
theorem ok_TooLarge_init {P : Program} {w : World} {K : PySem.W.Frag} {mg : Str → Option Value} {base : Heap} {CX : CXT} {f cc cda C : Addr} {fd : FuncData} (F : FunX K "__init__" "TooLarge.__init__" s_TooLarge_init f fd cc cda C) (T : ErrC K C) (G : CodeF K P cda) (hsup : mg "super" = none) (n1 : PySem.W.findIn K (.ref C) "bound" = some none) {Pf : V → Prop} (hPf : ∀ v, Pf v → ∃ i : Int, v = .int i ∧ i.natAbs.log2 < 1920) :
    FnOk P w K mg base CX 1 f fd ["self", "bound"] (spErr1 C "bound" Pf) := by
  have F0 := F
  obtain ⟨oc, od, kV, doc, pm, an, ct, osl, hfd, lk, hcd⟩ := F0.ex
  obtain ⟨cl, cld, csl, hcc⟩ := F0.cell
  refine F.ok sc_TooLarge_init (fun vs H Q E h => ?_) (fun A outer s H vs Q E hr h => ?_)
  · obtain ⟨a, v, rfl, _⟩ := h
    rfl
  · obtain ⟨a, v, rfl, hp, ha, q⟩ := h
    obtain ⟨i, rfl, il⟩ := hPf v hp
    have tl := PyProof.Rows.int_text_len_1921 il
    refine ⟨_, psat_cons (psat_sup T G lk (by rw [hfd]; rfl) hcc hsup rfl rfl rfl rfl rfl rfl rfl (pa_cons (pe_joined (.cons pe_str (.cons (pe_fmt (pv 1)) .nil))) pa_nil) rfl rfl rfl rfl rfl) (pss_one (ps_ost (pv 0) (pv 1))), ?_⟩
    try simp (maxSteps := 1000000) only [tSeq, tIfS, tTest, tOp, tUn, tCB, tCons, tNil, tVar, tC, rI0, rI, rU, rEq, rNe, tRet, tRetN, tAsg, gName, gSub, tBM, tBM0, tNext, tB, tNot, tAnd, tOr, tIf, tCall, tDrop, tBreak, tCont, L2.start, tDGet, sDPut, tTup, tLst, tDNewK, tRevL, rCat, rAppend, rPop, rSetL, tAndV, tOrV, tNotV, tSl, tPart, tNoPart, tM1, gTup, gCons, gNil, cxK, cxnK, List.map_cons, List.map_nil, List.length_cons, List.length_nil, List.replicate, List.cons_append, List.nil_append, List.append_nil, List.set_cons_zero, List.set_cons_succ, List.getElem?_cons_zero, List.getElem?_cons_succ, Option.some.injEq, V.ref.injEq, V.int.injEq, V.str.injEq, V.bl.injEq, V.ty.injEq, exists_eq_left', exists_eq_left, exists_and_left, List.cons.injEq, and_true, true_and, sc_ii, sc_ss, sc_bb, sc_ni, sc_in, sc_is, sc_si, sc_nn, decide_true, decide_false, reduceCtorEq, Bool.false_eq_true, if_true, if_false, ite_true, ite_false, exists_const, eq_self, false_and, and_false, or_false, false_or, exists_false, Evl.rLenS, rSum, wipe, tYes, exists_eq, exists_eq', rIxL, rIxT, rIxS, exists_and_right, gt_iff_lt, not_true_eq_false, not_false_eq_true, Bool.not_true, Bool.not_false, decide_eq_true_eq, Nat.reduceSub, Nat.reduceAdd, List.append_assoc, tChain, tDIn, tDNotIn, sDDel, tAug, ipI, rInt1_int, rInt1_bl, startF, tSupI, tJs, tFmt, tOst]
    have z0 : Str.empty.length = 0 := rfl
    have s0 : (Str.ofString "not within the bound of ").length = 24 := by decide +kernel
    refine ⟨ha, small ?_, il, small ?_, by decide, ha, C, T.ox, n1, .inl ⟨ha, q⟩⟩
    all_goals (simp only [len_app, z0, s0]; omega)
abbrev s_BadWeb_init : Stmt := mtop 4 0
theorem sc_BadWeb_init : NScope ["self", "at", "__class__"] ["self", "at"] ["__class__"] (defScope s_BadWeb_init) := nscope_by (by decide +kernel)
theorem ok_BadWeb_init {P : Program} {w : World} {K : PySem.W.Frag} {mg : Str → Option Value} {base : Heap} {CX : CXT} {f cc cda C : Addr} {fd : FuncData} (F : FunX K "__init__" "BadWeb.__init__" s_BadWeb_init f fd cc cda C) (T : ErrC K C) (G : CodeF K P cda) (hsup : mg "super" = none) (n1 : PySem.W.findIn K (.ref C) "at" = some none) {Pf : V → Prop} (hPf : ∀ v, Pf v → ∃ i : Int, v = .int i ∧ i.natAbs.log2 < 1920) :
    FnOk P w K mg base CX 1 f fd ["self", "at"] (spErr1 C "at" Pf) := by
  have F0 := F
  obtain ⟨oc, od, kV, doc, pm, an, ct, osl, hfd, lk, hcd⟩ := F0.ex
  obtain ⟨cl, cld, csl, hcc⟩ := F0.cell
  refine F.ok sc_BadWeb_init (fun vs H Q E h => ?_) (fun A outer s H vs Q E hr h => ?_)
  · obtain ⟨a, v, rfl, _⟩ := h
    rfl
  · obtain ⟨a, v, rfl, hp, ha, q⟩ := h
    obtain ⟨i, rfl, il⟩ := hPf v hp
    have tl := PyProof.Rows.int_text_len_1921 il
    refine ⟨_, psat_cons (psat_sup T G lk (by rw [hfd]; rfl) hcc hsup rfl rfl rfl rfl rfl rfl rfl (pa_cons (pe_joined (.cons pe_str (.cons (pe_fmt (pv 1)) (.cons pe_str .nil)))) pa_nil) rfl rfl rfl rfl rfl) (pss_one (ps_ost (pv 0) (pv 1))), ?_⟩
    try simp (maxSteps := 1000000) only [tSeq, tIfS, tTest, tOp, tUn, tCB, tCons, tNil, tVar, tC, rI0, rI, rU, rEq, rNe, tRet, tRetN, tAsg, gName, gSub, tBM, tBM0, tNext, tB, tNot, tAnd, tOr, tIf, tCall, tDrop, tBreak, tCont, L2.start, tDGet, sDPut, tTup, tLst, tDNewK, tRevL, rCat, rAppend, rPop, rSetL, tAndV, tOrV, tNotV, tSl, tPart, tNoPart, tM1, gTup, gCons, gNil, cxK, cxnK, List.map_cons, List.map_nil, List.length_cons, List.length_nil, List.replicate, List.cons_append, List.nil_append, List.append_nil, List.set_cons_zero, List.set_cons_succ, List.getElem?_cons_zero, List.getElem?_cons_succ, Option.some.injEq, V.ref.injEq, V.int.injEq, V.str.injEq, V.bl.injEq, V.ty.injEq, exists_eq_left', exists_eq_left, exists_and_left, List.cons.injEq, and_true, true_and, sc_ii, sc_ss, sc_bb, sc_ni, sc_in, sc_is, sc_si, sc_nn, decide_true, decide_false, reduceCtorEq, Bool.false_eq_true, if_true, if_false, ite_true, ite_false, exists_const, eq_self, false_and, and_false, or_false, false_or, exists_false, Evl.rLenS, rSum, wipe, tYes, exists_eq, exists_eq', rIxL, rIxT, rIxS, exists_and_right, gt_iff_lt, not_true_eq_false, not_false_eq_true, Bool.not_true, Bool.not_false, decide_eq_true_eq, Nat.reduceSub, Nat.reduceAdd, List.append_assoc, tChain, tDIn, tDNotIn, sDDel, tAug, ipI, rInt1_int, rInt1_bl, startF, tSupI, tJs, tFmt, tOst]
    have z0 : Str.empty.length = 0 := rfl
    have s0 : (Str.ofString "the moves of standing ").length = 22 := by decide +kernel
    have s2 : (Str.ofString " are wrong").length = 10 := by decide +kernel
    refine ⟨ha, small ?_, il, small ?_, small ?_, by decide, ha, C, T.ox, n1, .inl ⟨ha, q⟩⟩
    all_goals (simp only [len_app, z0, s0, s2]; omega)
abbrev s_NoStanding_init : Stmt := mtop 5 0
theorem sc_NoStanding_init : NScope ["self", "at", "__class__"] ["self", "at"] ["__class__"] (defScope s_NoStanding_init) := nscope_by (by decide +kernel)
theorem ok_NoStanding_init {P : Program} {w : World} {K : PySem.W.Frag} {mg : Str → Option Value} {base : Heap} {CX : CXT} {f cc cda C : Addr} {fd : FuncData} (F : FunX K "__init__" "NoStanding.__init__" s_NoStanding_init f fd cc cda C) (T : ErrC K C) (G : CodeF K P cda) (hsup : mg "super" = none) (n1 : PySem.W.findIn K (.ref C) "at" = some none) {Pf : V → Prop} :
    FnOk P w K mg base CX 1 f fd ["self", "at"] (spErr1 C "at" Pf) := by
  have F0 := F
  obtain ⟨oc, od, kV, doc, pm, an, ct, osl, hfd, lk, hcd⟩ := F0.ex
  obtain ⟨cl, cld, csl, hcc⟩ := F0.cell
  refine F.ok sc_NoStanding_init (fun vs H Q E h => ?_) (fun A outer s H vs Q E hr h => ?_)
  · obtain ⟨a, v, rfl, _⟩ := h
    rfl
  · obtain ⟨a, v, rfl, hp, ha, q⟩ := h
    refine ⟨_, psat_cons (psat_sup T G lk (by rw [hfd]; rfl) hcc hsup rfl rfl rfl rfl rfl rfl rfl (pa_cons pe_str pa_nil) rfl rfl rfl rfl rfl) (pss_one (ps_ost (pv 0) (pv 1))), ?_⟩
    try simp (maxSteps := 1000000) only [tSeq, tIfS, tTest, tOp, tUn, tCB, tCons, tNil, tVar, tC, rI0, rI, rU, rEq, rNe, tRet, tRetN, tAsg, gName, gSub, tBM, tBM0, tNext, tB, tNot, tAnd, tOr, tIf, tCall, tDrop, tBreak, tCont, L2.start, tDGet, sDPut, tTup, tLst, tDNewK, tRevL, rCat, rAppend, rPop, rSetL, tAndV, tOrV, tNotV, tSl, tPart, tNoPart, tM1, gTup, gCons, gNil, cxK, cxnK, List.map_cons, List.map_nil, List.length_cons, List.length_nil, List.replicate, List.cons_append, List.nil_append, List.append_nil, List.set_cons_zero, List.set_cons_succ, List.getElem?_cons_zero, List.getElem?_cons_succ, Option.some.injEq, V.ref.injEq, V.int.injEq, V.str.injEq, V.bl.injEq, V.ty.injEq, exists_eq_left', exists_eq_left, exists_and_left, List.cons.injEq, and_true, true_and, sc_ii, sc_ss, sc_bb, sc_ni, sc_in, sc_is, sc_si, sc_nn, decide_true, decide_false, reduceCtorEq, Bool.false_eq_true, if_true, if_false, ite_true, ite_false, exists_const, eq_self, false_and, and_false, or_false, false_or, exists_false, Evl.rLenS, rSum, wipe, tYes, exists_eq, exists_eq', rIxL, rIxT, rIxS, exists_and_right, gt_iff_lt, not_true_eq_false, not_false_eq_true, Bool.not_true, Bool.not_false, decide_eq_true_eq, Nat.reduceSub, Nat.reduceAdd, List.append_assoc, tChain, tDIn, tDNotIn, sDDel, tAug, ipI, rInt1_int, rInt1_bl, startF, tSupI, tOst]
    exact ⟨ha, by decide, ha, C, T.ox, n1, .inl ⟨ha, q⟩⟩
abbrev s_are_moves : Stmt := top 20
theorem sc_are_moves : FnScope ["row", "many", "deeds", "move", "deed", "goal"] ["row", "many"] (defScope s_are_moves) := ⟨rfl, rfl, rfl, by decide +kernel, rfl, by decide +kernel, by decide +kernel⟩
/-- at v the tuple of a move -/
def TM (H : Hp) (v : V) (m : Mv) : Prop := ∃ a t, v = .ref a ∧ H a = some (.tup [.ref t, .int m.2]) ∧ TD H t m.1
theorem TM.tp {H H' : Hp} {v : V} {m : Mv} (h : TM H v m) (t : Tp H H') : TM H' v m := by
  obtain ⟨a, b, e, h1, h2⟩ := h
  exact ⟨a, b, e, t _ _ h1, t _ _ h2⟩
def dK (d : Dd) : List Key := [.inl d.1, .inr d.2.1, d.2.2]
theorem TD.key {H : Hp} {t : Addr} {d : Dd} (h : TD H t d) : H t = some (.tup ((dK d).map kV)) := h
theorem dK_inj {a b : Dd} (h : dK a = dK b) : a = b := by
  obtain ⟨a1, a2, a3⟩ := a
  obtain ⟨b1, b2, b3⟩ := b
  unfold dK at h
  injection h with h1 h
  injection h with h2 h
  injection h with h3 h
  injection h1 with h1
  injection h2 with h2
  subst h1; subst h2; subst h3; rfl
structure GoodRw (n : Nat) (ms : List Mv) : Prop where
  deed : ∀ m ∈ ms, GoodDd m.1
  goal : ∀ m ∈ ms, 0 ≤ m.2 ∧ m.2 < n
  uniq : (ms.map (·.1)).Nodup
  len : ms.length ≤ 100
theorem forL_src {K : PySem.W.Frag} {te : TE} {g : TG} {tb : TS} {D : Ends} {σ : L2.St} {H : Hp} (h : te σ H fun v H1 => tFor (iList K (tC v)) g tb D σ H1) : tFor (iList K te) g tb D σ H := h
theorem forLC {K : PySem.W.Frag} {g : TG} {tb : TS} {D : Ends} {σ : L2.St} {H : Hp} {a : Addr} {xs : List V} (Pv : Nat → L2.St → Hp → Prop) (hS : SqL K H a xs) (h0 : Pv 0 σ H) (hl : ∀ j σ H, j ≤ xs.length → Pv j σ H → SqL K H a xs)
    (hs : ∀ j x σ H, xs[j]? = some x → Pv j σ H → g x σ H fun σ2 H2 => tb { D with nx := Pv (j + 1), ct := Pv (j + 1), bk := D.nx } σ2 H2) (hd : ∀ σ H, Pv xs.length σ H → D.nx σ H) : tFor (iList K (tC (.ref a))) g tb D σ H :=
  ⟨a, rfl, ⟨xs, hS⟩, for_list Pv h0 hl hs hd⟩
theorem valV_none {κ : Type} [DecidableEq κ] {kvs : List (κ × V)} {k : κ} (h : k ∉ kvs.map (·.1)) : valV kvs k = none := by
  cases e : valV kvs k with
  | none => rfl
  | some v => exact absurd (valV_in e) h
section
variable {P : Program} {w : World} {K : PySem.W.Frag} {mg : Str → Option Value} {base : Heap} {tL t1 t2 : Tok}
def spMoves : Sp := fun vs H Q _ => ∃ (r : Addr) (us : List V) (n : Nat) (ms : List Mv), vs = [.ref r, .int (n : Nat)] ∧ H r = some (.lst us) ∧ Rw (TM H) us ms ∧ GoodRw n ms ∧ ∀ H', Kp [] H H' → Q (.bl true) H'
theorem ok_are_moves {f : Addr} {fd : FuncData} (D : Df K mg "are_moves" s_are_moves ["row", "many"] f fd) (T : Bt mg tL t1 t2) {fe : Addr} {fde : FuncData} (D_is_deed : Df K mg "is_deed" s_is_deed ["value"] fe fde) (G_is_deed : FnOk P w K mg base CX0 3 fe fde ["value"] spDeed)
    {fb : Addr} {fdb : FuncData} (D_is_below : Df K mg "is_below" s_is_below ["value", "bound"] fb fdb) (G_is_below : FnOk P w K mg base CX0 1 fb fdb ["value", "bound"] spBelow) :
    FnOk P w K mg base CX0 4 f fd ["row", "many"] spMoves := by
  refine D.F.ok sc_are_moves (fun vs H Q E h => ?_) (fun cdv A outer s H vs Q E hr h => ?_)
  · obtain ⟨r, us, n, ms, rfl, _⟩ := h
    rfl
  · obtain ⟨r, us, n, ms, rfl, hr', hus, hg, q⟩ := h
    have hu := hu_of hr
    have lm : us.length = ms.length := hus.len
    refine ⟨_, (pss_cons (ps_set (i := 2) sc_are_moves.nd rfl (Or.inl rfl) pe_dnewT)
      (pss_cons (ps_for PassesOwn.never rfl (pi_list (pv 0)) (pg_name (i := 3) sc_are_moves.nd rfl (Or.inl rfl)) (pss_cons (ps_if (PW.pt (pw_or (pt_not (pt_val (pe_callB (id := "isinstance") (r := rIsi K) call_isi (by rfl) T.b_isinstance (by decide +kernel) (pa_cons (pv 3) (pa_cons (pe_bltn (v := .ty "tuple") (by rfl) T.b_tuple (by decide +kernel) rfl) pa_nil))))) (pw_or1 (pt_cmpR op_ne (pe_callB (id := "len") (r := Evl.rLenS K) call_len_seq (by rfl) T.b_len PySem.boot_len (pa_cons (pv 3) pa_nil)) pe_int (nomark _))))) (pss_one (ps_ret pe_bl)) pss_nil)
      (pss_cons (ps_asg (pv 3) (pg_tup (n := 2) (by rfl) (pgs_cons (pg_name (i := 4) sc_are_moves.nd rfl (Or.inl rfl)) (pgs_cons (pg_name (i := 5) sc_are_moves.nd rfl (Or.inl rfl)) pgs_nil))))
      (pss_cons (ps_if (PW.pt (pw_or (pt_not (pt_val (pe_call G_is_deed (hr.mono (by decide)) rfl D_is_deed.g D_is_deed.F.kp D_is_deed.b .nil pass0 (pa_cons (pv 4) pa_nil)))) (pw_or (pt_not (pt_val (pe_call G_is_below (hr.mono (by decide)) rfl D_is_below.g D_is_below.F.kp D_is_below.b .nil pass0 (pa_cons (pv 5) (pa_cons (pv 1) pa_nil))))) (pw_or1 (pt_cmp (pc_din hu (pv 4) (pv 2))))))) (pss_one (ps_ret pe_bl)) pss_nil)
      (pss_one (ps_dput hu (pv 2) (pv 4) pe_bl rfl))))))
      (pss_one (ps_ret pe_bl)))), ?_⟩
    try simp (maxSteps := 1000000) only [tSeq, tIfS, tTest, tOp, tUn, tCB, tCons, tNil, tVar, tC, rI0, rI, rU, rEq, rNe, tRet, tRetN, tAsg, gName, gSub, tBM, tBM0, tNext, tB, tNot, tAnd, tOr, tIf, tCall, tDrop, tBreak, tCont, L2.start, tDGet, sDPut, tTup, tLst, tDNewK, tRevL, rCat, rAppend, rPop, rSetL, tAndV, tOrV, tNotV, tSl, tPart, tNoPart, tM1, gTup, gCons, gNil, cxK, cxnK, List.map_cons, List.map_nil, List.length_cons, List.length_nil, List.replicate, List.cons_append, List.nil_append, List.append_nil, List.set_cons_zero, List.set_cons_succ, List.getElem?_cons_zero, List.getElem?_cons_succ, Option.some.injEq, V.ref.injEq, V.int.injEq, V.str.injEq, V.bl.injEq, V.ty.injEq, exists_eq_left', exists_eq_left, exists_and_left, List.cons.injEq, and_true, true_and, sc_ii, sc_ss, sc_bb, sc_ni, sc_in, sc_is, sc_si, sc_nn, decide_true, decide_false, reduceCtorEq, Bool.false_eq_true, if_true, if_false, ite_true, ite_false, exists_const, eq_self, false_and, and_false, or_false, false_or, exists_false, Evl.rLenS, rSum, wipe, tYes, exists_eq, exists_eq', rIxL, rIxT, rIxS, exists_and_right, gt_iff_lt, not_true_eq_false, not_false_eq_true, Bool.not_true, Bool.not_false, decide_eq_true_eq, Nat.reduceSub, Nat.reduceAdd, List.append_assoc, tChain, tDIn, tDNotIn, sDDel, tAug, ipI, rInt1_int, rInt1_bl]
    intro D nD
    refine forL_src ?_
    try simp (maxSteps := 1000000) only [tSeq, tIfS, tTest, tOp, tUn, tCB, tCons, tNil, tVar, tC, rI0, rI, rU, rEq, rNe, tRet, tRetN, tAsg, gName, gSub, tBM, tBM0, tNext, tB, tNot, tAnd, tOr, tIf, tCall, tDrop, tBreak, tCont, L2.start, tDGet, sDPut, tTup, tLst, tDNewK, tRevL, rCat, rAppend, rPop, rSetL, tAndV, tOrV, tNotV, tSl, tPart, tNoPart, tM1, gTup, gCons, gNil, cxK, cxnK, List.map_cons, List.map_nil, List.length_cons, List.length_nil, List.replicate, List.cons_append, List.nil_append, List.append_nil, List.set_cons_zero, List.set_cons_succ, List.getElem?_cons_zero, List.getElem?_cons_succ, Option.some.injEq, V.ref.injEq, V.int.injEq, V.str.injEq, V.bl.injEq, V.ty.injEq, exists_eq_left', exists_eq_left, exists_and_left, List.cons.injEq, and_true, true_and, sc_ii, sc_ss, sc_bb, sc_ni, sc_in, sc_is, sc_si, sc_nn, decide_true, decide_false, reduceCtorEq, Bool.false_eq_true, if_true, if_false, ite_true, ite_false, exists_const, eq_self, false_and, and_false, or_false, false_or, exists_false, Evl.rLenS, rSum, wipe, tYes, exists_eq, exists_eq', rIxL, rIxT, rIxS, exists_and_right, gt_iff_lt, not_true_eq_false, not_false_eq_true, Bool.not_true, Bool.not_false, decide_eq_true_eq, Nat.reduceSub, Nat.reduceAdd, List.append_assoc, tChain, tDIn, tDNotIn, sDDel, tAug, ipI, rInt1_int, rInt1_bl]
    refine forLC (fun i σ H' => ∃ (kvs : List (List Key × V)) (x y z : Option V), H' D = some (.dT kvs) ∧ kvs.map (·.1) = (ms.take i).map (fun m => dK m.1) ∧ Kp [] H H' ∧ σ = [some (.ref r), some (.int (n : Nat)), some (.ref D), x, y, z])
      (sq_l ((Kp.new nD) _ _ not0 hr')) ⟨[], none, none, none, upd_same, rfl, Kp.new nD, rfl⟩ (fun j σ H' _ h => by obtain ⟨_, _, _, _, _, _, k, _⟩ := h; exact sq_l (k _ _ not0 hr')) (fun i v σ H' hv h => ?_) (fun σ H' h => ?_)
    · obtain ⟨kvs, x, y, z, hD, hk, kp, rfl⟩ := h
      have li : i < ms.length := by
        have := (List.getElem?_eq_some_iff.mp hv).1
        omega
      have em : ms[i]? = some ms[i] := List.getElem?_eq_getElem li
      generalize ms[i] = m at em
      obtain ⟨u, eu, hm⟩ := hus.at em
      obtain rfl : v = u := Option.some.inj (hv.symm.trans eu)
      obtain ⟨a, t, rfl, ha, ht⟩ := hm.tp kp.tps
      have mem : m ∈ ms := List.mem_of_getElem? em
      have gd := hg.deed m mem
      obtain ⟨g0, gn⟩ := hg.goal m mem
      try simp (maxSteps := 1000000) only [tSeq, tIfS, tTest, tOp, tUn, tCB, tCons, tNil, tVar, tC, rI0, rI, rU, rEq, rNe, tRet, tRetN, tAsg, gName, gSub, tBM, tBM0, tNext, tB, tNot, tAnd, tOr, tIf, tCall, tDrop, tBreak, tCont, L2.start, tDGet, sDPut, tTup, tLst, tDNewK, tRevL, rCat, rAppend, rPop, rSetL, tAndV, tOrV, tNotV, tSl, tPart, tNoPart, tM1, gTup, gCons, gNil, cxK, cxnK, List.map_cons, List.map_nil, List.length_cons, List.length_nil, List.replicate, List.cons_append, List.nil_append, List.append_nil, List.set_cons_zero, List.set_cons_succ, List.getElem?_cons_zero, List.getElem?_cons_succ, Option.some.injEq, V.ref.injEq, V.int.injEq, V.str.injEq, V.bl.injEq, V.ty.injEq, exists_eq_left', exists_eq_left, exists_and_left, List.cons.injEq, and_true, true_and, sc_ii, sc_ss, sc_bb, sc_ni, sc_in, sc_is, sc_si, sc_nn, decide_true, decide_false, reduceCtorEq, Bool.false_eq_true, if_true, if_false, ite_true, ite_false, exists_const, eq_self, false_and, and_false, or_false, false_or, exists_false, Evl.rLenS, rSum, wipe, tYes, exists_eq, exists_eq', rIxL, rIxT, rIxS, exists_and_right, gt_iff_lt, not_true_eq_false, not_false_eq_true, Bool.not_true, Bool.not_false, decide_eq_true_eq, Nat.reduceSub, Nat.reduceAdd, List.append_assoc, tChain, tDIn, tDNotIn, sDDel, tAug, ipI, rInt1_int, rInt1_bl]
      refine isi_Dtup (.tup ha (.cons ht.dq (.cons (.int _) .nil))) ⟨true, rfl, ?_⟩
      rw [if_neg (by decide)]
      refine ⟨_, .inr (sq_t ha), ?_⟩
      rw [if_neg (show ¬ (!decide ((([V.ref t, V.int m.2].length : Nat) : Int) = 2)) = true by rw [show [V.ref t, V.int m.2].length = 2 from rfl]; decide)]
      refine ⟨_, sq_t ha, rfl, _, _, rfl, _, _, rfl, rfl, t, m.1, rfl, ht, gd, fun H2 k2 => ⟨true, rfl, ?_⟩⟩
      rw [if_neg (by decide)]
      have ht2 : TD H2 t m.1 := k2.tps _ _ ht
      have hD2 := k2 _ _ not0 hD
      refine ⟨_, .int m.2, (n : Nat), rfl, .int _, true, ?_, ?_⟩
      · rw [show belowD (n : Nat) (.int m.2) = true from below_iff.mpr ⟨m.2, rfl, g0, gn⟩]
      rw [if_neg (by decide)]
      have nin : dK m.1 ∉ kvs.map (·.1) := by
        rw [hk]
        intro hh
        obtain ⟨m', hm', e⟩ := List.mem_map.mp hh
        have e := dK_inj e
        obtain ⟨j, hj, ej⟩ := List.mem_iff_getElem.mp hm'
        rw [List.length_take] at hj
        rw [List.getElem_take] at ej
        have nd := List.nodup_iff_pairwise_ne.mp hg.uniq
        have := List.pairwise_iff_getElem.mp nd j i (by rw [List.length_map]; omega) (by rw [List.length_map]; omega) (by omega)
        rw [List.getElem_map, List.getElem_map, ej, (List.getElem?_eq_some_iff.mp em).2] at this
        exact this e
      have vn := valV_none nin
      refine ⟨_, .t hD2 ht2.key, ?_⟩
      rw [vn]
      refine ⟨_, .t hD2 ht2.key ?_, _, upd_same, ?_, (kp.trans k2).wr nD⟩
      · have := congrArg List.length hk
        rw [List.length_map, List.length_map, List.length_take] at this
        have := hg.len
        rw [sizeLine_eq]; omega
      · rw [putK_new _ vn, List.map_append, hk, take_snoc em, List.map_append]; rfl
    · obtain ⟨_, _, _, _, _, _, k, rfl⟩ := h
      try simp (maxSteps := 1000000) only [tSeq, tIfS, tTest, tOp, tUn, tCB, tCons, tNil, tVar, tC, rI0, rI, rU, rEq, rNe, tRet, tRetN, tAsg, gName, gSub, tBM, tBM0, tNext, tB, tNot, tAnd, tOr, tIf, tCall, tDrop, tBreak, tCont, L2.start, tDGet, sDPut, tTup, tLst, tDNewK, tRevL, rCat, rAppend, rPop, rSetL, tAndV, tOrV, tNotV, tSl, tPart, tNoPart, tM1, gTup, gCons, gNil, cxK, cxnK, List.map_cons, List.map_nil, List.length_cons, List.length_nil, List.replicate, List.cons_append, List.nil_append, List.append_nil, List.set_cons_zero, List.set_cons_succ, List.getElem?_cons_zero, List.getElem?_cons_succ, Option.some.injEq, V.ref.injEq, V.int.injEq, V.str.injEq, V.bl.injEq, V.ty.injEq, exists_eq_left', exists_eq_left, exists_and_left, List.cons.injEq, and_true, true_and, sc_ii, sc_ss, sc_bb, sc_ni, sc_in, sc_is, sc_si, sc_nn, decide_true, decide_false, reduceCtorEq, Bool.false_eq_true, if_true, if_false, ite_true, ite_false, exists_const, eq_self, false_and, and_false, or_false, false_or, exists_false, Evl.rLenS, rSum, wipe, tYes, exists_eq, exists_eq', rIxL, rIxT, rIxS, exists_and_right, gt_iff_lt, not_true_eq_false, not_false_eq_true, Bool.not_true, Bool.not_false, decide_eq_true_eq, Nat.reduceSub, Nat.reduceAdd, List.append_assoc, tChain, tDIn, tDNotIn, sDDel, tAug, ipI, rInt1_int, rInt1_bl]
      exact q _ k
end
end My

set_option Elab.async false
set_option linter.all false
set_option maxRecDepth 100000
set_option maxHeartbeats 4000000
namespace My
open PySem L2 NdefX
def rLstOf (K : PySem.W.Frag) : List V → Hp → VK → Prop := fun xs H Q => ∃ p ys, xs = [V.ref p] ∧ (SqL K H p ys ∨ SqT K H p ys) ∧ ∀ (l : Addr), H l = none → Q (V.ref l) (upd H l (HO.lst ys))
def SmallI (v : V) : Prop := ∃ i : Int, v = .int i ∧ 0 ≤ i ∧ i ≤ 5000
theorem hu6 {A : Around} {k : Nat} (hr : Room k A) : A.units + 70 < cLine := by have := hr.un; omega
/-- lists, tuples and dicts stand still -/
def isDat : HO → Prop
  | .lst _ => True
  | .tup _ => True
  | .dT _ => True
  | _ => False
def Kd (H H' : Hp) : Prop := ∀ a x, isDat x → H a = some x → H' a = some x
theorem Kd.refl (H : Hp) : Kd H H := fun _ _ _ h => h
theorem Kd.trans {H H1 H2 : Hp} (a : Kd H H1) (b : Kd H1 H2) : Kd H H2 := fun c o hc h => b c o hc (a c o hc h)
theorem Kp.kd {H H' : Hp} (k : Kp [] H H') : Kd H H' := fun a x _ h => k a x not0 h
theorem Kd.putI {H : Hp} {o C dx : Addr} {fs : List (Str × V)} {u : HO} (h : H o = some (.ins C dx fs)) : Kd H (upd H o u) := fun a x hx e => by
  rw [upd_ne (fun z => ?_)]
  · exact e
  · rw [z, h] at e; cases e; exact hx
theorem Kd.tps {H H' : Hp} (k : Kd H H') : Tp H H' := fun a xs h => k a _ True.intro h
theorem Kp.lstT {D : Addr} {H H' : Hp} {ys : List V} (k : Kp [D] H H') (h : H D = some (.lst ys)) {a : Addr} {xs : List V} (e : H a = some (.tup xs)) : H' a = some (.tup xs) := k a _ (not1 fun z => by rw [z, h] at e; cases e) e
/-- a comprehension over a list; what it makes may be lists of their own -/
theorem lcK {α : Type} {K : PySem.W.Frag} {tv : TE} {j : Nat} {te : TE} {σ : L2.St} {H : Hp} {Q : VK} {a : Addr} {us : List V} {gs : List α} {R : Hp → V → α → Prop} {R2 : Addr → Hp → V → α → Prop} (mono : ∀ H H' v x, Kp [] H H' → R H v x → R H' v x)
    (mono2 : ∀ D H H' v x ys, H D = some (.lst ys) → Kp [D] H H' → R2 D H v x → R2 D H' v x) (hv : ∀ R : VK, R (.ref a) H → tv σ H R) (ha : SqL K H a us) (hr : Rw (R H) us gs) (hl : gs.length ≤ 1000) (hj : j < σ.length)
    (elt : ∀ D v x H' (Q' : VK), x ∈ gs → R H' v x → Kp [] H H' → (∃ ys, H' D = some (.lst ys)) → (∀ v' H2, R2 D H2 v' x → Kp [] H' H2 → Q' v' H2) → te ((wipe σ [j]).set j (some v)) H' Q')
    (fin : ∀ D ws H', H D = none → H' D = some (.lst ws) → Rw (R2 D H') ws gs → Kp [] H H' → Q (.ref D) H') :
    tLc (iList K tv) (gName j) tYes te [j] σ H Q := by
  unfold tLc iList
  refine hv _ ⟨a, rfl, ⟨_, ha⟩, fun D nD => ?_⟩
  refine lc_list (xs := us) (fun i H' => ∃ ws, H' D = some (.lst ws) ∧ Rw (R2 D H') ws (gs.take i) ∧ Kp [] H H') ⟨[], upd_same, .nil, Kp.new nD⟩ (fun i H' _ h => by obtain ⟨_, _, _, k⟩ := h; exact k.ls not0 ha) (fun i x H' hx h => ?_) fun H' h => ?_
  · obtain ⟨g, eg, hg⟩ := hr.get hx
    obtain ⟨ws, hD, hw, kp⟩ := h
    refine ⟨by simp [wipe], ?_⟩
    simp only [tYes, if_true]
    refine elt D x g H' _ (List.mem_of_getElem? eg) (mono _ _ _ _ kp hg) kp ⟨_, hD⟩ fun v' H2 h2 k2 => ?_
    have hD2 := k2 _ _ not0 hD
    have kD : ∀ u, Kp [D] H2 (upd H2 D u) := fun u => (Kp.refl [D] H2).put (by simp)
    refine ⟨_, hD2, ?_, ws ++ [v'], upd_same, ?_, (kp.trans k2).wr nD⟩
    · rw [hw.len, List.length_take]; exact smallL (by omega)
    · rw [take_snoc eg]
      exact (hw.mono fun u g r => mono2 _ _ _ _ _ _ hD2 (kD _) (mono2 _ _ _ _ _ _ hD k2.of0 r)).snoc (mono2 _ _ _ _ _ _ hD2 (kD _) h2)
  · obtain ⟨ws, hD, hw, kp⟩ := h
    rw [hr.len, List.take_length] at hw
    exact fin D ws H' nD hD hw kp
theorem dcT_it {J : It} {n : Nat} {G : Hp → Prop} {Y : Nat → Hp → V → Hp → Prop} (wk : Walk J n G Y) {g : TG} {tt : TT} {tk tv : TE} {vs : List Nat} {σ : L2.St} {H1 : Hp} {D : Addr} {Qd : Hp → Prop} (Inv : Nat → Hp → Prop) (begins : Inv 0 (upd H1 D (.dT []))) (may : ∀ i H, i ≤ n → Inv i H → G H)
    (turn : ∀ i x H H', i < n → Inv i H → Y i H x H' → g x (wipe σ vs) H' fun σ2 H2 => wipe σ2 vs = wipe σ vs ∧ tt σ2 H2 fun b H3 =>
      if b = true then tk σ2 H3 fun y H4 => tv σ2 H4 fun z H5 => ∃ (kvs : List (List Key × V)) (k : List Key) (c : Addr), y = .ref c ∧ H5 c = some (.tup (k.map kV)) ∧ H5 D = some (.dT kvs) ∧ kvs.length < sizeLine ∧ Inv (i + 1) (upd H5 D (.dT (putK kvs k z))) else Inv (i + 1) H3) (ends : ∀ H, Inv n H → Qd H) :
    ∃ W : Nat → Nat → Hp → Prop, (∃ m, W 0 m (upd H1 D (.dT []))) ∧ ∀ i m H, W i m H →
      (J.stop i H ∧ Qd H) ∨ (J.go i H ∧ ∃ Nx : Hp → Prop, (∀ H', Nx H' → ∃ m', m' < m ∧ W (i + 1) m' H') ∧ ∀ x H', J.yld i H x H' → g x (wipe σ vs) H' fun σ2 H2 => wipe σ2 vs = wipe σ vs ∧ tt σ2 H2 fun b H3 =>
        if b = true then tk σ2 H3 fun y H4 => tv σ2 H4 fun z H5 => ∃ (kvs : List (List Key × V)) (k : List Key) (c : Addr), y = .ref c ∧ H5 c = some (.tup (k.map kV)) ∧ H5 D = some (.dT kvs) ∧ kvs.length < sizeLine ∧ Nx (upd H5 D (.dT (putK kvs k z))) else Nx H3) := by
  refine ⟨fun i m H => m + i = n ∧ Inv i H, ⟨n, rfl, begins⟩, fun i m H h => ?_⟩
  obtain ⟨e, p⟩ := h
  have ok := may i H (by omega) p
  rcases Nat.lt_or_ge i n with lt | ge
  · exact .inr ⟨wk.goes i H lt ok, Inv (i + 1), fun H' p' => ⟨m - 1, by omega, by omega, p'⟩, fun x H' y => turn i x H H' lt p (wk.yields i H x H' lt ok y)⟩
  · have z : i = n := by omega
    subst z
    exact .inl ⟨wk.stops H ok, ends H p⟩
/-! ### rows, and what a web keeps of them -/
def RwAt (H : Hp) (v : V) (ms : List Mv) : Prop := ∃ a us, v = .ref a ∧ H a = some (.lst us) ∧ Rw (TM H) us ms
def SrtAt (D : Addr) (H : Hp) (v : V) (ms : List Mv) : Prop := ∃ a us ms', v = .ref a ∧ a ≠ D ∧ H a = some (.lst us) ∧ Rw (TM H) us ms' ∧ ms'.Perm ms ∧ SrtO.Srtd mvLt ms'
def entM (m : Mv) : List Key × V := (dK m.1, .int m.2)
def GlAt (H : Hp) (v : V) (ms : List Mv) : Prop := ∃ a, v = .ref a ∧ H a = some (.dT (ms.map entM))
def hidM (ms : List Mv) : List Int := (ms.filter fun m => !visB m.1).map (·.2)
def HdAtD (D : Addr) (H : Hp) (v : V) (ms : List Mv) : Prop := ∃ a, v = .ref a ∧ a ≠ D ∧ H a = some (.lst ((hidM ms).map V.int))
def HdAt (H : Hp) (v : V) (ms : List Mv) : Prop := ∃ a, v = .ref a ∧ H a = some (.lst ((hidM ms).map V.int))
theorem rwTM {H H' : Hp} {us : List V} {ms : List Mv} (r : Rw (TM H) us ms) (t : Tp H H') : Rw (TM H') us ms := r.mono fun _ _ z => z.tp t
theorem RwAt.kd {H H' : Hp} {v : V} {ms : List Mv} (h : RwAt H v ms) (k : Kd H H') : RwAt H' v ms := by
  obtain ⟨a, us, e, h, r⟩ := h
  exact ⟨a, us, e, k _ _ True.intro h, rwTM r k.tps⟩
theorem GlAt.kd {H H' : Hp} {v : V} {ms : List Mv} (h : GlAt H v ms) (k : Kd H H') : GlAt H' v ms := by
  obtain ⟨a, e, h⟩ := h
  exact ⟨a, e, k _ _ True.intro h⟩
theorem HdAt.kd {H H' : Hp} {v : V} {ms : List Mv} (h : HdAt H v ms) (k : Kd H H') : HdAt H' v ms := by
  obtain ⟨a, e, h⟩ := h
  exact ⟨a, e, k _ _ True.intro h⟩
theorem SrtAt.kp {D : Addr} {H H' : Hp} {v : V} {ms : List Mv} {ys : List V} (hD : H D = some (.lst ys)) (k : Kp [D] H H') (h : SrtAt D H v ms) : SrtAt D H' v ms := by
  obtain ⟨a, us, ms', e, n, h, r, p⟩ := h
  exact ⟨a, us, ms', e, n, k _ _ (not1 n) h, rwTM r (k.tpsL hD), p⟩
theorem HdAtD.kp {D : Addr} {H H' : Hp} {v : V} {ms : List Mv} {ys : List V} (hD : H D = some (.lst ys)) (k : Kp [D] H H') (h : HdAtD D H v ms) : HdAtD D H' v ms := by
  obtain ⟨a, e, n, h⟩ := h
  exact ⟨a, e, n, k _ _ (not1 n) h⟩
theorem GlAt.kp {D : Addr} {H H' : Hp} {v : V} {ms : List Mv} {ys : List V} (hD : H D = some (.lst ys)) (k : Kp [D] H H') (h : GlAt H v ms) : GlAt H' v ms := by
  obtain ⟨a, e, h⟩ := h
  exact ⟨a, e, k _ _ (not1 fun z => by rw [z, hD] at h; cases h) h⟩
def SrM (ms ms' : List Mv) : Prop := ms'.Perm ms ∧ SrtO.Srtd mvLt ms'
theorem kV_inj {a b : Key} (h : kV a = kV b) : a = b := by
  cases a <;> cases b <;> cases h <;> rfl
theorem TD.inj {H : Hp} {t : Addr} {d d' : Dd} (h : TD H t d) (h' : TD H t d') : d = d' := by
  obtain ⟨a1, a2, a3⟩ := d
  obtain ⟨b1, b2, b3⟩ := d'
  unfold TD at h h'
  rw [h] at h'
  injection h' with h'
  injection h' with h'
  injection h' with e1 h'
  injection h' with e2 h'
  injection h' with e3 h'
  injection e1 with e1
  injection e2 with e2
  have e3 := kV_inj e3
  subst e1; subst e2; subst e3; rfl
theorem TM.inj {H : Hp} {v : V} {m m' : Mv} (h : TM H v m) (h' : TM H v m') : m = m' := by
  obtain ⟨a, t, e, h, d⟩ := h
  obtain ⟨a', t', e', h', d'⟩ := h'
  rw [e] at e'
  injection e' with e'
  subst e'
  rw [h] at h'
  injection h' with h'
  injection h' with h'
  injection h' with e1 h'
  injection h' with e2 h'
  injection e1 with e1
  injection e2 with e2
  subst e1
  obtain ⟨m1, m2⟩ := m
  obtain ⟨n1, n2⟩ := m'
  have e2 : m2 = n2 := e2
  have := TD.inj d d'
  have this : m1 = n1 := this
  rw [e2, this]
open Classical in
noncomputable def kOf (H : Hp) (v : V) : Mv := if h : ∃ m, TM H v m then h.choose else ((0, "", .inl 0), 0)
theorem kOf_eq {H : Hp} {v : V} {m : Mv} (h : TM H v m) : kOf H v = m := by
  unfold kOf
  rw [dif_pos ⟨m, h⟩]
  exact TM.inj (Exists.choose_spec (p := fun m => TM H v m) ⟨m, h⟩) h
theorem kOf_map {H : Hp} {us : List V} {ms : List Mv} (h : Rw (TM H) us ms) : us.map (kOf H) = ms := by
  refine List.ext_getElem? fun i => ?_
  rw [List.getElem?_map]
  cases e : us[i]? with
  | none =>
    have := List.getElem?_eq_none_iff.mp e
    exact (List.getElem?_eq_none_iff.mpr (by rw [← h.len]; exact this)).symm
  | some u =>
    obtain ⟨m, em, hm⟩ := h.get e
    rw [em]
    exact congrArg some (kOf_eq hm)
theorem kOf_rw {H : Hp} {us : List V} {ms : List Mv} (h : Rw (TM H) us ms) {ys : List V} (p : ys.Perm us) : Rw (TM H) ys (ys.map (kOf H)) := by
  refine ⟨by simp, fun {i x} e => ?_⟩
  have hx : x ∈ us := p.mem_iff.mp (List.mem_of_getElem? e)
  obtain ⟨j, ej⟩ := List.getElem?_of_mem hx
  obtain ⟨m, _, hm⟩ := h.get ej
  refine ⟨m, ?_, hm⟩
  rw [List.getElem?_map, e]
  exact congrArg some (kOf_eq hm)
theorem strOk_name {z : Str} (h : nameS z = true) : PyData.strOk z = true := by
  unfold nameS at h
  rw [Bool.and_eq_true, Bool.and_eq_true] at h
  unfold PyData.strOk
  rw [← Array.all_toList, List.all_eq_true]
  intro c hc
  have := List.all_eq_true.mp h.2.2 c hc
  unfold lowC at this
  rw [Bool.and_eq_true, decide_eq_true_eq, decide_eq_true_eq] at this
  exact decide_eq_true (by omega)
theorem MvOk.of {n : Nat} {m : Mv} (hd : GoodDd m.1) (hg : 0 ≤ m.2 ∧ m.2 < n) : MvOk m := by
  obtain ⟨⟨c, wd, k⟩, g⟩ := m
  obtain ⟨c0, c3, h⟩ := hd
  refine ⟨c0, hg.1, ?_, ?_⟩
  · rcases h with ⟨_, z, hx, hz⟩ | ⟨_, j, hx, j0, j9⟩
    · have hx : k = .inr z := hx
      subst hx; exact True.intro
    · have hx : k = .inl j := hx
      subst hx; exact j0
  · have key : PyData.strOk wd = true ∧ PyData.canLay0 (kD k) = true := by
      rcases h with ⟨hw, z, hx, hz⟩ | ⟨hw, j, hx, j0, j9⟩
      · have hx : k = .inr z := hx
        have hw : wd = ("call" : Str) := hw
        subst hx; subst hw
        exact ⟨by decide +kernel, strOk_name hz⟩
      · have hx : k = .inl j := hx
        subst hx
        refine ⟨?_, rfl⟩
        rcases hw with hw | hw
        · have hw : wd = ("return" : Str) := hw
          subst hw; decide +kernel
        · have hw : wd = ("step" : Str) := hw
          subst hw; decide +kernel
    show (true && (PyData.strOk wd && (PyData.canLay0 (kD k) && true))) = true
    rw [key.1, key.2]; rfl
theorem MvCmp.of {m m' : Mv} (h : GoodDd m.1) (h' : GoodDd m'.1) : MvCmp m m' := by
  obtain ⟨⟨c, wd, k⟩, g⟩ := m
  obtain ⟨⟨c', wd', k'⟩, g'⟩ := m'
  obtain ⟨_, _, h⟩ := h
  obtain ⟨_, _, h'⟩ := h'
  intro _ e
  have e : wd = wd' := e
  subst e
  have nc : ¬ (wd = ("call" : Str) ∧ (wd = ("return" : Str) ∨ wd = ("step" : Str))) := by
    rintro ⟨rfl, h | h⟩
    · exact absurd h (by decide +kernel)
    · exact absurd h (by decide +kernel)
  show sameK k k' = true
  rcases h with ⟨hw, z, hx, hz⟩ | ⟨hw, j, hx, j0, j9⟩
  · have hx : k = .inr z := hx
    subst hx
    rcases h' with ⟨hw', z', hx', hz'⟩ | ⟨hw', j', hx', j0', j9'⟩
    · have hx' : k' = .inr z' := hx'
      subst hx'; rfl
    · exact absurd ⟨hw, hw'⟩ nc
  · have hx : k = .inl j := hx
    subst hx
    rcases h' with ⟨hw', z', hx', hz'⟩ | ⟨hw', j', hx', j0', j9'⟩
    · exact absurd ⟨hw', hw⟩ nc
    · have hx' : k' = .inl j' := hx'
      subst hx'; rfl
section
variable {K : PySem.W.Frag}
theorem TM.dp {H : Hp} {v : V} {m : Mv} (h : TM H v m) : Dp K H v (mvD m) := by
  obtain ⟨a, t, rfl, h1, h2⟩ := h
  exact .tup (sq_t h1) (.cons (.tup (sq_t h2) (.cons (.int _) (.cons (.str _) (.cons (by cases m.1.2.2 with | inl i => exact .int i | inr z => exact .str z) .nil)))) (.cons (.int _) .nil))
end
end My

set_option Elab.async false
set_option linter.all false
set_option maxRecDepth 100000
set_option maxHeartbeats 4000000
namespace My
open PySem L2 NdefX
abbrev s_Web_init : Stmt := mtop 19 0
theorem sc_Web_init : FnScope ["self", "rows", "at", "row", "deed", "goal"] ["self", "rows"] (defScope s_Web_init) := ⟨rfl, rfl, rfl, by decide +kernel, rfl, by decide +kernel, by decide +kernel⟩
structure BtW (mg : Str → Option Value) (t1 : Tok) : Prop where
  b_sorted : mg "sorted" = none
  b_list : mg "list" = none
  b_len : mg "len" = none
  b_enumerate : mg "enumerate" = none
  c_MOST_STANDINGS : mg "MOST_STANDINGS" = some (.int 4000 t1)
structure WbC (K : PySem.W.Frag) (mg : Str → Option Value) (WC : Addr) : Prop where
  k : mg "Web" = some (.ref WC)
  cl : Cls K WC
  n1 : NoAttr K WC "_rows"
  n2 : NoAttr K WC "_goals"
  n3 : NoAttr K WC "_hidden"
/-- at o a web whose sorted rows these are -/
def WebAt (WC : Addr) (H : Hp) (o : Addr) (srs : List (List Mv)) : Prop := ∃ (dx a b c : Addr) (us gs hs : List V), H o = some (.ins WC dx [("_rows", .ref a), ("_goals", .ref b), ("_hidden", .ref c)]) ∧ H a = some (.lst us) ∧ Rw (RwAt H) us srs ∧ H b = some (.lst gs) ∧ Rw (GlAt H) gs srs ∧ H c = some (.lst hs) ∧ Rw (HdAt H) hs srs
theorem WebAt.kp {WC : Addr} {H H' : Hp} {o : Addr} {srs : List (List Mv)} (h : WebAt WC H o srs) (k : Kp [] H H') : WebAt WC H' o srs := by
  obtain ⟨dx, a, b, c, us, gs, hs, h1, h2, r2, h3, r3, h4, r4⟩ := h
  exact ⟨dx, a, b, c, us, gs, hs, k _ _ not0 h1, k _ _ not0 h2, r2.mono fun _ _ z => z.kd k.kd, k _ _ not0 h3, r3.mono fun _ _ z => z.kd k.kd, k _ _ not0 h4, r4.mono fun _ _ z => z.kd k.kd⟩
structure SrRel (rows srs : List (List Mv)) : Prop where
  len : srs.length = rows.length
  at_ : ∀ {i : Nat} {r : List Mv}, rows[i]? = some r → ∃ s, srs[i]? = some s ∧ SrM r s
theorem srt_split {D : Addr} {H : Hp} : ∀ {rows : List (List Mv)} {ws : List V}, Rw (SrtAt D H) ws rows → ∃ srs, SrRel rows srs ∧ Rw (RwAt H) ws srs
  | [], ws, h => ⟨[], ⟨rfl, fun e => nomatch e⟩, by rw [h.isNil]; exact .nil⟩
  | r :: rows, ws, h => by
    obtain ⟨u, ws', rfl, ⟨a, us, ms', e, _, hl, hr, p⟩, t⟩ := h.ex
    obtain ⟨srs, s1, s2⟩ := srt_split t
    refine ⟨ms' :: srs, ⟨by simp [s1.len], fun {i x} e => ?_⟩, .cons ⟨a, us, e, hl, hr⟩ s2⟩
    cases i with
    | zero => cases e; exact ⟨ms', rfl, p⟩
    | succ i => exact s1.at_ (i := i) e
def spWI (WC : Addr) : Sp := fun vs H Q E => ∃ (o dx a : Addr) (us : List V) (rows : List (List Mv)), vs = [.ref o, .ref a] ∧ H o = some (.ins WC dx []) ∧ H a = some (.lst us) ∧ Rw (RwAt H) us rows ∧ 1 ≤ rows.length ∧ rows.length ≤ 100 ∧ (∀ r ∈ rows, GoodRw rows.length r) ∧
  ∀ srs H', SrRel rows srs → WebAt WC H' o srs → Kp [o] H H' → Q .non H'
def T1 (K : PySem.W.Frag) : TE := tCB (rSortedM K) (tCons (tCB (rLstOf K) (tCons (tVar 3) tNil)) tNil)
section
variable {P : Program} {w : World} {K : PySem.W.Frag} {mg : Str → Option Value} {base : Heap} {tL t1 t2 : Tok}
theorem GoodRw.perm {n : Nat} {ms ms' : List Mv} (h : GoodRw n ms) (p : ms'.Perm ms) : GoodRw n ms' := ⟨fun m hm => h.deed m (p.mem_iff.mp hm), fun m hm => h.goal m (p.mem_iff.mp hm), (p.map (·.1)).nodup_iff.mpr h.uniq, by rw [p.length_eq]; exact h.len⟩
theorem w_elt1 {n : Nat} {a0 a1 a2 a4 a5 : Option V} {H' : Hp} {v : V} {ms : List Mv} {D : Addr} (hg : GoodRw n ms) (h : RwAt H' v ms) (hD : ∃ ys, H' D = some (.lst ys)) {Q' : VK} (q : ∀ v' H2, SrtAt D H2 v' ms → Kp [] H' H2 → Q' v' H2) : T1 K [a0, a1, a2, some v, a4, a5] H' Q' := by
  obtain ⟨r, us, rfl, hr, hm⟩ := h
  obtain ⟨dys, hD⟩ := hD
  unfold T1
  try simp (maxSteps := 1000000) only [tSeq, tIfS, tTest, tOp, tUn, tCB, tCons, tNil, tVar, tC, rI0, rI, rU, rEq, rNe, tRet, tRetN, tAsg, gName, gSub, tBM, tBM0, tNext, tB, tNot, tAnd, tOr, tIf, tCall, tDrop, tBreak, tCont, L2.start, tDGet, sDPut, tTup, tLst, tDNewK, tRevL, rCat, rAppend, rPop, rSetL, tAndV, tOrV, tNotV, tSl, tPart, tNoPart, tM1, gTup, gCons, gNil, cxK, cxnK, List.map_cons, List.map_nil, List.length_cons, List.length_nil, List.replicate, List.cons_append, List.nil_append, List.append_nil, List.set_cons_zero, List.set_cons_succ, List.getElem?_cons_zero, List.getElem?_cons_succ, Option.some.injEq, V.ref.injEq, V.int.injEq, V.str.injEq, V.bl.injEq, V.ty.injEq, exists_eq_left', exists_eq_left, exists_and_left, List.cons.injEq, and_true, true_and, sc_ii, sc_ss, sc_bb, sc_ni, sc_in, sc_is, sc_si, sc_nn, decide_true, decide_false, reduceCtorEq, Bool.false_eq_true, if_true, if_false, ite_true, ite_false, exists_const, eq_self, false_and, and_false, or_false, false_or, exists_false, Evl.rLenS, rSum, wipe, tYes, exists_eq, exists_eq', rIxL, rIxT, rIxS, exists_and_right, gt_iff_lt, not_true_eq_false, not_false_eq_true, Bool.not_true, Bool.not_false, decide_eq_true_eq, Nat.reduceSub, Nat.reduceAdd, List.append_assoc, tChain, tDIn, tDNotIn, sDDel, tAug, ipI, rInt1_int, rInt1_bl]
  refine ⟨r, us, rfl, .inl (sq_l hr), fun l nl => ?_⟩
  have k1 : Kp [] H' (upd H' l (.lst us)) := Kp.new nl
  have hl : (upd H' l (.lst us)) l = some (.lst us) := upd_same
  generalize upd H' l (.lst us) = H2 at k1 hl
  have hm2 := rwTM hm k1.tps
  have hx : ∀ x ∈ us, ∃ m ∈ ms, TM H2 x m := fun x hx => by
    obtain ⟨j, ej⟩ := List.getElem?_of_mem hx
    obtain ⟨m, em, hm⟩ := hm2.get ej
    exact ⟨m, List.mem_of_getElem? em, hm⟩
  refine ⟨l, us, kOf H2, rfl, sq_l hl, fun x hh => ?_, fun x hh y hy => ?_, fun ys p srt perm np => ?_⟩
  · obtain ⟨m, mm, hm⟩ := hx x hh
    rw [kOf_eq hm]
    exact ⟨hm.dp, MvOk.of (hg.deed m mm) (hg.goal m mm)⟩
  · obtain ⟨m, mm, hm⟩ := hx x hh
    obtain ⟨m', mm', hm'⟩ := hx y hy
    rw [kOf_eq hm, kOf_eq hm']
    exact MvCmp.of (hg.deed m mm) (hg.deed m' mm')
  · have k2 : Kp [] H2 (upd H2 p (.lst ys)) := Kp.new np
    refine q _ _ ⟨p, ys, ys.map (kOf H2), rfl, fun z => ?_, upd_same, rwTM (kOf_rw hm2 perm) k2.tps, ?_, ?_⟩ (k1.trans k2)
    · rw [z, k1 _ _ not0 hD] at np; cases np
    · have := perm.map (kOf H2)
      rw [kOf_map hm2] at this
      exact this
    · exact List.pairwise_map.mpr srt
def T2 (K : PySem.W.Frag) : TE := tDcT (iList K (tVar 3)) (gTup K 2 (gCons (gName 4) (gCons (gName 5) gNil))) tYes (tVar 4) (tVar 5) [4, 5]
theorem not_before {ms : List Mv} {i : Nat} {m : Mv} (nd : (ms.map (·.1)).Nodup) (em : ms[i]? = some m) : dK m.1 ∉ (ms.take i).map fun m => dK m.1 := by
  intro hh
  have li : i < ms.length := (List.getElem?_eq_some_iff.mp em).1
  obtain ⟨m', hm', e⟩ := List.mem_map.mp hh
  have e := dK_inj e
  obtain ⟨j, hj, ej⟩ := List.mem_iff_getElem.mp hm'
  rw [List.length_take] at hj
  rw [List.getElem_take] at ej
  have := List.pairwise_iff_getElem.mp (List.nodup_iff_pairwise_ne.mp nd) j i (by rw [List.length_map]; omega) (by rw [List.length_map]; omega) (by omega)
  rw [List.getElem_map, List.getElem_map, ej, (List.getElem?_eq_some_iff.mp em).2] at this
  exact this e
theorem w_elt2 {n : Nat} {a0 a1 a2 a4 a5 : Option V} {H' : Hp} {v : V} {ms : List Mv} (hg : GoodRw n ms) (h : RwAt H' v ms) {Q' : VK} (q : ∀ v' H2, GlAt H2 v' ms → Kp [] H' H2 → Q' v' H2) : T2 K [a0, a1, a2, some v, a4, a5] H' Q' := by
  obtain ⟨r, us, rfl, hr, hm⟩ := h
  unfold T2 tDcT iList
  refine ⟨.ref r, rfl, r, rfl, ⟨_, sq_l hr⟩, fun D nD => dcT_it (walk_list (K := K) (a := r) (xs := us)) (fun i H2 => H2 D = some (.dT ((ms.take i).map entM)) ∧ Kp [] H' H2) ⟨upd_same, Kp.new nD⟩ (fun i H2 _ h => h.2.ls not0 (sq_l hr)) ?_ ?_⟩
  · rintro i x H2 H3 hi ⟨hD, kp⟩ ⟨rfl, hx⟩
    obtain ⟨m, em, hm⟩ := hm.get hx
    obtain ⟨b, t, rfl, hb, ht⟩ := hm.tp kp.tps
    try simp (maxSteps := 1000000) only [tSeq, tIfS, tTest, tOp, tUn, tCB, tCons, tNil, tVar, tC, rI0, rI, rU, rEq, rNe, tRet, tRetN, tAsg, gName, gSub, tBM, tBM0, tNext, tB, tNot, tAnd, tOr, tIf, tCall, tDrop, tBreak, tCont, L2.start, tDGet, sDPut, tTup, tLst, tDNewK, tRevL, rCat, rAppend, rPop, rSetL, tAndV, tOrV, tNotV, tSl, tPart, tNoPart, tM1, gTup, gCons, gNil, cxK, cxnK, List.map_cons, List.map_nil, List.length_cons, List.length_nil, List.replicate, List.cons_append, List.nil_append, List.append_nil, List.set_cons_zero, List.set_cons_succ, List.getElem?_cons_zero, List.getElem?_cons_succ, Option.some.injEq, V.ref.injEq, V.int.injEq, V.str.injEq, V.bl.injEq, V.ty.injEq, exists_eq_left', exists_eq_left, exists_and_left, List.cons.injEq, and_true, true_and, sc_ii, sc_ss, sc_bb, sc_ni, sc_in, sc_is, sc_si, sc_nn, decide_true, decide_false, reduceCtorEq, Bool.false_eq_true, if_true, if_false, ite_true, ite_false, exists_const, eq_self, false_and, and_false, or_false, false_or, exists_false, Evl.rLenS, rSum, wipe, tYes, exists_eq, exists_eq', rIxL, rIxT, rIxS, exists_and_right, gt_iff_lt, not_true_eq_false, not_false_eq_true, Bool.not_true, Bool.not_false, decide_eq_true_eq, Nat.reduceSub, Nat.reduceAdd, List.append_assoc, tChain, tDIn, tDNotIn, sDDel, tAug, ipI, rInt1_int, rInt1_bl]
    have ln : ((ms.take i).map entM).length < sizeLine := by
      rw [List.length_map, List.length_take, sizeLine_eq]
      have := hg.len
      omega
    have vn : valV ((ms.take i).map entM) (dK m.1) = none := valV_none (by
      rw [List.map_map]
      exact not_before hg.uniq em)
    refine ⟨_, sq_t hb, rfl, _, _, rfl, _, _, rfl, rfl, _, dK m.1, t, rfl, ht.key, hD, ln, ?_, kp.wr nD⟩
    rw [upd_same, putK_new _ vn, take_snoc em, List.map_append]; rfl
  · rintro H2 ⟨hD, kp⟩
    rw [hm.len, List.take_length] at hD
    exact q _ _ ⟨D, rfl, hD⟩ kp
def T3 (K : PySem.W.Frag) : TE := tLc (iList K (tVar 3)) (gTup K 2 (gCons (gName 4) (gCons (gName 5) gNil))) (tNot (tB (tCall spVis [] E0 (tCons (tVar 4) tNil)))) (tVar 5) [4, 5]
theorem w_elt3 {n : Nat} {a0 a1 a2 a4 a5 : Option V} {H' : Hp} {v : V} {ms : List Mv} {D : Addr} (hg : GoodRw n ms) (h : RwAt H' v ms) (hD : ∃ ys, H' D = some (.lst ys)) {Q' : VK} (q : ∀ v' H2, HdAtD D H2 v' ms → Kp [] H' H2 → Q' v' H2) : T3 K [a0, a1, a2, some v, a4, a5] H' Q' := by
  obtain ⟨r, us, rfl, hr, hm⟩ := h
  obtain ⟨dys, hD⟩ := hD
  unfold T3 tLc iList
  refine ⟨.ref r, rfl, r, rfl, ⟨_, sq_l hr⟩, fun p np => lc_list (xs := us) (fun i H2 => H2 p = some (.lst ((hidM (ms.take i)).map V.int)) ∧ Kp [] H' H2) ⟨upd_same, Kp.new np⟩ (fun i H2 _ h => h.2.ls not0 (sq_l hr)) (fun i x H2 hx h => ?_) fun H2 h => ?_⟩
  · obtain ⟨hp, kp⟩ := h
    obtain ⟨m, em, hm⟩ := hm.get hx
    obtain ⟨b, t, rfl, hb, ht⟩ := hm.tp kp.tps
    try simp (maxSteps := 1000000) only [tSeq, tIfS, tTest, tOp, tUn, tCB, tCons, tNil, tVar, tC, rI0, rI, rU, rEq, rNe, tRet, tRetN, tAsg, gName, gSub, tBM, tBM0, tNext, tB, tNot, tAnd, tOr, tIf, tCall, tDrop, tBreak, tCont, L2.start, tDGet, sDPut, tTup, tLst, tDNewK, tRevL, rCat, rAppend, rPop, rSetL, tAndV, tOrV, tNotV, tSl, tPart, tNoPart, tM1, gTup, gCons, gNil, cxK, cxnK, List.map_cons, List.map_nil, List.length_cons, List.length_nil, List.replicate, List.cons_append, List.nil_append, List.append_nil, List.set_cons_zero, List.set_cons_succ, List.getElem?_cons_zero, List.getElem?_cons_succ, Option.some.injEq, V.ref.injEq, V.int.injEq, V.str.injEq, V.bl.injEq, V.ty.injEq, exists_eq_left', exists_eq_left, exists_and_left, List.cons.injEq, and_true, true_and, sc_ii, sc_ss, sc_bb, sc_ni, sc_in, sc_is, sc_si, sc_nn, decide_true, decide_false, reduceCtorEq, Bool.false_eq_true, if_true, if_false, ite_true, ite_false, exists_const, eq_self, false_and, and_false, or_false, false_or, exists_false, Evl.rLenS, rSum, wipe, tYes, exists_eq, exists_eq', rIxL, rIxT, rIxS, exists_and_right, gt_iff_lt, not_true_eq_false, not_false_eq_true, Bool.not_true, Bool.not_false, decide_eq_true_eq, Nat.reduceSub, Nat.reduceAdd, List.append_assoc, tChain, tDIn, tDNotIn, sDDel, tAug, ipI, rInt1_int, rInt1_bl]
    refine ⟨_, sq_t hb, rfl, _, _, rfl, _, _, rfl, rfl, t, m.1, rfl, ht, _, rfl, ?_⟩
    have e1 : hidM (ms.take (i + 1)) = if (!visB m.1) = true then hidM (ms.take i) ++ [m.2] else hidM (ms.take i) := by
      unfold hidM
      rw [take_snoc em, List.filter_append, List.map_append]
      cases hv : visB m.1 with
      | true => simp [hv]
      | false => simp [hv]
    rw [e1]
    cases hv : visB m.1 with
    | true =>
      simp only [Bool.not_true, Bool.false_eq_true, if_false]
      exact ⟨hp, kp⟩
    | false =>
      simp only [Bool.not_false, if_true]
      refine ⟨_, hp, ?_, ?_, kp.wr np⟩
      · rw [List.length_map]
        unfold hidM
        rw [List.length_map]
        have h1 := List.length_filter_le (fun m => !visB m.1) (ms.take i)
        rw [List.length_take] at h1
        have := hg.len
        rw [sizeLine_eq]; omega
      · rw [upd_same, List.map_append]; rfl
  · obtain ⟨hp, kp⟩ := h
    rw [hm.len, List.take_length] at hp
    exact q _ _ ⟨p, rfl, (fun z => by rw [z, hD] at np; cases np), hp⟩ kp
theorem ok_Web_init {f : Addr} {fd : FuncData} (F : Fun K "__init__" "Web.__init__" s_Web_init f fd) (T : BtW mg t1) {WC TL BW fT fC : Addr} {fdT fdC : FuncData} (C : WbC K mg WC) (E_TooLarge : Er1 P w K mg base "TooLarge" "bound" TL fT fdT ["self", "bound"] SmallI) (E_BadWeb : Er1 P w K mg base "BadWeb" "at" BW fC fdC ["self", "at"] SmallI)
    {fm : Addr} {fdm : FuncData} (D_are_moves : Df K mg "are_moves" s_are_moves ["row", "many"] fm fdm) (G_are_moves : FnOk P w K mg base CX0 4 fm fdm ["row", "many"] spMoves)
    {fs : Addr} {fds : FuncData} (D_is_visible : Df K mg "is_visible" s_is_visible ["deed"] fs fds) (G_is_visible : FnOk P w K mg base CX0 1 fs fds ["deed"] spVis) : FnOk P w K mg base (L2.CX P w) 5 f fd ["self", "rows"] (spWI WC) := by
  refine F.okX sc_Web_init (fun vs H Q E h => ?_) (fun cdv A outer s H vs Q E hr h => ?_)
  · obtain ⟨o, dx, a, us, rows, rfl, _⟩ := h
    rfl
  · obtain ⟨o, dx, a, us, rows, rfl, ho, ha, hus, l1, l2, hg, q⟩ := h
    refine ⟨_, (pss_cons (ps_if (pt_not (pt_chain op_le op_le pe_int (pe_callB (id := "len") (r := Evl.rLenS K) call_len_seq (by rfl) T.b_len PySem.boot_len (pa_cons (pv 1) pa_nil)) (pe_glob (v := .int 4000) rfl T.c_MOST_STANDINGS ⟨_, rfl⟩))) (pss_one (ps_raise rfl (takes_of rfl rfl rfl rfl) (pmk_oex E_TooLarge.ox E_TooLarge.ic E_TooLarge.ti E_TooLarge.G (hr.mono (by decide)) E_TooLarge.b .nil passL rfl E_TooLarge.k (pa_cons (pe_glob (v := .int 4000) rfl T.c_MOST_STANDINGS ⟨_, rfl⟩) pa_nil)))) pss_nil)
      (pss_cons (ps_for (passes_of rfl) rfl (pi_enum rfl T.b_enumerate (pa_cons (pv 1) pa_nil)) (pg_tup (n := 2) (by rfl) (pgs_cons (pg_name (i := 2) sc_Web_init.nd rfl (Or.inl rfl)) (pgs_cons (pg_name (i := 3) sc_Web_init.nd rfl (Or.inl rfl)) pgs_nil))) (pss_one (ps_if (pt_not (pt_val (pe_call G_are_moves (hr.mono (by decide)) rfl D_are_moves.g D_are_moves.F.kp D_are_moves.b .nil pass0 (pa_cons (pv 3) (pa_cons (pe_callB (id := "len") (r := Evl.rLenS K) call_len_seq (by rfl) T.b_len PySem.boot_len (pa_cons (pv 1) pa_nil)) pa_nil))))) (pss_one (ps_raise rfl (takes_of rfl rfl rfl rfl) (pmk_oex E_BadWeb.ox E_BadWeb.ic E_BadWeb.ti E_BadWeb.G (hr.mono (by decide)) E_BadWeb.b .nil passL rfl E_BadWeb.k (pa_cons (pv 2) pa_nil)))) pss_nil)))
      (pss_cons (ps_fld (pv 0) (pe_lc (own := [("row", 3)]) (g := (gName 3)) (tt := tYes) rfl sc_Web_init.nd (pi_list (pv 1)) (blkOk_by (N := ["self", "rows", "at", "row", "deed", "goal"]) (sc := defScope s_Web_init) (by decide +kernel)) (fun _ _ _ _ _ => (pg_name (i := 3) sc_Web_init.nd rfl (Or.inl rfl))) (fun _ _ _ _ _ => pts_nil) (fun _ _ _ _ _ => (pe_callB (id := "sorted") (r := rSortedM K) (cr_sortedM (hu6 hr)) (by rfl) T.b_sorted (by decide +kernel) (pa_cons (pe_callTy (T := "list") (r := rLstOf K) call_list_of (by rfl) T.b_list (by decide +kernel) (pa_cons (pv 3) pa_nil)) pa_nil)))) rfl)
      (pss_cons (ps_fld (pv 0) (pe_lc (own := [("row", 3)]) (g := (gName 3)) (tt := tYes) rfl sc_Web_init.nd (pi_list (pe_fld (pv 0) rfl)) (blkOk_by (N := ["self", "rows", "at", "row", "deed", "goal"]) (sc := defScope s_Web_init) (by decide +kernel)) (fun _ _ _ _ _ => (pg_name (i := 3) sc_Web_init.nd rfl (Or.inl rfl))) (fun _ _ _ _ _ => pts_nil) (fun _ _ _ _ _ => (pe_dcT (own := [("deed", 4), ("goal", 5)]) (g := (gTup K 2 (gCons (gName 4) (gCons (gName 5) gNil)))) (tt := tYes) (hu_of hr) rfl sc_Web_init.nd ((pi_list (pv 3)) : PI _ _ _ (iList K _)) (blkOk_by (N := ["self", "rows", "at", "row", "deed", "goal"]) (sc := { kind := .function, names := [(".0", .local), ("row", .local)], isGenerator := false, isCoroutine := false }) (by decide +kernel)) (fun _ _ _ _ _ => (pg_tup (n := 2) (by rfl) (pgs_cons (pg_name (i := 4) sc_Web_init.nd rfl (Or.inl rfl)) (pgs_cons (pg_name (i := 5) sc_Web_init.nd rfl (Or.inl rfl)) pgs_nil)))) (fun _ _ _ _ _ => pts_nil) (fun _ _ _ _ _ => (pv 4)) (fun _ _ _ _ _ => (pv 5))))) rfl)
      (pss_one (ps_fld (pv 0) (pe_lc (own := [("row", 3)]) (g := (gName 3)) (tt := tYes) rfl sc_Web_init.nd (pi_list (pe_fld (pv 0) rfl)) (blkOk_by (N := ["self", "rows", "at", "row", "deed", "goal"]) (sc := defScope s_Web_init) (by decide +kernel)) (fun _ _ _ _ _ => (pg_name (i := 3) sc_Web_init.nd rfl (Or.inl rfl))) (fun _ _ _ _ _ => pts_nil) (fun _ _ _ _ _ => (pe_lc (own := [("deed", 4), ("goal", 5)]) (g := (gTup K 2 (gCons (gName 4) (gCons (gName 5) gNil)))) rfl sc_Web_init.nd ((pi_list (pv 3)) : PI _ _ _ (iList K _)) (blkOk_by (N := ["self", "rows", "at", "row", "deed", "goal"]) (sc := { kind := .function, names := [(".0", .local), ("row", .local)], isGenerator := false, isCoroutine := false }) (by decide +kernel)) (fun _ _ _ _ _ => (pg_tup (n := 2) (by rfl) (pgs_cons (pg_name (i := 4) sc_Web_init.nd rfl (Or.inl rfl)) (pgs_cons (pg_name (i := 5) sc_Web_init.nd rfl (Or.inl rfl)) pgs_nil)))) (fun _ _ _ _ _ => (pts_one (pt_not (pt_val (pe_call G_is_visible (hr.mono (by decide)) rfl D_is_visible.g D_is_visible.F.kp D_is_visible.b .nil pass0 (pa_cons (pv 4) pa_nil)))))) (fun _ _ _ _ _ => (pv 5))))) rfl)))))), ?_⟩
    try simp (maxSteps := 1000000) only [tSeq, tIfS, tTest, tOp, tUn, tCB, tCons, tNil, tVar, tC, rI0, rI, rU, rEq, rNe, tRet, tRetN, tAsg, gName, gSub, tBM, tBM0, tNext, tB, tNot, tAnd, tOr, tIf, tCall, tDrop, tBreak, tCont, L2.start, tDGet, sDPut, tTup, tLst, tDNewK, tRevL, rCat, rAppend, rPop, rSetL, tAndV, tOrV, tNotV, tSl, tPart, tNoPart, tM1, gTup, gCons, gNil, cxK, cxnK, List.map_cons, List.map_nil, List.length_cons, List.length_nil, List.replicate, List.cons_append, List.nil_append, List.append_nil, List.set_cons_zero, List.set_cons_succ, List.getElem?_cons_zero, List.getElem?_cons_succ, Option.some.injEq, V.ref.injEq, V.int.injEq, V.str.injEq, V.bl.injEq, V.ty.injEq, exists_eq_left', exists_eq_left, exists_and_left, List.cons.injEq, and_true, true_and, sc_ii, sc_ss, sc_bb, sc_ni, sc_in, sc_is, sc_si, sc_nn, decide_true, decide_false, reduceCtorEq, Bool.false_eq_true, if_true, if_false, ite_true, ite_false, exists_const, eq_self, false_and, and_false, or_false, false_or, exists_false, Evl.rLenS, rSum, wipe, tYes, exists_eq, exists_eq', rIxL, rIxT, rIxS, exists_and_right, gt_iff_lt, not_true_eq_false, not_false_eq_true, Bool.not_true, Bool.not_false, decide_eq_true_eq, Nat.reduceSub, Nat.reduceAdd, List.append_assoc, tChain, tDIn, tDNotIn, sDDel, tAug, ipI, rInt1_int, rInt1_bl, tFld, sFld]
    refine ⟨us, .inl (sq_l ha), ?_⟩
    rw [hus.len, if_pos (by omega), decide_eq_true (show ((rows.length : Nat) : Int) ≤ 4000 by omega)]
    try simp (maxSteps := 1000000) only [tSeq, tIfS, tTest, tOp, tUn, tCB, tCons, tNil, tVar, tC, rI0, rI, rU, rEq, rNe, tRet, tRetN, tAsg, gName, gSub, tBM, tBM0, tNext, tB, tNot, tAnd, tOr, tIf, tCall, tDrop, tBreak, tCont, L2.start, tDGet, sDPut, tTup, tLst, tDNewK, tRevL, rCat, rAppend, rPop, rSetL, tAndV, tOrV, tNotV, tSl, tPart, tNoPart, tM1, gTup, gCons, gNil, cxK, cxnK, List.map_cons, List.map_nil, List.length_cons, List.length_nil, List.replicate, List.cons_append, List.nil_append, List.append_nil, List.set_cons_zero, List.set_cons_succ, List.getElem?_cons_zero, List.getElem?_cons_succ, Option.some.injEq, V.ref.injEq, V.int.injEq, V.str.injEq, V.bl.injEq, V.ty.injEq, exists_eq_left', exists_eq_left, exists_and_left, List.cons.injEq, and_true, true_and, sc_ii, sc_ss, sc_bb, sc_ni, sc_in, sc_is, sc_si, sc_nn, decide_true, decide_false, reduceCtorEq, Bool.false_eq_true, if_true, if_false, ite_true, ite_false, exists_const, eq_self, false_and, and_false, or_false, false_or, exists_false, Evl.rLenS, rSum, wipe, tYes, exists_eq, exists_eq', rIxL, rIxT, rIxS, exists_and_right, gt_iff_lt, not_true_eq_false, not_false_eq_true, Bool.not_true, Bool.not_false, decide_eq_true_eq, Nat.reduceSub, Nat.reduceAdd, List.append_assoc, tChain, tDIn, tDNotIn, sDDel, tAug, ipI, rInt1_int, rInt1_bl]
    refine ⟨.ref a, rfl, a, us, rfl, sq_l ha, ?_⟩
    refine for_it (walk_enum (K := K) (a := a) (xs := us)) (fun i σ H' => ∃ c2 c3, σ = [some (V.ref o), some (V.ref a), c2, c3, none, none] ∧ Kp [] H H') ⟨none, none, rfl, Kp.refl _ _⟩ (fun i σ H' _ h => by obtain ⟨_, _, _, k⟩ := h; exact k.ls not0 (sq_l ha)) ?_ ?_
    · rintro i x σ H2 H3 hi ⟨e1, e2, rfl, kp⟩ ⟨t, u, v, rfl, nt, rfl, ea, eb⟩
      cases ea
      obtain ⟨ms, es, hms⟩ := hus.get eb
      have k2 : Kp [] H2 (upd H2 t (.tup [.int (i : Nat), v])) := Kp.new nt
      have k02 := kp.trans k2
      try simp (maxSteps := 1000000) only [tSeq, tIfS, tTest, tOp, tUn, tCB, tCons, tNil, tVar, tC, rI0, rI, rU, rEq, rNe, tRet, tRetN, tAsg, gName, gSub, tBM, tBM0, tNext, tB, tNot, tAnd, tOr, tIf, tCall, tDrop, tBreak, tCont, L2.start, tDGet, sDPut, tTup, tLst, tDNewK, tRevL, rCat, rAppend, rPop, rSetL, tAndV, tOrV, tNotV, tSl, tPart, tNoPart, tM1, gTup, gCons, gNil, cxK, cxnK, List.map_cons, List.map_nil, List.length_cons, List.length_nil, List.replicate, List.cons_append, List.nil_append, List.append_nil, List.set_cons_zero, List.set_cons_succ, List.getElem?_cons_zero, List.getElem?_cons_succ, Option.some.injEq, V.ref.injEq, V.int.injEq, V.str.injEq, V.bl.injEq, V.ty.injEq, exists_eq_left', exists_eq_left, exists_and_left, List.cons.injEq, and_true, true_and, sc_ii, sc_ss, sc_bb, sc_ni, sc_in, sc_is, sc_si, sc_nn, decide_true, decide_false, reduceCtorEq, Bool.false_eq_true, if_true, if_false, ite_true, ite_false, exists_const, eq_self, false_and, and_false, or_false, false_or, exists_false, Evl.rLenS, rSum, wipe, tYes, exists_eq, exists_eq', rIxL, rIxT, rIxS, exists_and_right, gt_iff_lt, not_true_eq_false, not_false_eq_true, Bool.not_true, Bool.not_false, decide_eq_true_eq, Nat.reduceSub, Nat.reduceAdd, List.append_assoc, tChain, tDIn, tDNotIn, sDDel, tAug, ipI, rInt1_int, rInt1_bl]
      refine ⟨_, sq_t upd_same, rfl, _, _, rfl, _, _, rfl, rfl, ?_⟩
      obtain ⟨r, rs, rfl, hr2, hm2⟩ := hms.kd k02.kd
      refine ⟨us, .inl (k02.ls not0 (sq_l ha)), r, rs, rows.length, ms, by rw [hus.len], hr2, hm2, hg ms (List.mem_of_getElem? es), fun H4 k4 => ⟨true, rfl, ?_⟩⟩
      rw [if_neg (by decide)]
      exact k02.trans k4
    · rintro σ H2 ⟨e1, e2, rfl, kp⟩
      try simp (maxSteps := 1000000) only [tSeq, tIfS, tTest, tOp, tUn, tCB, tCons, tNil, tVar, tC, rI0, rI, rU, rEq, rNe, tRet, tRetN, tAsg, gName, gSub, tBM, tBM0, tNext, tB, tNot, tAnd, tOr, tIf, tCall, tDrop, tBreak, tCont, L2.start, tDGet, sDPut, tTup, tLst, tDNewK, tRevL, rCat, rAppend, rPop, rSetL, tAndV, tOrV, tNotV, tSl, tPart, tNoPart, tM1, gTup, gCons, gNil, cxK, cxnK, List.map_cons, List.map_nil, List.length_cons, List.length_nil, List.replicate, List.cons_append, List.nil_append, List.append_nil, List.set_cons_zero, List.set_cons_succ, List.getElem?_cons_zero, List.getElem?_cons_succ, Option.some.injEq, V.ref.injEq, V.int.injEq, V.str.injEq, V.bl.injEq, V.ty.injEq, exists_eq_left', exists_eq_left, exists_and_left, List.cons.injEq, and_true, true_and, sc_ii, sc_ss, sc_bb, sc_ni, sc_in, sc_is, sc_si, sc_nn, decide_true, decide_false, reduceCtorEq, Bool.false_eq_true, if_true, if_false, ite_true, ite_false, exists_const, eq_self, false_and, and_false, or_false, false_or, exists_false, Evl.rLenS, rSum, wipe, tYes, exists_eq, exists_eq', rIxL, rIxT, rIxS, exists_and_right, gt_iff_lt, not_true_eq_false, not_false_eq_true, Bool.not_true, Bool.not_false, decide_eq_true_eq, Nat.reduceSub, Nat.reduceAdd, List.append_assoc, tChain, tDIn, tDNotIn, sDDel, tAug, ipI, rInt1_int, rInt1_bl, sFld, tFld]
      have ho2 := kp _ _ not0 ho
      have hus2 : Rw (RwAt H2) us rows := hus.mono fun _ _ z => z.kd kp.kd
      have gP : ∀ rs : List (List Mv), (∀ r ∈ rs, GoodRw rows.length r) → rs.length = rows.length → True := fun _ _ _ => True.intro
      refine lcK (R := RwAt) (R2 := SrtAt) (fun _ _ _ _ k z => z.kd k.kd) (fun _ _ _ _ _ _ hD k z => z.kp hD k) (fun R r => ⟨.ref a, rfl, r⟩) (kp.ls not0 (sq_l ha)) hus2 (by omega) (show 3 < 6 by decide) (fun D v ms H' Q' hm hv _ hD q' => w_elt1 (hg ms hm) hv hD q') ?_
      intro D1 ws H3 nD1 hD1 hws k3
      obtain ⟨srs, hsr, hw⟩ := srt_split hws
      have gs : ∀ r ∈ srs, GoodRw rows.length r := fun r hr2 => by
        obtain ⟨i, ei⟩ := List.getElem?_of_mem hr2
        have li : i < rows.length := by
          have := (List.getElem?_eq_some_iff.mp ei).1
          rw [hsr.len] at this; exact this
        obtain ⟨s, es, p⟩ := hsr.at_ (List.getElem?_eq_getElem li)
        obtain rfl : r = s := Option.some.inj (ei.symm.trans es)
        exact (hg _ (List.getElem_mem li)).perm p.1
      have ls : srs.length = rows.length := hsr.len
      have ho3 := k3 _ _ not0 ho2
      refine ⟨WC, dx, _, ho3, C.cl, C.n1, (show 0 < 1000 by decide), ?_⟩
      have kd3 := Kd.putI (u := .ins WC dx (putF "_rows" (.ref D1) [])) ho3
      have ho4 : (upd H3 o (.ins WC dx (putF "_rows" (.ref D1) []))) o = some (.ins WC dx [("_rows", .ref D1)]) := by rw [upd_same]; rfl
      generalize eG : upd H3 o (.ins WC dx (putF "_rows" (.ref D1) [])) = H4 at kd3 ho4
      have hD4 := kd3 _ (.lst ws) True.intro hD1
      have hw4 : Rw (RwAt H4) ws srs := hw.mono fun _ _ z => z.kd kd3
      refine lcK (R := RwAt) (R2 := fun _ => GlAt) (fun _ _ _ _ k z => z.kd k.kd) (fun _ _ _ _ _ _ hD k z => z.kp hD k) (fun R r => ?_) (sq_l hD4) hw4 (by omega) (show 3 < 6 by decide) (fun D v ms H' Q' hm hv _ hD q' => w_elt2 (gs ms hm) hv q') ?_
      · try simp (maxSteps := 1000000) only [tSeq, tIfS, tTest, tOp, tUn, tCB, tCons, tNil, tVar, tC, rI0, rI, rU, rEq, rNe, tRet, tRetN, tAsg, gName, gSub, tBM, tBM0, tNext, tB, tNot, tAnd, tOr, tIf, tCall, tDrop, tBreak, tCont, L2.start, tDGet, sDPut, tTup, tLst, tDNewK, tRevL, rCat, rAppend, rPop, rSetL, tAndV, tOrV, tNotV, tSl, tPart, tNoPart, tM1, gTup, gCons, gNil, cxK, cxnK, List.map_cons, List.map_nil, List.length_cons, List.length_nil, List.replicate, List.cons_append, List.nil_append, List.append_nil, List.set_cons_zero, List.set_cons_succ, List.getElem?_cons_zero, List.getElem?_cons_succ, Option.some.injEq, V.ref.injEq, V.int.injEq, V.str.injEq, V.bl.injEq, V.ty.injEq, exists_eq_left', exists_eq_left, exists_and_left, List.cons.injEq, and_true, true_and, sc_ii, sc_ss, sc_bb, sc_ni, sc_in, sc_is, sc_si, sc_nn, decide_true, decide_false, reduceCtorEq, Bool.false_eq_true, if_true, if_false, ite_true, ite_false, exists_const, eq_self, false_and, and_false, or_false, false_or, exists_false, Evl.rLenS, rSum, wipe, tYes, exists_eq, exists_eq', rIxL, rIxT, rIxS, exists_and_right, gt_iff_lt, not_true_eq_false, not_false_eq_true, Bool.not_true, Bool.not_false, decide_eq_true_eq, Nat.reduceSub, Nat.reduceAdd, List.append_assoc, tChain, tDIn, tDNotIn, sDDel, tAug, ipI, rInt1_int, rInt1_bl, tFld]
        exact ⟨WC, dx, _, ho4, C.cl, C.n1, .ref D1, rfl, r⟩
      intro D2 gl H5 nD2 hD2 hgl k5
      have ho5 := k5 _ _ not0 ho4
      refine ⟨WC, dx, _, ho5, C.cl, C.n2, (show 1 < 1000 by decide), ?_⟩
      have kd5 := Kd.putI (u := .ins WC dx (putF "_goals" (.ref D2) [("_rows", .ref D1)])) ho5
      have ho6 : (upd H5 o (.ins WC dx (putF "_goals" (.ref D2) [("_rows", .ref D1)]))) o = some (.ins WC dx [("_rows", .ref D1), ("_goals", .ref D2)]) := by rw [upd_same]; rfl
      generalize eG2 : upd H5 o (.ins WC dx (putF "_goals" (.ref D2) [("_rows", .ref D1)])) = H6 at kd5 ho6
      have hD16 := kd5 _ (.lst ws) True.intro (k5 _ _ not0 hD4)
      have hD26 := kd5 _ (.lst gl) True.intro hD2
      have hw6 : Rw (RwAt H6) ws srs := hw4.mono fun _ _ z => z.kd (k5.kd.trans kd5)
      have hgl6 : Rw (GlAt H6) gl srs := hgl.mono fun _ _ z => z.kd kd5
      refine lcK (R := RwAt) (R2 := HdAtD) (fun _ _ _ _ k z => z.kd k.kd) (fun _ _ _ _ _ _ hD k z => z.kp hD k) (fun R r => ?_) (sq_l hD16) hw6 (by omega) (show 3 < 6 by decide) (fun D v ms H' Q' hm hv _ hD q' => w_elt3 (gs ms hm) hv hD q') ?_
      · try simp (maxSteps := 1000000) only [tSeq, tIfS, tTest, tOp, tUn, tCB, tCons, tNil, tVar, tC, rI0, rI, rU, rEq, rNe, tRet, tRetN, tAsg, gName, gSub, tBM, tBM0, tNext, tB, tNot, tAnd, tOr, tIf, tCall, tDrop, tBreak, tCont, L2.start, tDGet, sDPut, tTup, tLst, tDNewK, tRevL, rCat, rAppend, rPop, rSetL, tAndV, tOrV, tNotV, tSl, tPart, tNoPart, tM1, gTup, gCons, gNil, cxK, cxnK, List.map_cons, List.map_nil, List.length_cons, List.length_nil, List.replicate, List.cons_append, List.nil_append, List.append_nil, List.set_cons_zero, List.set_cons_succ, List.getElem?_cons_zero, List.getElem?_cons_succ, Option.some.injEq, V.ref.injEq, V.int.injEq, V.str.injEq, V.bl.injEq, V.ty.injEq, exists_eq_left', exists_eq_left, exists_and_left, List.cons.injEq, and_true, true_and, sc_ii, sc_ss, sc_bb, sc_ni, sc_in, sc_is, sc_si, sc_nn, decide_true, decide_false, reduceCtorEq, Bool.false_eq_true, if_true, if_false, ite_true, ite_false, exists_const, eq_self, false_and, and_false, or_false, false_or, exists_false, Evl.rLenS, rSum, wipe, tYes, exists_eq, exists_eq', rIxL, rIxT, rIxS, exists_and_right, gt_iff_lt, not_true_eq_false, not_false_eq_true, Bool.not_true, Bool.not_false, decide_eq_true_eq, Nat.reduceSub, Nat.reduceAdd, List.append_assoc, tChain, tDIn, tDNotIn, sDDel, tAug, ipI, rInt1_int, rInt1_bl, tFld]
        exact ⟨WC, dx, _, ho6, C.cl, C.n1, .ref D1, rfl, r⟩
      intro D3 hd H7 nD3 hD3 hhd k7
      have ho7 := k7 _ _ not0 ho6
      refine ⟨WC, dx, _, ho7, C.cl, C.n3, (show 2 < 1000 by decide), ?_⟩
      have kd7 := Kd.putI (u := .ins WC dx (putF "_hidden" (.ref D3) [("_rows", .ref D1), ("_goals", .ref D2)])) ho7
      have k67 := k7.kd.trans kd7
      refine q srs _ hsr ⟨dx, D1, D2, D3, ws, gl, hd, by rw [upd_same]; rfl, k67 _ (.lst ws) True.intro hD16, hw6.mono fun _ _ z => z.kd k67, k67 _ (.lst gl) True.intro hD26, hgl6.mono fun _ _ z => z.kd k67, kd7 _ (.lst hd) True.intro hD3, (hhd.mono fun v ms z => ?_)⟩ ?_
      · obtain ⟨x, e, _, hx⟩ := z
        exact HdAt.kd (H := H7) ⟨x, e, hx⟩ kd7
      · subst eG; subst eG2
        exact (((((kp.of0.trans k3.of0).put (by simp)).trans k5.of0).put (by simp)).trans k7.of0).put (by simp)
end
end My

set_option Elab.async false
set_option linter.all false
set_option maxRecDepth 100000
set_option maxHeartbeats 4000000
namespace My
open PySem L2 NdefX
abbrev s_Web_check : Stmt := mtop 19 7
theorem sc_Web_check : FnScope ["self", "at"] ["self", "at"] (defScope s_Web_check) := ⟨rfl, rfl, rfl, by decide +kernel, rfl, by decide +kernel, by decide +kernel⟩
abbrev s_Web_reached : Stmt := mtop 19 9
theorem sc_Web_reached : FnScope ["self", "stands", "seen", "waiting", "at"] ["self", "stands"] (defScope s_Web_reached) := ⟨rfl, rfl, rfl, by decide +kernel, rfl, by decide +kernel, by decide +kernel⟩
abbrev s_Web_joint_replies : Stmt := mtop 19 8
theorem sc_Web_joint_replies : FnScope ["self", "stands", "deed", "rows", "at", "row"] ["self", "stands", "deed"] (defScope s_Web_joint_replies) := ⟨rfl, rfl, rfl, by decide +kernel, rfl, by decide +kernel, by decide +kernel⟩
abbrev s_Web_replies : Stmt := mtop 19 6
theorem sc_Web_replies : FnScope ["self", "at", "deed"] ["self", "at", "deed"] (defScope s_Web_replies) := ⟨rfl, rfl, rfl, by decide +kernel, rfl, by decide +kernel, by decide +kernel⟩
/-! ### what can be reached unseen -/
def Hs (rows : List (List Mv)) (a b : Int) : Prop := ∃ r m, 0 ≤ a ∧ rows[a.toNat]? = some r ∧ m ∈ r ∧ visB m.1 = false ∧ m.2 = b
inductive Rch (rows : List (List Mv)) (k : Int) : Int → Prop
  | base : Rch rows k k
  | step {a b : Int} : Rch rows k a → Hs rows a b → Rch rows k b
theorem Rch.closed {rows : List (List Mv)} {k : Int} {S : Int → Prop} (h0 : S k) (hs : ∀ a b, S a → Hs rows a b → S b) {x : Int} (h : Rch rows k x) : S x := by
  induction h with
  | base => exact h0
  | step _ e ih => exact hs _ _ ih e
theorem Rch.bnd {rows : List (List Mv)} {k : Int} (hg : ∀ r ∈ rows, GoodRw rows.length r) (k0 : 0 ≤ k) (k1 : k < rows.length) {x : Int} (h : Rch rows k x) : 0 ≤ x ∧ x < rows.length :=
  Rch.closed (S := fun x => 0 ≤ x ∧ x < rows.length) ⟨k0, k1⟩ (fun a b _ e => by
    obtain ⟨r, m, _, er, hm, _, rfl⟩ := e
    exact (hg r (List.mem_of_getElem? er)).goal m hm) h
theorem nodup_len : ∀ {n : Nat} {l : List Int}, l.Nodup → (∀ x ∈ l, 0 ≤ x ∧ x < n) → l.length ≤ n
  | 0, l, _, h => by
    cases l with
    | nil => exact Nat.le_refl _
    | cons x r => have := h x (by simp); omega
  | n + 1, l, nd, h => by
    have ih := nodup_len (n := n) (l := l.erase (n : Nat)) (nd.erase _) (fun x hx => by
      obtain ⟨a, b⟩ := nd.mem_erase_iff.mp hx
      have := h x b
      omega)
    have := List.length_erase (a := ((n : Nat) : Int)) (l := l)
    split at this <;> omega
theorem hidM_mem {ms : List Mv} {y : Int} : y ∈ hidM ms ↔ ∃ m ∈ ms, visB m.1 = false ∧ m.2 = y := by
  unfold hidM
  rw [List.mem_map]
  constructor
  · rintro ⟨m, hm, e⟩
    obtain ⟨h1, h2⟩ := List.mem_filter.mp hm
    exact ⟨m, h1, by simpa using h2, e⟩
  · rintro ⟨m, h1, h2, e⟩
    exact ⟨m, List.mem_filter.mpr ⟨h1, by simpa using h2⟩, e⟩
theorem hidM_len {n : Nat} {ms : List Mv} (h : GoodRw n ms) : (hidM ms).length ≤ 100 := by
  unfold hidM
  rw [List.length_map]
  exact Nat.le_trans (List.length_filter_le _ _) h.len
structure RdI (srs : List (List Mv)) (k : Int) (ss wt : List Int) : Prop where
  nd : ss.Nodup
  rs : ∀ x ∈ ss, Rch srs k x
  rw_ : ∀ x ∈ wt, Rch srs k x
  k_ : k ∈ ss ∨ k ∈ wt
  cl : ∀ x ∈ ss, ∀ y, Hs srs x y → y ∈ ss ∨ y ∈ wt
  len : wt.length ≤ 100 * ss.length + 1
theorem RdI.seen {srs : List (List Mv)} {k : Int} {ss wi : List Int} {x : Int} (h : RdI srs k ss (wi ++ [x])) (hx : x ∈ ss) : RdI srs k ss wi := by
  have o : ∀ y, (y ∈ ss ∨ y ∈ wi ++ [x]) → y ∈ ss ∨ y ∈ wi := fun y hy => by
    rcases hy with hy | hy
    · exact .inl hy
    · rcases List.mem_append.mp hy with hy | hy
      · exact .inr hy
      · rw [List.mem_singleton.mp hy]; exact .inl hx
  have := h.len
  rw [List.length_append, List.length_singleton] at this
  exact ⟨h.nd, h.rs, fun y hy => h.rw_ y (List.mem_append_left _ hy), o _ h.k_, fun a ha y e => o _ (h.cl a ha y e), by omega⟩
theorem RdI.new {srs : List (List Mv)} {k : Int} {ss wi : List Int} {x : Int} {ms : List Mv} {n : Nat} (h : RdI srs k ss (wi ++ [x])) (hx : x ∉ ss) (x0 : 0 ≤ x) (em : srs[x.toNat]? = some ms) (hg : GoodRw n ms) : RdI srs k (ss ++ [x]) (wi ++ hidM ms) := by
  have rx : Rch srs k x := h.rw_ x (by simp)
  have o : ∀ y, (y ∈ ss ∨ y ∈ wi ++ [x]) → y ∈ ss ++ [x] ∨ y ∈ wi ++ hidM ms := fun y hy => by
    rcases hy with hy | hy
    · exact .inl (List.mem_append_left _ hy)
    · rcases List.mem_append.mp hy with hy | hy
      · exact .inr (List.mem_append_left _ hy)
      · exact .inl (List.mem_append_right _ hy)
  have l1 := h.len
  have l2 := hidM_len hg
  rw [List.length_append, List.length_singleton] at l1
  refine ⟨?_, fun y hy => ?_, fun y hy => ?_, o _ h.k_, fun a ha y e => ?_, by rw [List.length_append, List.length_append, List.length_singleton]; omega⟩
  · rw [List.nodup_append]
    refine ⟨h.nd, by simp, fun a ha b hb => ?_⟩
    rw [List.mem_singleton.mp hb]
    exact fun z => hx (z ▸ ha)
  · rcases List.mem_append.mp hy with hy | hy
    · exact h.rs y hy
    · rw [List.mem_singleton.mp hy]; exact rx
  · rcases List.mem_append.mp hy with hy | hy
    · exact h.rw_ y (List.mem_append_left _ hy)
    · obtain ⟨m, hm, v, e⟩ := hidM_mem.mp hy
      exact .step rx ⟨ms, m, x0, em, hm, v, e⟩
  · rcases List.mem_append.mp ha with ha | ha
    · exact o _ (h.cl a ha y e)
    · rw [List.mem_singleton.mp ha] at e
      obtain ⟨r, m, _, er, hm, v, e⟩ := e
      obtain rfl : ms = r := Option.some.inj (em.symm.trans er)
      exact .inr (List.mem_append_right _ (hidM_mem.mpr ⟨m, hm, v, e⟩))
theorem RdI.done {srs : List (List Mv)} {k : Int} {ss : List Int} (h : RdI srs k ss []) (x : Int) : x ∈ ss ↔ Rch srs k x :=
  ⟨h.rs x, Rch.closed (S := fun x => x ∈ ss) (h.k_.elim id fun z => nomatch z) fun a b ha e => (h.cl a ha b e).elim id fun z => nomatch z⟩
def spReach (WC : Addr) : Sp := fun vs H Q _ => ∃ (o a : Addr) (k : Int) (srs : List (List Mv)), vs = [.ref o, .ref a] ∧ WebAt WC H o srs ∧ H a = some (.lst [.int k]) ∧ 0 ≤ k ∧ k < srs.length ∧ srs.length ≤ 100 ∧ (∀ r ∈ srs, GoodRw srs.length r) ∧
  ∀ (ns : List Int) (l : Addr) (H' : Hp), ns.Nodup → (∀ x, x ∈ ns ↔ Rch srs k x) → H l = none → H' l = some (.lst (ns.map V.int)) → Kp [] H H' → Q (.ref l) H'
section
variable {P : Program} {w : World} {K : PySem.W.Frag} {mg : Str → Option Value} {base : Heap} {tL t1 t2 : Tok}
def spCheck (WC NS : Addr) : Sp := fun vs H Q E => ∃ (o : Addr) (v : V) (d : PyData) (srs : List (List Mv)), vs = [.ref o, v] ∧ WebAt WC H o srs ∧ Dq H v d ∧ (belowD (srs.length : Nat) d = true → Q .non H) ∧
  (belowD (srs.length : Nat) d = false → ∀ (e : Addr) (H' : Hp), H e = none → H' e = some (.xd [("at", v)]) → Kp [] H H' → E (.ref NS) (some e) H')
theorem ok_Web_check {f : Addr} {fd : FuncData} (F : Fun K "check" "Web.check" s_Web_check f fd) (T : BtW mg t1) {WC NS fN : Addr} {fdN : FuncData} (C : WbC K mg WC) (E_NoStanding : Er1 P w K mg base "NoStanding" "at" NS fN fdN ["self", "at"] (fun _ => True))
    {fb : Addr} {fdb : FuncData} (D_is_below : Df K mg "is_below" s_is_below ["value", "bound"] fb fdb) (G_is_below : FnOk P w K mg base CX0 1 fb fdb ["value", "bound"] spBelow) : FnOk P w K mg base (L2.CX P w) 3 f fd ["self", "at"] (spCheck WC NS) := by
  refine F.okX sc_Web_check (fun vs H Q E h => ?_) (fun cdv A outer s H vs Q E hr h => ?_)
  · obtain ⟨o, v, d, srs, rfl, _⟩ := h
    rfl
  · obtain ⟨o, v, d, srs, rfl, ⟨dx, a, b, c, us, gs, hs, ho, ha, hus, hb, hgs, hc, hhs⟩, hd, qG, qB⟩ := h
    refine ⟨_, (pss_one (ps_if (pt_not (pt_val (pe_call G_is_below (hr.mono (by decide)) rfl D_is_below.g D_is_below.F.kp D_is_below.b .nil pass0 (pa_cons (pv 1) (pa_cons (pe_callB (id := "len") (r := Evl.rLenS K) call_len_seq (by rfl) T.b_len PySem.boot_len (pa_cons (pe_fld (pv 0) rfl) pa_nil)) pa_nil))))) (pss_one (ps_raise rfl (takes_of rfl rfl rfl rfl) (pmk_oex E_NoStanding.ox E_NoStanding.ic E_NoStanding.ti E_NoStanding.G (hr.mono (by decide)) E_NoStanding.b .nil passL rfl E_NoStanding.k (pa_cons (pv 1) pa_nil)))) pss_nil)), ?_⟩
    try simp (maxSteps := 1000000) only [tSeq, tIfS, tTest, tOp, tUn, tCB, tCons, tNil, tVar, tC, rI0, rI, rU, rEq, rNe, tRet, tRetN, tAsg, gName, gSub, tBM, tBM0, tNext, tB, tNot, tAnd, tOr, tIf, tCall, tDrop, tBreak, tCont, L2.start, tDGet, sDPut, tTup, tLst, tDNewK, tRevL, rCat, rAppend, rPop, rSetL, tAndV, tOrV, tNotV, tSl, tPart, tNoPart, tM1, gTup, gCons, gNil, cxK, cxnK, List.map_cons, List.map_nil, List.length_cons, List.length_nil, List.replicate, List.cons_append, List.nil_append, List.append_nil, List.set_cons_zero, List.set_cons_succ, List.getElem?_cons_zero, List.getElem?_cons_succ, Option.some.injEq, V.ref.injEq, V.int.injEq, V.str.injEq, V.bl.injEq, V.ty.injEq, exists_eq_left', exists_eq_left, exists_and_left, List.cons.injEq, and_true, true_and, sc_ii, sc_ss, sc_bb, sc_ni, sc_in, sc_is, sc_si, sc_nn, decide_true, decide_false, reduceCtorEq, Bool.false_eq_true, if_true, if_false, ite_true, ite_false, exists_const, eq_self, false_and, and_false, or_false, false_or, exists_false, Evl.rLenS, rSum, wipe, tYes, exists_eq, exists_eq', rIxL, rIxT, rIxS, exists_and_right, gt_iff_lt, not_true_eq_false, not_false_eq_true, Bool.not_true, Bool.not_false, decide_eq_true_eq, Nat.reduceSub, Nat.reduceAdd, List.append_assoc, tChain, tDIn, tDNotIn, sDDel, tAug, ipI, rInt1_int, rInt1_bl, tFld]
    refine ⟨WC, dx, _, ho, C.cl, C.n1, .ref a, rfl, a, rfl, us, .inl (sq_l ha), v, d, (srs.length : Nat), by rw [hus.len], hd, ?_⟩
    cases e : belowD (srs.length : Nat) d with
    | true => exact ⟨_, rfl, qG e⟩
    | false => 
      refine ⟨_, rfl, ?_⟩
      rw [if_pos (by decide)]
      exact ⟨v, rfl, err1_made (P := fun _ => True) True.intro fun x H' ne he k => qB e x H' ne he k⟩
def RdW (srs : List (List Mv)) (k : Int) (o a p l : Addr) (H : Hp) (m : Nat) (σ : L2.St) (H' : Hp) : Prop := ∃ (kvs : List (Key × V)) (ss wt : List Int) (c : Option V), H' p = some (.dK kvs) ∧ kvs.map (·.1) = ss.map Sum.inl ∧ H' l = some (.lst (wt.map V.int)) ∧ RdI srs k ss wt ∧ Kp [] H H' ∧ σ = [some (.ref o), some (.ref a), some (.ref p), some (.ref l), c] ∧ m = 101 * (srs.length - ss.length) + wt.length
theorem ints_last {wt : List Int} {x : V} (e : (wt.map V.int)[(wt.map V.int).length - 1]? = some x) : ∃ wi y, wt = wi ++ [y] ∧ x = .int y := by
  rcases List.eq_nil_or_concat wt with rfl | ⟨wi, y, rfl⟩
  · cases e
  · refine ⟨wi, y, by simp, ?_⟩
    simp at e
    exact e.symm
theorem ok_Web_reached {f : Addr} {fd : FuncData} (F : Fun K "reached" "Web.reached" s_Web_reached f fd) (T : BtW mg t1) {WC : Addr} (C : WbC K mg WC) : FnOk P w K mg base CX0 1 f fd ["self", "stands"] (spReach WC) := by
  refine F.ok sc_Web_reached (fun vs H Q E h => ?_) (fun cdv A outer s H vs Q E hr h => ?_)
  · obtain ⟨o, a, k, srs, rfl, _⟩ := h
    rfl
  · obtain ⟨o, a, k, srs, rfl, hW, ha, k0, k1, sl, hg, q⟩ := h
    have hu := hu_of hr
    refine ⟨_, (pss_cons (ps_set (i := 2) sc_Web_reached.nd rfl (Or.inl rfl) pe_dnewK)
      (pss_cons (ps_set (i := 3) sc_Web_reached.nd rfl (Or.inl rfl) (pe_callTy call_list_of (by rfl) T.b_list (by decide +kernel) (pa_cons (pv 1) pa_nil)))
      (pss_cons (ps_while PassesOwn.never (pt_truth (pv 3) (by intro _; rfl)) (pss_cons (ps_set (i := 4) sc_Web_reached.nd rfl (Or.inl rfl) (pe_bm0 PySem.F.plainAttrs_list PySem.F.slot_list_pop PySem.F.type_list_pop mt_pop (pv 3)))
      (pss_one (ps_if (pt_cmp (pc_dnotin hu (pv 4) (pv 2))) (pss_cons (ps_dput hu (pv 2) (pv 4) pe_bl rfl)
      (pss_one (ps_expr (pe_bm PySem.F.plainAttrs_list PySem.F.slot_list_extend PySem.F.type_list_extend mt_extend (pv 3) (pa_cons (pe_ix (r := rIxL K) ix_list (pe_fld (pv 0) rfl) (pv 4) (fun _ _ => rfl)) pa_nil))))) pss_nil))))
      (pss_one (ps_ret (pe_callTy (call_listD rfl) (by rfl) T.b_list (by decide +kernel) (pa_cons (pv 2) pa_nil))))))), ?_⟩
    try simp (maxSteps := 1000000) only [tSeq, tIfS, tTest, tOp, tUn, tCB, tCons, tNil, tVar, tC, rI0, rI, rU, rEq, rNe, tRet, tRetN, tAsg, gName, gSub, tBM, tBM0, tNext, tB, tNot, tAnd, tOr, tIf, tCall, tDrop, tBreak, tCont, L2.start, tDGet, sDPut, tTup, tLst, tDNewK, tRevL, rCat, rAppend, rPop, rSetL, tAndV, tOrV, tNotV, tSl, tPart, tNoPart, tM1, gTup, gCons, gNil, cxK, cxnK, List.map_cons, List.map_nil, List.length_cons, List.length_nil, List.replicate, List.cons_append, List.nil_append, List.append_nil, List.set_cons_zero, List.set_cons_succ, List.getElem?_cons_zero, List.getElem?_cons_succ, Option.some.injEq, V.ref.injEq, V.int.injEq, V.str.injEq, V.bl.injEq, V.ty.injEq, exists_eq_left', exists_eq_left, exists_and_left, List.cons.injEq, and_true, true_and, sc_ii, sc_ss, sc_bb, sc_ni, sc_in, sc_is, sc_si, sc_nn, decide_true, decide_false, reduceCtorEq, Bool.false_eq_true, if_true, if_false, ite_true, ite_false, exists_const, eq_self, false_and, and_false, or_false, false_or, exists_false, Evl.rLenS, rSum, wipe, tYes, exists_eq, exists_eq', rIxL, rIxT, rIxS, exists_and_right, gt_iff_lt, not_true_eq_false, not_false_eq_true, Bool.not_true, Bool.not_false, decide_eq_true_eq, Nat.reduceSub, Nat.reduceAdd, List.append_assoc, tChain, tDIn, tDNotIn, sDDel, tAug, ipI, rInt1_int, rInt1_bl, tFld]
    intro p np
    have kp := (Kp.new np : Kp [] H (upd H p (.dK [])))
    refine ⟨_, .inl (sq_l (kp _ _ not0 ha)), fun l nl => ?_⟩
    have npl : p ≠ l := fun z => by rw [z, upd_same] at nl; cases nl
    have nl0 : H l = none := kp.free0 nl
    refine ⟨RdW srs k o a p l H,
      ⟨_, _, [], [k], none, by rw [upd_ne npl, upd_same], rfl, upd_same, ⟨List.nodup_nil, fun x hx => (nomatch hx), fun x hx => by rw [List.mem_singleton.mp hx]; exact .base, .inr (by simp), fun x hx => (nomatch hx), Nat.le_refl _⟩, (kp.trans (Kp.new nl)), rfl, rfl⟩, ?_⟩
    rintro m σ H' ⟨kvs, ss, wt, c, hp, hk, hl, I, kq, rfl, rfl⟩
    have slen : ss.length ≤ srs.length := nodup_len I.nd fun x hx => (I.rs x hx).bnd hg k0 k1
    have klen : kvs.length = ss.length := by
      have := congrArg List.length hk
      rw [List.length_map, List.length_map] at this
      exact this
    try simp (maxSteps := 1000000) only [tSeq, tIfS, tTest, tOp, tUn, tCB, tCons, tNil, tVar, tC, rI0, rI, rU, rEq, rNe, tRet, tRetN, tAsg, gName, gSub, tBM, tBM0, tNext, tB, tNot, tAnd, tOr, tIf, tCall, tDrop, tBreak, tCont, L2.start, tDGet, sDPut, tTup, tLst, tDNewK, tRevL, rCat, rAppend, rPop, rSetL, tAndV, tOrV, tNotV, tSl, tPart, tNoPart, tM1, gTup, gCons, gNil, cxK, cxnK, List.map_cons, List.map_nil, List.length_cons, List.length_nil, List.replicate, List.cons_append, List.nil_append, List.append_nil, List.set_cons_zero, List.set_cons_succ, List.getElem?_cons_zero, List.getElem?_cons_succ, Option.some.injEq, V.ref.injEq, V.int.injEq, V.str.injEq, V.bl.injEq, V.ty.injEq, exists_eq_left', exists_eq_left, exists_and_left, List.cons.injEq, and_true, true_and, sc_ii, sc_ss, sc_bb, sc_ni, sc_in, sc_is, sc_si, sc_nn, decide_true, decide_false, reduceCtorEq, Bool.false_eq_true, if_true, if_false, ite_true, ite_false, exists_const, eq_self, false_and, and_false, or_false, false_or, exists_false, Evl.rLenS, rSum, wipe, tYes, exists_eq, exists_eq', rIxL, rIxT, rIxS, exists_and_right, gt_iff_lt, not_true_eq_false, not_false_eq_true, Bool.not_true, Bool.not_false, decide_eq_true_eq, Nat.reduceSub, Nat.reduceAdd, List.append_assoc, tChain, tDIn, tDNotIn, sDDel, tAug, ipI, rInt1_int, rInt1_bl]
    refine ⟨_, .inl ⟨_, sq_l hl, rfl⟩, ?_⟩
    rcases List.eq_nil_or_concat wt with rfl | ⟨wi, x, rfl⟩
    · simp only [List.map_nil, List.isEmpty_nil, Bool.not_true, Bool.false_eq_true, if_false]
      refine ⟨kvs, .inl hp, fun r nr => ?_⟩
      have e : (kvs.map fun kv => kV kv.1) = ss.map V.int := by
        have : (kvs.map fun kv => kV kv.1) = (kvs.map (·.1)).map kV := by rw [List.map_map]; rfl
        rw [this, hk, List.map_map]; rfl
      rw [e]
      exact q ss r _ I.nd (I.done ·) (kq.free0 nr) upd_same (kq.trans (Kp.new nr))
    · rw [show wi.concat x = wi ++ [x] from List.concat_eq_append] at hl I ⊢
      have ne : (!((wi ++ [x]).map V.int).isEmpty) = true := by simp
      rw [ne, if_pos rfl]
      refine ⟨fun σ' H2 => ∃ m', m' < 101 * (srs.length - ss.length) + (wi ++ [x]).length ∧ RdW srs k o a p l H m' σ' H2, fun _ _ h => h, .inl ⟨rfl, _, sq_l hl⟩, _, hl, .int x, by simp, ?_⟩
      have dl : ((wi ++ [x]).map V.int).dropLast = wi.map V.int := by simp
      rw [dl]
      have kD : Kp [] H (upd H' l (.lst (wi.map V.int))) := kq.wr nl0
      have hp2 : (upd H' l (.lst (wi.map V.int))) p = some (.dK kvs) := by rw [upd_ne npl]; exact hp
      have hl2 : (upd H' l (.lst (wi.map V.int))) l = some (.lst (wi.map V.int)) := upd_same
      generalize upd H' l (.lst (wi.map V.int)) = G at kD hp2 hl2
      refine ⟨_, DGet.k (k := .inl x) hp2, ?_⟩
      obtain ⟨x0, x1⟩ := (I.rw_ x (by simp)).bnd hg k0 k1
      by_cases hx : x ∈ ss
      · have vs : valV kvs (Sum.inl x) ≠ none := fun e => valV_not e (by rw [hk]; exact List.mem_map_of_mem hx)
        rw [show (valV kvs (Sum.inl x)).isSome = true from Option.isSome_iff_ne_none.mpr vs]
        simp only [Bool.not_true, Bool.false_eq_true, if_false]
        exact ⟨_, by rw [List.length_append, List.length_singleton]; omega, kvs, ss, wi, _, hp2, hk, hl2, I.seen hx, kD, rfl, rfl⟩
      · have vn : valV kvs (Sum.inl x) = none := valV_none (by
          rw [hk]
          intro z
          obtain ⟨y, hy, e⟩ := List.mem_map.mp z
          injection e with e
          exact hx (e ▸ hy))
        rw [vn]
        simp only [Option.isSome_none, Bool.not_false, if_true]
        refine ⟨_, DPut.k (k := .inl x) hp2 (by rw [klen, sizeLine_eq]; omega), ?_⟩
        rw [putK_new _ vn]
        have kE : Kp [] H (upd G p (.dK (kvs ++ [(.inl x, .bl true)]))) := kD.wr np
        have hl3 : (upd G p (.dK (kvs ++ [(.inl x, .bl true)]))) l = some (.lst (wi.map V.int)) := by rw [upd_ne (Ne.symm npl)]; exact hl2
        have hp3 : (upd G p (.dK (kvs ++ [(.inl x, .bl true)]))) p = some (.dK (kvs ++ [(.inl x, .bl true)])) := upd_same
        generalize upd G p (.dK (kvs ++ [(.inl x, .bl true)])) = G2 at kE hl3 hp3
        obtain ⟨dx, aa, b, c, us, gs, hs, ho, haa, hus, hb, hgs, hc, hhs⟩ := hW.kp kE
        have em : srs[x.toNat]? = some (srs[x.toNat]'(by omega)) := List.getElem?_eq_getElem _
        generalize srs[x.toNat]'(by omega) = ms at em
        have gm := hg ms (List.mem_of_getElem? em)
        obtain ⟨u, eu, d, rfl, hd⟩ := hhs.at em
        try simp (maxSteps := 1000000) only [tSeq, tIfS, tTest, tOp, tUn, tCB, tCons, tNil, tVar, tC, rI0, rI, rU, rEq, rNe, tRet, tRetN, tAsg, gName, gSub, tBM, tBM0, tNext, tB, tNot, tAnd, tOr, tIf, tCall, tDrop, tBreak, tCont, L2.start, tDGet, sDPut, tTup, tLst, tDNewK, tRevL, rCat, rAppend, rPop, rSetL, tAndV, tOrV, tNotV, tSl, tPart, tNoPart, tM1, gTup, gCons, gNil, cxK, cxnK, List.map_cons, List.map_nil, List.length_cons, List.length_nil, List.replicate, List.cons_append, List.nil_append, List.append_nil, List.set_cons_zero, List.set_cons_succ, List.getElem?_cons_zero, List.getElem?_cons_succ, Option.some.injEq, V.ref.injEq, V.int.injEq, V.str.injEq, V.bl.injEq, V.ty.injEq, exists_eq_left', exists_eq_left, exists_and_left, List.cons.injEq, and_true, true_and, sc_ii, sc_ss, sc_bb, sc_ni, sc_in, sc_is, sc_si, sc_nn, decide_true, decide_false, reduceCtorEq, Bool.false_eq_true, if_true, if_false, ite_true, ite_false, exists_const, eq_self, false_and, and_false, or_false, false_or, exists_false, Evl.rLenS, rSum, wipe, tYes, exists_eq, exists_eq', rIxL, rIxT, rIxS, exists_and_right, gt_iff_lt, not_true_eq_false, not_false_eq_true, Bool.not_true, Bool.not_false, decide_eq_true_eq, Nat.reduceSub, Nat.reduceAdd, List.append_assoc, tChain, tDIn, tDNotIn, sDDel, tAug, ipI, rInt1_int, rInt1_bl, tFld]
        refine ⟨.inl ⟨rfl, _, sq_l hl3⟩, WC, dx, _, ho, C.cl, C.n3, .ref c, rfl, c, rfl, hs, sq_l hc, .ref d, atI_of x0 eu, l, d, _, _, rfl, rfl, hl3, hd, ?_, ?_⟩
        · have h1 := (I.new hx x0 em gm).len
          rw [List.length_append, List.length_append, List.length_singleton] at h1
          rw [List.length_map, List.length_map, sizeLine_eq]
          omega
        · have lpl : l ≠ p := Ne.symm npl
          refine ⟨_, ?_, kvs ++ [(.inl x, .bl true)], ss ++ [x], wi ++ hidM ms, _, by rw [upd_ne npl]; exact hp3, by rw [List.map_append, List.map_append, hk]; rfl, by rw [upd_same, List.map_append], I.new hx x0 em gm, kE.wr nl0, rfl, rfl⟩
          have h1 := hidM_len gm
          have h2 := nodup_len (n := srs.length) (I.new hx x0 em gm).nd fun y hy => ((I.new hx x0 em gm).rs y hy).bnd hg k0 k1
          rw [List.length_append, List.length_singleton] at h2
          rw [List.length_append, List.length_append, List.length_append, List.length_singleton]
          omega
end
end My

set_option Elab.async false
set_option linter.all false
set_option maxRecDepth 100000
set_option maxHeartbeats 4000000
namespace My
open PySem L2 NdefX
abbrev s_Web_moves : Stmt := mtop 19 3
theorem sc_Web_moves : FnScope ["self", "at"] ["self", "at"] (defScope s_Web_moves) := ⟨rfl, rfl, rfl, by decide +kernel, rfl, by decide +kernel, by decide +kernel⟩
abbrev s_Web_len : Stmt := mtop 19 1
theorem sc_Web_len : FnScope ["self"] ["self"] (defScope s_Web_len) := ⟨rfl, rfl, rfl, by decide +kernel, rfl, by decide +kernel, by decide +kernel⟩
section
variable {P : Program} {w : World} {K : PySem.W.Frag} {mg : Str → Option Value} {base : Heap} {tL t1 t2 : Tok}
def spWLen (WC : Addr) : Sp := fun vs H Q _ => ∃ (o : Addr) (srs : List (List Mv)), vs = [.ref o] ∧ WebAt WC H o srs ∧ Q (.int (srs.length : Nat)) H
theorem ok_Web_len {f : Addr} {fd : FuncData} (F : Fun K "__len__" "Web.__len__" s_Web_len f fd) (T : BtW mg t1) {WC : Addr} (C : WbC K mg WC) : FnOk P w K mg base CX0 1 f fd ["self"] (spWLen WC) := by
  refine F.ok sc_Web_len (fun vs H Q E h => ?_) (fun cdv A outer s H vs Q E hr h => ?_)
  · obtain ⟨o, srs, rfl, _⟩ := h
    rfl
  · obtain ⟨o, srs, rfl, ⟨dx, a, b, c, us, gs, hs, ho, ha, hus, hb, hgs, hc, hhs⟩, q⟩ := h
    refine ⟨_, (pss_one (ps_ret (pe_callB (id := "len") (r := Evl.rLenS K) call_len_seq (by rfl) T.b_len PySem.boot_len (pa_cons (pe_fld (pv 0) rfl) pa_nil)))), ?_⟩
    try simp (maxSteps := 1000000) only [tSeq, tIfS, tTest, tOp, tUn, tCB, tCons, tNil, tVar, tC, rI0, rI, rU, rEq, rNe, tRet, tRetN, tAsg, gName, gSub, tBM, tBM0, tNext, tB, tNot, tAnd, tOr, tIf, tCall, tDrop, tBreak, tCont, L2.start, tDGet, sDPut, tTup, tLst, tDNewK, tRevL, rCat, rAppend, rPop, rSetL, tAndV, tOrV, tNotV, tSl, tPart, tNoPart, tM1, gTup, gCons, gNil, cxK, cxnK, List.map_cons, List.map_nil, List.length_cons, List.length_nil, List.replicate, List.cons_append, List.nil_append, List.append_nil, List.set_cons_zero, List.set_cons_succ, List.getElem?_cons_zero, List.getElem?_cons_succ, Option.some.injEq, V.ref.injEq, V.int.injEq, V.str.injEq, V.bl.injEq, V.ty.injEq, exists_eq_left', exists_eq_left, exists_and_left, List.cons.injEq, and_true, true_and, sc_ii, sc_ss, sc_bb, sc_ni, sc_in, sc_is, sc_si, sc_nn, decide_true, decide_false, reduceCtorEq, Bool.false_eq_true, if_true, if_false, ite_true, ite_false, exists_const, eq_self, false_and, and_false, or_false, false_or, exists_false, Evl.rLenS, rSum, wipe, tYes, exists_eq, exists_eq', rIxL, rIxT, rIxS, exists_and_right, gt_iff_lt, not_true_eq_false, not_false_eq_true, Bool.not_true, Bool.not_false, decide_eq_true_eq, Nat.reduceSub, Nat.reduceAdd, List.append_assoc, tChain, tDIn, tDNotIn, sDDel, tAug, ipI, rInt1_int, rInt1_bl, tFld]
    refine ⟨WC, dx, _, ho, C.cl, C.n1, .ref a, rfl, a, rfl, us, .inl (sq_l ha), ?_⟩
    rw [hus.len]
    exact q
def spWMv (WC NS : Addr) : Sp := fun vs H Q E => ∃ (o : Addr) (v : V) (d : PyData) (srs : List (List Mv)), vs = [.ref o, v] ∧ WebAt WC H o srs ∧ Dq H v d ∧
  (∀ (k : Nat) ms, v = .int (k : Nat) → srs[k]? = some ms → ∀ (l : Addr) (us : List V) (H' : Hp), H l = none → H' l = some (.lst us) → Rw (TM H') us ms → Kp [] H H' → Q (.ref l) H') ∧
  (belowD (srs.length : Nat) d = false → ∀ (e : Addr) (H' : Hp), H e = none → H' e = some (.xd [("at", v)]) → Kp [] H H' → E (.ref NS) (some e) H')
theorem ok_Web_moves {f : Addr} {fd : FuncData} (F : Fun K "moves" "Web.moves" s_Web_moves f fd) (T : BtW mg t1) {WC NS fc : Addr} {fdc : FuncData} (C : WbC K mg WC)
    (ME_Web_check : Meth K WC "check" fc) (bM_Web_check : Binds K fdc ["self", "at"] []) (G_Web_check : FnOk P w K mg base (L2.CX P w) 3 fc fdc ["self", "at"] (spCheck WC NS)) : FnOk P w K mg base (L2.CX P w) 4 f fd ["self", "at"] (spWMv WC NS) := by
  refine F.okX sc_Web_moves (fun vs H Q E h => ?_) (fun cdv A outer s H vs Q E hr h => ?_)
  · obtain ⟨o, v, d, srs, rfl, _⟩ := h
    rfl
  · obtain ⟨o, v, d, srs, rfl, hW, hd, qG, qB⟩ := h
    refine ⟨_, (pss_cons (ps_expr (pe_meth (pv 0) C.cl ME_Web_check G_Web_check (hr.mono (by decide)) bM_Web_check .nil (passes_call (E := E) (takes_of rfl rfl rfl rfl) (fun _ _ _ _ h => h)) (pa_cons (pv 1) pa_nil)))
      (pss_one (ps_ret (pe_callTy call_list_of (by rfl) T.b_list (by decide +kernel) (pa_cons (pe_ix (r := rIxL K) ix_list (pe_fld (pv 0) rfl) (pv 1) (fun _ _ => rfl)) pa_nil))))), ?_⟩
    try simp (maxSteps := 1000000) only [tSeq, tIfS, tTest, tOp, tUn, tCB, tCons, tNil, tVar, tC, rI0, rI, rU, rEq, rNe, tRet, tRetN, tAsg, gName, gSub, tBM, tBM0, tNext, tB, tNot, tAnd, tOr, tIf, tCall, tDrop, tBreak, tCont, L2.start, tDGet, sDPut, tTup, tLst, tDNewK, tRevL, rCat, rAppend, rPop, rSetL, tAndV, tOrV, tNotV, tSl, tPart, tNoPart, tM1, gTup, gCons, gNil, cxK, cxnK, List.map_cons, List.map_nil, List.length_cons, List.length_nil, List.replicate, List.cons_append, List.nil_append, List.append_nil, List.set_cons_zero, List.set_cons_succ, List.getElem?_cons_zero, List.getElem?_cons_succ, Option.some.injEq, V.ref.injEq, V.int.injEq, V.str.injEq, V.bl.injEq, V.ty.injEq, exists_eq_left', exists_eq_left, exists_and_left, List.cons.injEq, and_true, true_and, sc_ii, sc_ss, sc_bb, sc_ni, sc_in, sc_is, sc_si, sc_nn, decide_true, decide_false, reduceCtorEq, Bool.false_eq_true, if_true, if_false, ite_true, ite_false, exists_const, eq_self, false_and, and_false, or_false, false_or, exists_false, Evl.rLenS, rSum, wipe, tYes, exists_eq, exists_eq', rIxL, rIxT, rIxS, exists_and_right, gt_iff_lt, not_true_eq_false, not_false_eq_true, Bool.not_true, Bool.not_false, decide_eq_true_eq, Nat.reduceSub, Nat.reduceAdd, List.append_assoc, tChain, tDIn, tDNotIn, sDDel, tAug, ipI, rInt1_int, rInt1_bl, tFld, tMeth]
    obtain ⟨dx, a, b, c, us, gs, hs, ho, ha, hus, hb, hgs, hc, hhs⟩ := id hW
    refine ⟨dx, _, ho, rfl, o, v, d, srs, rfl, hW, hd, fun hb => ?_, qB⟩
    obtain ⟨k, rfl, k0, k1⟩ := below_iff.mp hb
    cases hd
    obtain ⟨n, rfl⟩ := Int.eq_ofNat_of_zero_le k0
    have em : srs[n]? = some (srs[n]'(by omega)) := List.getElem?_eq_getElem _
    obtain ⟨u, eu, r, rus, rfl, hr2, hm2⟩ := hus.at em
    try simp (maxSteps := 1000000) only [tSeq, tIfS, tTest, tOp, tUn, tCB, tCons, tNil, tVar, tC, rI0, rI, rU, rEq, rNe, tRet, tRetN, tAsg, gName, gSub, tBM, tBM0, tNext, tB, tNot, tAnd, tOr, tIf, tCall, tDrop, tBreak, tCont, L2.start, tDGet, sDPut, tTup, tLst, tDNewK, tRevL, rCat, rAppend, rPop, rSetL, tAndV, tOrV, tNotV, tSl, tPart, tNoPart, tM1, gTup, gCons, gNil, cxK, cxnK, List.map_cons, List.map_nil, List.length_cons, List.length_nil, List.replicate, List.cons_append, List.nil_append, List.append_nil, List.set_cons_zero, List.set_cons_succ, List.getElem?_cons_zero, List.getElem?_cons_succ, Option.some.injEq, V.ref.injEq, V.int.injEq, V.str.injEq, V.bl.injEq, V.ty.injEq, exists_eq_left', exists_eq_left, exists_and_left, List.cons.injEq, and_true, true_and, sc_ii, sc_ss, sc_bb, sc_ni, sc_in, sc_is, sc_si, sc_nn, decide_true, decide_false, reduceCtorEq, Bool.false_eq_true, if_true, if_false, ite_true, ite_false, exists_const, eq_self, false_and, and_false, or_false, false_or, exists_false, Evl.rLenS, rSum, wipe, tYes, exists_eq, exists_eq', rIxL, rIxT, rIxS, exists_and_right, gt_iff_lt, not_true_eq_false, not_false_eq_true, Bool.not_true, Bool.not_false, decide_eq_true_eq, Nat.reduceSub, Nat.reduceAdd, List.append_assoc, tChain, tDIn, tDNotIn, sDDel, tAug, ipI, rInt1_int, rInt1_bl, tFld]
    refine ⟨WC, dx, _, ho, C.cl, C.n1, .ref a, rfl, a, rfl, us, sq_l ha, .ref r, atI_nat eu, ?_⟩
    exact ⟨r, rfl, rus, .inl (sq_l hr2), fun l nl => qG n _ rfl em l rus _ nl upd_same (rwTM hm2 (Kp.new nl).tps) (Kp.new nl)⟩
end
end My

set_option Elab.async false
set_option linter.all false
set_option maxRecDepth 100000
set_option maxHeartbeats 4000000
/-! ### a quiet def, whatever exception is handled around its call -/
namespace My
open PySem PySem.Spec PyProof.Rows L2
structure RoomZ (k : Nat) (A : Around) : Prop where
  dep : A.depth + 3 * k + 5 < recursionLimit
  uni : A.units + 16 * k + 200 < cLine
/-- the room behind a mark is that ahead of it -/
theorem roomZ_mark {k : Nat} {A : Around} {v : Option Value} (r : Room k A) : RoomZ k (A.mark v) := ⟨r.dp, r.un⟩
def cxZ (CX : CXT) (P : Program) (w : World) (K : PySem.W.Frag) (mg : Str → Option Value) (base : Heap) (N : List Str) (qual : Str) (sc : Scope) (f : Addr) (cd : Value) (A : Around) (outer : List Env) (s : Shared) (H : Hp) (E : XK) : Cx := { cxOf CX P w K mg base N qual sc f cd A outer s H E with calm := false }
structure FnZ (P : Program) (w : World) (K : PySem.W.Frag) (mg : Str → Option Value) (base : Heap) (CX : CXT) (k : Nat) (f : Addr) (fd : FuncData) (ps : List Str) (sp : Sp) : Prop where
  len : ∀ vs H Q E, sp vs H Q E → vs.length = ps.length
  run : ∀ (A : Around) (outer : List Env) (s : Shared) (H : Hp) (ar : Args) (us : List Value) (vs : List V) (Q : VK) (E : XK), RoomZ k A → Env0 P w K mg base A outer s H → BindsTo s fd ar (ps.zip us) → Vals vs us → sp vs H Q E → codeAny (model P w) A (.call (.ref f) ar) (CR CX outer P w H s Q E) s
section
variable {CX : CXT} {P : Program} {w : World} {K : PySem.W.Frag} {mg : Str → Option Value} {base : Heap} {N ps : List Str} {qual : Str} {sc : Scope} {f : Addr} {cd : Value} {k : Nat} {sp : Sp}
theorem e0_free {A : Around} {outer : List Env} {s : Shared} {H : Hp} (e : Env0 P w K mg base A outer s H) : Env0 P w K mg base { A with handled := none } outer s H := ⟨e.frames, e.mod, e.bs, e.bsz, e.funs, e.frf, e.hok, e.bare⟩
theorem inv_startZ {A : Around} {outer : List Env} {s s1 : Shared} {H : Hp} {E : XK} {us : List Value} {vs : List V} (S : FnScope N ps sc) (e0 : Env0 P w K mg base A outer s H) (hl : vs.length = ps.length) (r : Vals vs us)
    (x : InCallC s s.heap.objs.size (bindL (envOfC qual sc s.heap.objs.size f cd).kindOf (ps.zip us) fun _ => none) (cellsFrom (s.heap.objs.size + 1) sc.names []) (bindC (envOfC qual sc s.heap.objs.size f cd).kindOf (ps.zip us) fun _ => none) s1) : Inv (cxZ CX P w K mg base N qual sc f cd A outer s H E) [] (L2.start N vs) H s1 := by
  have J := inv_start (CX := CX) (E := E) (A := { A with handled := none }) S rfl (e0_free e0) hl r x
  have o := J.ok
  exact ⟨⟨o.mod, o.kind, o.glob, o.blt, o.above, o.inj, o.has, o.cab, fun z => (by cases z), Around.frames_deeper e0.frames, o.stk, o.exf, o.bs, o.bsz, o.noex, o.exfs, o.funs, o.frf⟩, J.os, J.bare, J.base, J.loc, J.cell, J.free, J.freeC, J.pin, J.hok, J.len⟩
theorem fn_ofZ {name : Str} {params : Arguments} {body : List Stmt} {dV kV doc pm ct oc : Value} {an od : Option Addr} {osl : Array (Option Value)} (lk : K.lookup f = some ⟨oc, od, .func (PySem.W.fnOf name qual params body sc dV kV doc pm an cd ct), osl⟩) (hcd : PySem.W.codeIn K cd qual = true) (S : FnScope N ps sc)
    (len : ∀ vs H Q E, sp vs H Q E → vs.length = ps.length)
    (todo : ∀ (A : Around) (outer : List Env) (s : Shared) (H : Hp) (vs : List V) (Q : VK) (E : XK), sp vs H Q E → ∃ t, PSs (cxZ CX P w K mg base N qual sc f cd A outer s H E) body t ∧ t { nx := fun _ H' => Q .non H', rt := Q } (L2.start N vs) H) :
    FnZ P w K mg base CX (k + 1) f (PySem.W.fnOf name qual params body sc dV kV doc pm an cd ct) ps sp := by
  refine ⟨len, fun A outer s H ar us vs Q E room e0 bnd vals hsp => ?_⟩
  have kin : K.In s.heap := e0.mod.kin.keeps fun b o z => (e0.bs b o z).1
  have nolim : s.heap.NoLimit := e0.mod.nolimit.keeps fun b o z => (e0.bs b o z).1
  have dep : A.depth < recursionLimit := by
    have := room.dep
    omega
  refine codeAny_call_function dep (kin _ _ lk) rfl S.co S.gen rfl (PySem.W.codeRec_of kin hcd) (bnd _ _ _ _ ?_)
  have kinds : ∀ y ∈ ps.zip us, sc.names.lookup y.1 = some .local ∨ (sc.names.lookup y.1 = some .cell ∧ ((cellsFrom (s.heap.objs.size + 1) sc.names []).lookup y.1).isSome = true) := fun ⟨n, v⟩ hy =>
    (S.par n (List.of_mem_zip hy).1).imp id fun z => ⟨z, PySem.W.cellsFrom_some _ _ _ (.inl z)⟩
  refine wpAny_newFunctionEnv_cells S.kind kinds fun env he s1 x => ?_
  cases he
  refine ⟨nolim.keeps x.toInCall.keep, codeAny_func ?_⟩
  obtain ⟨t, ht, hq⟩ := todo A outer s H vs Q E hsp
  have I := inv_startZ (CX := CX) (E := E) (cd := cd) S e0 (len _ _ _ _ hsp) vals x
  refine wpAny_mono (ht.run [] s1 (L2.start N vs) H _ I hq) (fun fl s' done => ?_) fun e s' z => z
  cases fl with
  | ret u =>
    obtain ⟨v, σ', H', J, rv, z⟩ := done
    exact ⟨v, H', J.os, J.bare, J.base, J.hok, rv, z⟩
  | next =>
    obtain ⟨σ', H', J, z⟩ := done
    exact ⟨V.non, H', J.os, J.bare, J.base, J.hok, rfl, z⟩
  | brk => obtain ⟨_, _, _, z⟩ := done; exact z.elim
  | cont => obtain ⟨_, _, _, z⟩ := done; exact z.elim
end
section
variable {X : Cx} {CX : CXT} {k : Nat} {f : Addr} {fd : FuncData} {ps : List Str} {sp : Sp} {E : L2.St → XK} {x : Str} {q pos : Pos} {e : Expr} {es : List Expr} {t : TA}
theorem pe_callZ (F : FnZ X.prog X.w X.K X.mg X.base CX k f fd ps sp) (hr : RoomZ k X.A) (hg : Gl X x) (hm : X.mg x = some (.ref f)) (hk : PySem.W.keepIn X.K (.ref f) = true) (hb : Binds X.K fd ps []) (hx : ∀ σ, PassesAt CX X σ (E σ))
    (ha : PA X (e :: es) t) (hdb : (x == ("__debug__" : Str)) = false := by decide) (he : starEach (e :: es) X.env = (false, eval e X.env) :: starEach es X.env := by rfl) (hpl : (backTo pos (starEach es X.env)).any (·.1) = false := by rfl) : PE X (.Call (.Name x q) (e :: es) [] pos) (tCallS sp E t) := by
  refine ⟨fun pins s σ H Q I h => wpAny_Call_Name_kw (ld_glob I hg hm (PySem.W.callWith_K (h₀ := X.base) I.ok.mod.kin hk (thn (ha.run pos pins s σ H _ I h) fun us s1 ⟨vs, H1, I1, r, z⟩ => ⟨I1.kIn, ?_⟩) he hpl) hdb)⟩
  have hl : us.length = ps.length := r.length.symm.trans (F.len _ _ _ _ z)
  have b := hb s1 us I1.kIn (by rw [List.append_nil]; exact hl)
  rw [List.append_nil] at b
  refine wpAny_call (codeAny_mono (F.run X.A X.stack s1 H1 ⟨us, []⟩ us vs Q (E σ) hr I1.env0 b r z) fun r s' hq => ?_)
  cases r with
  | error e => exact hx σ pins H1 s1 e s' I1 hq
  | ok fl => cases fl with
    | ret u => exact I1.after hq
    | next => exact hq.elim
    | brk => exact hq.elim
    | cont => exact hq.elim
end
end My

set_option Elab.async false
set_option linter.all false
set_option maxRecDepth 100000
set_option maxHeartbeats 4000000
/-! ### the error that is handled, handed to an own def -/
namespace My
open PySem PySem.Spec PyProof.Rows L2 NdefX

section
variable {X : Cx} {a : Addr} {oe : Obj} {cls : Value} {d : Option Addr}
theorem inst_p {pins : List (Addr × Obj)} {s : Shared} {σ : L2.St} {H : Hp} {D dd : Addr} {fs : List (Str × V)} (I : Inv X pins σ H s) (hm : (a, oe) ∈ X.pn) (hz : Zc (.ref D) (some dd) oe) (hf : ∃ vs, oe.data = .fields vs) (e : H dd = some (.xd fs)) : ∃ od, PySem.W.InstAt s.heap a oe D (some od) := by
  obtain ⟨ha, _⟩ := I.pin (a, oe) (List.mem_append_left _ hm)
  obtain ⟨vs, hv⟩ := hf
  obtain ⟨mA, hns, _⟩ := (show ObjOk X.prog X.w H s.heap dd (.xd fs) from I.hok dd _ e)
  obtain ⟨od, ho, _⟩ := lookIn_ns hns
  exact ⟨od, ha, hz.1, by unfold PySem.W.notCls; rw [hv] <;> rfl, by rw [hz.2]; exact ho⟩
theorem call_isP (hm : (a, oe) ∈ X.pn) (hz : Zc cls d oe) (hf : ∃ vs, oe.data = .fields vs) : CallR X (.builtin "isinstance") (rIsX X.K a cls d) := by
  intro pins s σ H xs us Q I r h
  obtain ⟨c, cv, b, D, dd, fs, rfl, hcv, rfl, rfl, ed, T, e, q⟩ := h
  obtain ⟨u1, u2, rfl, r1, r2⟩ := vals2 r
  cases (show u1 = Value.ref a from r1)
  cases hcv _ r2
  obtain ⟨od, J⟩ := inst_p I hm hz hf ed
  exact PySem.W.kia_one (PySem.W.kitx_exc T.cl T.ga T.gg T.bx T.hc T.hn T.ht T.ob) I.kIn J e (fun z => nomatch z) fun tk => ⟨.bl b, H, I.tok tk, rfl, q⟩
theorem pe_xfP {C : Addr} {e : Expr} {te : TE} {pos : Pos} {n : Str} (T : XfC X.K C) (hno : PySem.W.findIn X.K (.ref C) n = some none)
    (hm : (a, oe) ∈ X.pn) (hz : Zc cls d oe) (hf : ∃ vs, oe.data = .fields vs) (he : PE X e te) (hb : attributeBase e n X.env (eval e X.env) = eval e X.env := by rfl) :
    PE X (.Attribute e n pos) (tXf a cls d C n te) := by
  refine ⟨fun pins s σ H Q I h => ?_⟩
  refine attr_of hb (thn (he.run pins s σ H _ I h) fun u s1 hh => ?_)
  obtain ⟨x, H1, I1, rx, ex, ec, dd, fs, v, ed, ea, l, q⟩ := hh
  subst ex
  obtain rfl : u = Value.ref a := rx
  subst ec
  subst ed
  obtain ⟨ha, _⟩ := I1.pin (a, oe) (List.mem_append_left _ hm)
  obtain ⟨vs, hd⟩ := hf
  have hx : ObjOk X.prog X.w H1 s1.heap dd (.xd fs) := I1.hok dd _ ea
  obtain ⟨mA, hns, hr⟩ := hx
  obtain ⟨od, ho, hl⟩ := lookIn_ns hns
  obtain ⟨u, hu, ru⟩ := RelO.some_of (v := v) (o := mA n) (by rw [← l]; exact hr n)
  have J : PySem.W.InstAt s1.heap a oe C (some od) := ⟨ha, hz.1, by unfold PySem.W.notCls; rw [hd] <;> rfl, by rw [hz.2]; exact ho⟩
  exact HandSPX.exc_get I1.kIn J T.ga T.gg T.exC (PySem.W.findObj_own T.hdC hno rfl (by rw [hl, hu])) (handed_of ru) ⟨v, H1, I1.tok _, ru, q⟩
end
theorem RoomZ.mono {j k : Nat} {A : Around} (r : RoomZ k A) (h : j ≤ k) : RoomZ j A := ⟨by have := r.dep; omega, by have := r.uni; omega⟩
theorem RoomZ.deeper {k : Nat} {A : Around} (r : RoomZ (k + 1) A) (env : Env) : RoomZ k (A.deeper env) :=
  ⟨by have := r.dep; show A.depth + 1 + 3 * k + 5 < _; omega, by have := r.uni; show A.units + 3 + 16 * k + 200 < _; omega⟩
theorem RoomZ.units {k : Nat} {A : Around} (r : RoomZ k A) : A.units + 64 < cLine := by have := r.uni; omega
theorem RoomZ.units0 {k : Nat} {A : Around} (r : RoomZ k A) : A.units + 1 < cLine := by have := r.uni; omega
def cxZE (CX : CXT) (P : Program) (w : World) (K : PySem.W.Frag) (mg : Str → Option Value) (base : Heap) (N : List Str) (qual : Str) (sc : Scope) (f : Addr) (cd : Value) (A : Around) (outer : List Env) (s : Shared) (H : Hp) (E : XK) (pn : List (Addr × Obj)) : Cx := { cxOf CX P w K mg base N qual sc f cd A outer s H E with calm := false, pn := pn }
/-- what is known of the error, as it stands -/
structure Held (s : Shared) (H : Hp) (outer : List Env) (a : Addr) (oe : Obj) (cls : Value) (d : Option Addr) : Prop where
  z : Zc cls d oe
  f : ∃ vs, oe.data = .fields vs
  at_ : s.heap.get? a = some oe
  no : H a = none
  fr : a ∉ frs outer
structure FnZE (P : Program) (w : World) (K : PySem.W.Frag) (mg : Str → Option Value) (base : Heap) (CX : CXT) (k : Nat) (f : Addr) (fd : FuncData) (ps : List Str) (sp : Addr → Value → Option Addr → Sp) : Prop where
  len : ∀ a cls d vs H Q E, sp a cls d vs H Q E → vs.length = ps.length
  run : ∀ (A : Around) (outer : List Env) (s : Shared) (H : Hp) (ar : Args) (us : List Value) (vs : List V) (Q : VK) (E : XK) (a : Addr) (oe : Obj) (cls : Value) (d : Option Addr), RoomZ k A → Env0 P w K mg base A outer s H → BindsTo s fd ar (ps.zip us) → Vals vs us → Held s H outer a oe cls d → sp a cls d vs H Q E → codeAny (model P w) A (.call (.ref f) ar) (CR CX outer P w H s Q E) s
section
variable {CX : CXT} {P : Program} {w : World} {K : PySem.W.Frag} {mg : Str → Option Value} {base : Heap} {N ps : List Str} {qual : Str} {sc : Scope} {f : Addr} {cd : Value} {k : Nat} {sp : Addr → Value → Option Addr → Sp}
theorem inv_startZE {A : Around} {outer : List Env} {s s1 : Shared} {H : Hp} {E : XK} {us : List Value} {vs : List V} {a : Addr} {oe : Obj} {cls : Value} {d : Option Addr} (S : FnScope N ps sc) (e0 : Env0 P w K mg base A outer s H) (hl : vs.length = ps.length) (r : Vals vs us) (h : Held s H outer a oe cls d)
    (x : InCallC s s.heap.objs.size (bindL (envOfC qual sc s.heap.objs.size f cd).kindOf (ps.zip us) fun _ => none) (cellsFrom (s.heap.objs.size + 1) sc.names []) (bindC (envOfC qual sc s.heap.objs.size f cd).kindOf (ps.zip us) fun _ => none) s1) : Inv (cxZE CX P w K mg base N qual sc f cd A outer s H E [(a, oe)]) [] (L2.start N vs) H s1 := by
  have J := inv_startZ (CX := CX) (E := E) S e0 hl r x
  have o := J.ok
  refine ⟨⟨o.mod, o.kind, o.glob, o.blt, o.above, o.inj, o.has, o.cab, fun z => (by cases z), o.frames, o.stk, o.exf, o.bs, o.bsz, o.noex, o.exfs, o.funs, o.frf⟩, J.os, J.bare, J.base, J.loc, J.cell, J.free, J.freeC, fun p hp => ?_, J.hok, J.len⟩
  have hp' : p ∈ [(a, oe)] := by simpa [cxZE] using hp
  rw [List.mem_singleton.mp hp']
  obtain ⟨vs', hv⟩ := h.f
  have lt := Heap.lt_size h.at_
  exact ⟨x.toInCall.keep _ _ h.at_, h.no, fun z => absurd lt (by rw [show a = s.heap.objs.size from z]; exact Nat.lt_irrefl _), h.fr, fun v z => by rw [show oe.data = .cell v from z] at hv; cases hv⟩
theorem fn_ofZE {name : Str} {params : Arguments} {body : List Stmt} {dV kV doc pm ct oc : Value} {an od : Option Addr} {osl : Array (Option Value)} (lk : K.lookup f = some ⟨oc, od, .func (PySem.W.fnOf name qual params body sc dV kV doc pm an cd ct), osl⟩) (hcd : PySem.W.codeIn K cd qual = true) (S : FnScope N ps sc)
    (len : ∀ a cls d vs H Q E, sp a cls d vs H Q E → vs.length = ps.length)
    (todo : ∀ (A : Around) (outer : List Env) (s : Shared) (H : Hp) (vs : List V) (Q : VK) (E : XK) (a : Addr) (oe : Obj) (cls : Value) (d : Option Addr), RoomZ k (A.deeper (envOfC qual sc s.heap.objs.size f cd)) → Zc cls d oe → (∃ vs, oe.data = .fields vs) → sp a cls d vs H Q E → ∃ t, PSs (cxZE CX P w K mg base N qual sc f cd A outer s H E [(a, oe)]) body t ∧ t { nx := fun _ H' => Q .non H', rt := Q } (L2.start N vs) H) :
    FnZE P w K mg base CX (k + 1) f (PySem.W.fnOf name qual params body sc dV kV doc pm an cd ct) ps sp := by
  refine ⟨len, fun A outer s H ar us vs Q E a oe cls d room e0 bnd vals held hsp => ?_⟩
  have kin : K.In s.heap := e0.mod.kin.keeps fun b o z => (e0.bs b o z).1
  have nolim : s.heap.NoLimit := e0.mod.nolimit.keeps fun b o z => (e0.bs b o z).1
  have dep : A.depth < recursionLimit := by
    have := room.dep
    omega
  refine codeAny_call_function dep (kin _ _ lk) rfl S.co S.gen rfl (PySem.W.codeRec_of kin hcd) (bnd _ _ _ _ ?_)
  have kinds : ∀ y ∈ ps.zip us, sc.names.lookup y.1 = some .local ∨ (sc.names.lookup y.1 = some .cell ∧ ((cellsFrom (s.heap.objs.size + 1) sc.names []).lookup y.1).isSome = true) := fun ⟨n, v⟩ hy =>
    (S.par n (List.of_mem_zip hy).1).imp id fun z => ⟨z, PySem.W.cellsFrom_some _ _ _ (.inl z)⟩
  refine wpAny_newFunctionEnv_cells S.kind kinds fun env he s1 x => ?_
  cases he
  refine ⟨nolim.keeps x.toInCall.keep, codeAny_func ?_⟩
  obtain ⟨t, ht, hq⟩ := todo A outer s H vs Q E a oe cls d (room.deeper _) held.z held.f hsp
  have I := inv_startZE (CX := CX) (E := E) (cd := cd) S e0 (len _ _ _ _ _ _ _ hsp) vals held x
  refine wpAny_mono (ht.run [] s1 (L2.start N vs) H _ I hq) (fun fl s' done => ?_) fun e s' z => z
  cases fl with
  | ret u =>
    obtain ⟨v, σ', H', J, rv, z⟩ := done
    exact ⟨v, H', J.os, J.bare, J.base, J.hok, rv, z⟩
  | next =>
    obtain ⟨σ', H', J, z⟩ := done
    exact ⟨V.non, H', J.os, J.bare, J.base, J.hok, rfl, z⟩
  | brk => obtain ⟨_, _, _, z⟩ := done; exact z.elim
  | cont => obtain ⟨_, _, _, z⟩ := done; exact z.elim
/-- .. where no error is handed on, but with the room told -/
theorem fn_ofZR {sp : Sp} {name : Str} {params : Arguments} {body : List Stmt} {dV kV doc pm ct oc : Value} {an od : Option Addr} {osl : Array (Option Value)} (lk : K.lookup f = some ⟨oc, od, .func (PySem.W.fnOf name qual params body sc dV kV doc pm an cd ct), osl⟩) (hcd : PySem.W.codeIn K cd qual = true) (S : FnScope N ps sc)
    (len : ∀ vs H Q E, sp vs H Q E → vs.length = ps.length)
    (todo : ∀ (A : Around) (outer : List Env) (s : Shared) (H : Hp) (vs : List V) (Q : VK) (E : XK), RoomZ k (A.deeper (envOfC qual sc s.heap.objs.size f cd)) → sp vs H Q E → ∃ t, PSs (cxZ CX P w K mg base N qual sc f cd A outer s H E) body t ∧ t { nx := fun _ H' => Q .non H', rt := Q } (L2.start N vs) H) :
    FnZ P w K mg base CX (k + 1) f (PySem.W.fnOf name qual params body sc dV kV doc pm an cd ct) ps sp := by
  refine ⟨len, fun A outer s H ar us vs Q E room e0 bnd vals hsp => ?_⟩
  have kin : K.In s.heap := e0.mod.kin.keeps fun b o z => (e0.bs b o z).1
  have nolim : s.heap.NoLimit := e0.mod.nolimit.keeps fun b o z => (e0.bs b o z).1
  have dep : A.depth < recursionLimit := by
    have := room.dep
    omega
  refine codeAny_call_function dep (kin _ _ lk) rfl S.co S.gen rfl (PySem.W.codeRec_of kin hcd) (bnd _ _ _ _ ?_)
  have kinds : ∀ y ∈ ps.zip us, sc.names.lookup y.1 = some .local ∨ (sc.names.lookup y.1 = some .cell ∧ ((cellsFrom (s.heap.objs.size + 1) sc.names []).lookup y.1).isSome = true) := fun ⟨n, v⟩ hy =>
    (S.par n (List.of_mem_zip hy).1).imp id fun z => ⟨z, PySem.W.cellsFrom_some _ _ _ (.inl z)⟩
  refine wpAny_newFunctionEnv_cells S.kind kinds fun env he s1 x => ?_
  cases he
  refine ⟨nolim.keeps x.toInCall.keep, codeAny_func ?_⟩
  obtain ⟨t, ht, hq⟩ := todo A outer s H vs Q E (room.deeper _) hsp
  have I := inv_startZ (CX := CX) (E := E) (cd := cd) S e0 (len _ _ _ _ hsp) vals x
  refine wpAny_mono (ht.run [] s1 (L2.start N vs) H _ I hq) (fun fl s' done => ?_) fun e s' z => z
  cases fl with
  | ret u =>
    obtain ⟨v, σ', H', J, rv, z⟩ := done
    exact ⟨v, H', J.os, J.bare, J.base, J.hok, rv, z⟩
  | next =>
    obtain ⟨σ', H', J, z⟩ := done
    exact ⟨V.non, H', J.os, J.bare, J.base, J.hok, rfl, z⟩
  | brk => obtain ⟨_, _, _, z⟩ := done; exact z.elim
  | cont => obtain ⟨_, _, _, z⟩ := done; exact z.elim
/-- nothing asks for it -/
theorem fnZ_no {sp : Sp} {f : Addr} {fd : FuncData} {k : Nat} (h : ∀ vs H Q E, ¬ sp vs H Q E) : FnZ P w K mg base CX k f fd ps sp := ⟨fun vs H Q E z => absurd z (h _ _ _ _), fun _ _ _ _ _ _ _ _ _ _ _ _ _ z => absurd z (h _ _ _ _)⟩
end
section
variable {X : Cx} {CX : CXT} {k : Nat} {f : Addr} {fd : FuncData} {ps : List Str} {sp : Addr → Value → Option Addr → Sp} {E : L2.St → XK} {x : Str} {q pos : Pos} {e : Expr} {es : List Expr} {t : TA} {a : Addr} {oe : Obj} {cls : Value} {d : Option Addr}
theorem pe_callZE (hmp : (a, oe) ∈ X.pn) (hz : Zc cls d oe) (hf : ∃ vs, oe.data = .fields vs) (F : FnZE X.prog X.w X.K X.mg X.base CX k f fd ps sp) (hr : RoomZ k X.A) (hg : Gl X x) (hm : X.mg x = some (.ref f)) (hk : PySem.W.keepIn X.K (.ref f) = true) (hb : Binds X.K fd ps []) (hx : ∀ σ, PassesAt CX X σ (E σ))
    (ha : PA X (e :: es) t) (hdb : (x == ("__debug__" : Str)) = false := by decide) (he : starEach (e :: es) X.env = (false, eval e X.env) :: starEach es X.env := by rfl) (hpl : (backTo pos (starEach es X.env)).any (·.1) = false := by rfl) : PE X (.Call (.Name x q) (e :: es) [] pos) (tCallS (sp a cls d) E t) := by
  refine ⟨fun pins s σ H Q I h => wpAny_Call_Name_kw (ld_glob I hg hm (PySem.W.callWith_K (h₀ := X.base) I.ok.mod.kin hk (thn (ha.run pos pins s σ H _ I h) fun us s1 ⟨vs, H1, I1, r, z⟩ => ⟨I1.kIn, ?_⟩) he hpl) hdb)⟩
  have hl : us.length = ps.length := r.length.symm.trans (F.len _ _ _ _ _ _ _ z)
  have b := hb s1 us I1.kIn (by rw [List.append_nil]; exact hl)
  rw [List.append_nil] at b
  obtain ⟨p1, p2, p3, p4, p5⟩ := I1.pin (a, oe) (List.mem_append_left _ hmp)
  have fr : a ∉ frs X.stack := by
    rcases I1.ok.stk with e | ⟨e, ef⟩
    · rw [e]; exact p4
    · rw [e]
      unfold frs
      rw [List.filterMap_cons, ef]
      intro z
      rcases List.mem_cons.mp z with z | z
      · exact p3 z
      · exact p4 z
  refine wpAny_call (codeAny_mono (F.run X.A X.stack s1 H1 ⟨us, []⟩ us vs Q (E σ) a oe cls d hr I1.env0 b r ⟨hz, hf, p1, p2, fr⟩ z) fun r s' hq => ?_)
  cases r with
  | error e => exact hx σ pins H1 s1 e s' I1 hq
  | ok fl => cases fl with
    | ret u => exact I1.after hq
    | next => exact hq.elim
    | brk => exact hq.elim
    | cont => exact hq.elim
end
end My

set_option Elab.async false
set_option linter.all false
set_option maxRecDepth 100000
set_option maxHeartbeats 4000000
namespace My
open PySem L2 NdefX
abbrev s_law_same : Stmt := top 26
theorem sc_law_same : FnScope ["_law_told", "_law_due", "_law_k"] ["_law_told", "_law_due"] (defScope s_law_same) := ⟨rfl, rfl, rfl, by decide +kernel, rfl, by decide +kernel, by decide +kernel⟩
def Sca (x y : V) : Prop := (∃ i : Int, x = .int i ∧ y = .int i) ∨ (∃ b : Bool, x = .bl b ∧ y = .bl b) ∨ ∃ z : Str, x = .str z ∧ y = .str z
/-- two values that are the same to the depth d -/
def SameD : Nat → Hp → V → V → Prop
  | 0, _, x, y => Sca x y
  | d + 1, H, x, y => Sca x y ∨ ∃ (a b : Addr) (us vs : List V), x = .ref a ∧ y = .ref b ∧ ((H a = some (.lst us) ∧ H b = some (.lst vs)) ∨ (H a = some (.tup us) ∧ H b = some (.tup vs))) ∧ us.length = vs.length ∧ us.length ≤ 5000 ∧ ∀ (i : Nat) (u v : V), us[i]? = some u → vs[i]? = some v → SameD d H u v
def spSame (d : Nat) : Sp := fun vs H Q _ => ∃ (x y : V), vs = [x, y] ∧ SameD d H x y ∧ Q (.bl true) H
def spPrev : Nat → Sp
  | 0 => fun _ _ _ _ => False
  | d + 1 => spSame d
structure BtX (mg : Str → Option Value) : Prop where
  b_isinstance : mg "isinstance" = none
  b_bool : mg "bool" = none
  b_int : mg "int" = none
  b_str : mg "str" = none
  b_len : mg "len" = none
  b_range : mg "range" = none
  b_tuple : mg "tuple" = none
  b_list : mg "list" = none
section
variable {P : Program} {w : World} {K : PySem.W.Frag} {mg : Str → Option Value} {base : Heap}
theorem same_step {f : Addr} {fd : FuncData} (D_law_same : Df K mg "_law_same" s_law_same ["_law_told", "_law_due"] f fd) (T : BtX mg) (d : Nat) (G_law_same : FnOk P w K mg base CX0 d f fd ["_law_told", "_law_due"] (spPrev d)) : FnOk P w K mg base CX0 (d + 1) f fd ["_law_told", "_law_due"] (spSame d) := by
  have D := D_law_same
  refine D.F.ok sc_law_same (fun vs H Q E h => ?_) (fun cdv A outer s H vs Q E hr h => ?_)
  · obtain ⟨_, _, rfl, _⟩ := h
    rfl
  · obtain ⟨x, y, rfl, hs, q⟩ := h
    refine ⟨_, (pss_cons (ps_if (PW.pt (pw_or (pt_val (pe_callB (id := "isinstance") (r := rIsi K) call_isi (by rfl) T.b_isinstance (by decide +kernel) (pa_cons (pv 1) (pa_cons (pe_bltn (v := .ty "tuple") (by rfl) T.b_tuple (by decide +kernel) rfl) pa_nil)))) (pw_or1 (pt_val (pe_callB (id := "isinstance") (r := rIsi K) call_isi (by rfl) T.b_isinstance (by decide +kernel) (pa_cons (pv 1) (pa_cons (pe_bltn (v := .ty "list") (by rfl) T.b_list (by decide +kernel) rfl) pa_nil))))))) (pss_cons (ps_if (PW.pt (pw_or (pt_cmpR op_ne (pe_callB (id := "isinstance") (r := rIsi K) call_isi (by rfl) T.b_isinstance (by decide +kernel) (pa_cons (pv 1) (pa_cons (pe_bltn (v := .ty "tuple") (by rfl) T.b_tuple (by decide +kernel) rfl) pa_nil))) (pe_callB (id := "isinstance") (r := rIsi K) call_isi (by rfl) T.b_isinstance (by decide +kernel) (pa_cons (pv 0) (pa_cons (pe_bltn (v := .ty "tuple") (by rfl) T.b_tuple (by decide +kernel) rfl) pa_nil))) (nomark _)) (pw_or1 (pt_cmpR op_ne (pe_callB (id := "isinstance") (r := rIsi K) call_isi (by rfl) T.b_isinstance (by decide +kernel) (pa_cons (pv 1) (pa_cons (pe_bltn (v := .ty "list") (by rfl) T.b_list (by decide +kernel) rfl) pa_nil))) (pe_callB (id := "isinstance") (r := rIsi K) call_isi (by rfl) T.b_isinstance (by decide +kernel) (pa_cons (pv 0) (pa_cons (pe_bltn (v := .ty "list") (by rfl) T.b_list (by decide +kernel) rfl) pa_nil))) (nomark _))))) (pss_one (ps_ret pe_bl)) pss_nil)
      (pss_cons (ps_if (pt_cmpR op_ne (pe_callB (id := "len") (r := Evl.rLenS K) call_len_seq (by rfl) T.b_len PySem.boot_len (pa_cons (pv 0) pa_nil)) (pe_callB (id := "len") (r := Evl.rLenS K) call_len_seq (by rfl) T.b_len PySem.boot_len (pa_cons (pv 1) pa_nil)) (nomark _)) (pss_one (ps_ret pe_bl)) pss_nil)
      (pss_cons (ps_for PassesOwn.never rfl (pi_range1 rfl T.b_range (pa_cons (pe_callB (id := "len") (r := Evl.rLenS K) call_len_seq (by rfl) T.b_len PySem.boot_len (pa_cons (pv 1) pa_nil)) pa_nil)) (pg_name (i := 2) sc_law_same.nd rfl (Or.inl rfl)) (pss_one (ps_if (pt_not (pt_val (pe_call G_law_same (hr.mono (Nat.le_refl _)) rfl D_law_same.g D_law_same.F.kp D_law_same.b .nil pass0 (pa_cons (pe_ix (r := rIx K) ix_seq (pv 0) (pv 2) (fun _ _ => rfl)) (pa_cons (pe_ix (r := rIx K) ix_seq (pv 1) (pv 2) (fun _ _ => rfl)) pa_nil))))) (pss_one (ps_ret pe_bl)) pss_nil)))
      (pss_one (ps_ret pe_bl))))) pss_nil)
      (pss_cons (ps_if (pt_cmpR op_isN (pv 1) pe_non (nomark _)) (pss_one (ps_ret (pe_cmpR op_isN (pv 0) pe_non (nomark _)))) pss_nil)
      (pss_cons (ps_if (PW.pt (pw_or (pt_cmpR op_ne (pe_callB (id := "isinstance") (r := rIsi K) call_isi (by rfl) T.b_isinstance (by decide +kernel) (pa_cons (pv 1) (pa_cons (pe_bltn (v := .ty "bool") (by rfl) T.b_bool (by decide +kernel) rfl) pa_nil))) (pe_callB (id := "isinstance") (r := rIsi K) call_isi (by rfl) T.b_isinstance (by decide +kernel) (pa_cons (pv 0) (pa_cons (pe_bltn (v := .ty "bool") (by rfl) T.b_bool (by decide +kernel) rfl) pa_nil))) (nomark _)) (pw_or1 (pt_cmpR op_ne (pe_callB (id := "isinstance") (r := rIsi K) call_isi (by rfl) T.b_isinstance (by decide +kernel) (pa_cons (pv 1) (pa_cons (pe_bltn (v := .ty "int") (by rfl) T.b_int (by decide +kernel) rfl) pa_nil))) (pe_callB (id := "isinstance") (r := rIsi K) call_isi (by rfl) T.b_isinstance (by decide +kernel) (pa_cons (pv 0) (pa_cons (pe_bltn (v := .ty "int") (by rfl) T.b_int (by decide +kernel) rfl) pa_nil))) (nomark _))))) (pss_one (ps_ret pe_bl)) pss_nil)
      (pss_one (ps_ret (pe_and (pe_cmpR op_eq (pe_callB (id := "isinstance") (r := rIsi K) call_isi (by rfl) T.b_isinstance (by decide +kernel) (pa_cons (pv 1) (pa_cons (pe_bltn (v := .ty "str") (by rfl) T.b_str (by decide +kernel) rfl) pa_nil))) (pe_callB (id := "isinstance") (r := rIsi K) call_isi (by rfl) T.b_isinstance (by decide +kernel) (pa_cons (pv 0) (pa_cons (pe_bltn (v := .ty "str") (by rfl) T.b_str (by decide +kernel) rfl) pa_nil))) (nomark _)) (pe_one (pe_cmpR op_eq (pv 0) (pv 1) (nomark _))))))))), ?_⟩
    try simp (maxSteps := 1000000) only [tSeq, tIfS, tTest, tOp, tUn, tCB, tCons, tNil, tVar, tC, rI0, rI, rU, rEq, rNe, tRet, tRetN, tAsg, gName, gSub, tBM, tBM0, tNext, tB, tNot, tAnd, tOr, tIf, tCall, tDrop, tBreak, tCont, L2.start, tDGet, sDPut, tTup, tLst, tDNewK, tRevL, rCat, rAppend, rPop, rSetL, tAndV, tOrV, tNotV, tSl, tPart, tNoPart, tM1, gTup, gCons, gNil, cxK, cxnK, List.map_cons, List.map_nil, List.length_cons, List.length_nil, List.replicate, List.cons_append, List.nil_append, List.append_nil, List.set_cons_zero, List.set_cons_succ, List.getElem?_cons_zero, List.getElem?_cons_succ, Option.some.injEq, V.ref.injEq, V.int.injEq, V.str.injEq, V.bl.injEq, V.ty.injEq, exists_eq_left', exists_eq_left, exists_and_left, List.cons.injEq, and_true, true_and, sc_ii, sc_ss, sc_bb, sc_ni, sc_in, sc_is, sc_si, sc_nn, decide_true, decide_false, reduceCtorEq, Bool.false_eq_true, if_true, if_false, ite_true, ite_false, exists_const, eq_self, false_and, and_false, or_false, false_or, exists_false, Evl.rLenS, rSum, wipe, tYes, exists_eq, exists_eq', rIxL, rIxT, rIxS, exists_and_right, gt_iff_lt, not_true_eq_false, not_false_eq_true, Bool.not_true, Bool.not_false, decide_eq_true_eq, Nat.reduceSub, Nat.reduceAdd, List.append_assoc, tChain, tDIn, tDNotIn, sDDel, tAug, ipI, rInt1_int, rInt1_bl]
    have hint : Sca x y ∨ ∃ d', d = d' + 1 ∧ ∃ (a b : Addr) (us vs : List V), x = .ref a ∧ y = .ref b ∧ ((H a = some (.lst us) ∧ H b = some (.lst vs)) ∨ (H a = some (.tup us) ∧ H b = some (.tup vs))) ∧ us.length = vs.length ∧ us.length ≤ 5000 ∧ ∀ (i : Nat) (u v : V), us[i]? = some u → vs[i]? = some v → SameD d' H u v := by
      cases d with
      | zero => exact .inl hs
      | succ d =>
        rcases hs with h | h
        · exact .inl h
        · exact .inr ⟨d, rfl, h⟩
    rcases hint with (⟨i, rfl, rfl⟩ | ⟨i, rfl, rfl⟩ | ⟨i, rfl, rfl⟩) | ⟨d', rfl, a, b, us, vs, rfl, rfl, (⟨ha, hb⟩ | ⟨ha, hb⟩), el, l1, hi⟩
    · skip
      refine isi_mk (.int i) (b := false) (by decide +kernel) ?_
      try simp (maxSteps := 1000000) only [tSeq, tIfS, tTest, tOp, tUn, tCB, tCons, tNil, tVar, tC, rI0, rI, rU, rEq, rNe, tRet, tRetN, tAsg, gName, gSub, tBM, tBM0, tNext, tB, tNot, tAnd, tOr, tIf, tCall, tDrop, tBreak, tCont, L2.start, tDGet, sDPut, tTup, tLst, tDNewK, tRevL, rCat, rAppend, rPop, rSetL, tAndV, tOrV, tNotV, tSl, tPart, tNoPart, tM1, gTup, gCons, gNil, cxK, cxnK, List.map_cons, List.map_nil, List.length_cons, List.length_nil, List.replicate, List.cons_append, List.nil_append, List.append_nil, List.set_cons_zero, List.set_cons_succ, List.getElem?_cons_zero, List.getElem?_cons_succ, Option.some.injEq, V.ref.injEq, V.int.injEq, V.str.injEq, V.bl.injEq, V.ty.injEq, exists_eq_left', exists_eq_left, exists_and_left, List.cons.injEq, and_true, true_and, sc_ii, sc_ss, sc_bb, sc_ni, sc_in, sc_is, sc_si, sc_nn, decide_true, decide_false, reduceCtorEq, Bool.false_eq_true, if_true, if_false, ite_true, ite_false, exists_const, eq_self, false_and, and_false, or_false, false_or, exists_false, Evl.rLenS, rSum, wipe, tYes, exists_eq, exists_eq', rIxL, rIxT, rIxS, exists_and_right, gt_iff_lt, not_true_eq_false, not_false_eq_true, Bool.not_true, Bool.not_false, decide_eq_true_eq, Nat.reduceSub, Nat.reduceAdd, List.append_assoc, tChain, tDIn, tDNotIn, sDDel, tAug, ipI, rInt1_int, rInt1_bl]
      refine isi_mk (.int i) (b := false) (by decide +kernel) ?_
      try simp (maxSteps := 1000000) only [tSeq, tIfS, tTest, tOp, tUn, tCB, tCons, tNil, tVar, tC, rI0, rI, rU, rEq, rNe, tRet, tRetN, tAsg, gName, gSub, tBM, tBM0, tNext, tB, tNot, tAnd, tOr, tIf, tCall, tDrop, tBreak, tCont, L2.start, tDGet, sDPut, tTup, tLst, tDNewK, tRevL, rCat, rAppend, rPop, rSetL, tAndV, tOrV, tNotV, tSl, tPart, tNoPart, tM1, gTup, gCons, gNil, cxK, cxnK, List.map_cons, List.map_nil, List.length_cons, List.length_nil, List.replicate, List.cons_append, List.nil_append, List.append_nil, List.set_cons_zero, List.set_cons_succ, List.getElem?_cons_zero, List.getElem?_cons_succ, Option.some.injEq, V.ref.injEq, V.int.injEq, V.str.injEq, V.bl.injEq, V.ty.injEq, exists_eq_left', exists_eq_left, exists_and_left, List.cons.injEq, and_true, true_and, sc_ii, sc_ss, sc_bb, sc_ni, sc_in, sc_is, sc_si, sc_nn, decide_true, decide_false, reduceCtorEq, Bool.false_eq_true, if_true, if_false, ite_true, ite_false, exists_const, eq_self, false_and, and_false, or_false, false_or, exists_false, Evl.rLenS, rSum, wipe, tYes, exists_eq, exists_eq', rIxL, rIxT, rIxS, exists_and_right, gt_iff_lt, not_true_eq_false, not_false_eq_true, Bool.not_true, Bool.not_false, decide_eq_true_eq, Nat.reduceSub, Nat.reduceAdd, List.append_assoc, tChain, tDIn, tDNotIn, sDDel, tAug, ipI, rInt1_int, rInt1_bl]
      refine isi_mk (.int i) (b := false) (by decide +kernel) ?_
      try simp (maxSteps := 1000000) only [tSeq, tIfS, tTest, tOp, tUn, tCB, tCons, tNil, tVar, tC, rI0, rI, rU, rEq, rNe, tRet, tRetN, tAsg, gName, gSub, tBM, tBM0, tNext, tB, tNot, tAnd, tOr, tIf, tCall, tDrop, tBreak, tCont, L2.start, tDGet, sDPut, tTup, tLst, tDNewK, tRevL, rCat, rAppend, rPop, rSetL, tAndV, tOrV, tNotV, tSl, tPart, tNoPart, tM1, gTup, gCons, gNil, cxK, cxnK, List.map_cons, List.map_nil, List.length_cons, List.length_nil, List.replicate, List.cons_append, List.nil_append, List.append_nil, List.set_cons_zero, List.set_cons_succ, List.getElem?_cons_zero, List.getElem?_cons_succ, Option.some.injEq, V.ref.injEq, V.int.injEq, V.str.injEq, V.bl.injEq, V.ty.injEq, exists_eq_left', exists_eq_left, exists_and_left, List.cons.injEq, and_true, true_and, sc_ii, sc_ss, sc_bb, sc_ni, sc_in, sc_is, sc_si, sc_nn, decide_true, decide_false, reduceCtorEq, Bool.false_eq_true, if_true, if_false, ite_true, ite_false, exists_const, eq_self, false_and, and_false, or_false, false_or, exists_false, Evl.rLenS, rSum, wipe, tYes, exists_eq, exists_eq', rIxL, rIxT, rIxS, exists_and_right, gt_iff_lt, not_true_eq_false, not_false_eq_true, Bool.not_true, Bool.not_false, decide_eq_true_eq, Nat.reduceSub, Nat.reduceAdd, List.append_assoc, tChain, tDIn, tDNotIn, sDDel, tAug, ipI, rInt1_int, rInt1_bl]
      refine isi_mk (.int i) (b := false) (by decide +kernel) ?_
      try simp (maxSteps := 1000000) only [tSeq, tIfS, tTest, tOp, tUn, tCB, tCons, tNil, tVar, tC, rI0, rI, rU, rEq, rNe, tRet, tRetN, tAsg, gName, gSub, tBM, tBM0, tNext, tB, tNot, tAnd, tOr, tIf, tCall, tDrop, tBreak, tCont, L2.start, tDGet, sDPut, tTup, tLst, tDNewK, tRevL, rCat, rAppend, rPop, rSetL, tAndV, tOrV, tNotV, tSl, tPart, tNoPart, tM1, gTup, gCons, gNil, cxK, cxnK, List.map_cons, List.map_nil, List.length_cons, List.length_nil, List.replicate, List.cons_append, List.nil_append, List.append_nil, List.set_cons_zero, List.set_cons_succ, List.getElem?_cons_zero, List.getElem?_cons_succ, Option.some.injEq, V.ref.injEq, V.int.injEq, V.str.injEq, V.bl.injEq, V.ty.injEq, exists_eq_left', exists_eq_left, exists_and_left, List.cons.injEq, and_true, true_and, sc_ii, sc_ss, sc_bb, sc_ni, sc_in, sc_is, sc_si, sc_nn, decide_true, decide_false, reduceCtorEq, Bool.false_eq_true, if_true, if_false, ite_true, ite_false, exists_const, eq_self, false_and, and_false, or_false, false_or, exists_false, Evl.rLenS, rSum, wipe, tYes, exists_eq, exists_eq', rIxL, rIxT, rIxS, exists_and_right, gt_iff_lt, not_true_eq_false, not_false_eq_true, Bool.not_true, Bool.not_false, decide_eq_true_eq, Nat.reduceSub, Nat.reduceAdd, List.append_assoc, tChain, tDIn, tDNotIn, sDDel, tAug, ipI, rInt1_int, rInt1_bl]
      refine isi_mk (.int i) (b := true) (by decide +kernel) ?_
      try simp (maxSteps := 1000000) only [tSeq, tIfS, tTest, tOp, tUn, tCB, tCons, tNil, tVar, tC, rI0, rI, rU, rEq, rNe, tRet, tRetN, tAsg, gName, gSub, tBM, tBM0, tNext, tB, tNot, tAnd, tOr, tIf, tCall, tDrop, tBreak, tCont, L2.start, tDGet, sDPut, tTup, tLst, tDNewK, tRevL, rCat, rAppend, rPop, rSetL, tAndV, tOrV, tNotV, tSl, tPart, tNoPart, tM1, gTup, gCons, gNil, cxK, cxnK, List.map_cons, List.map_nil, List.length_cons, List.length_nil, List.replicate, List.cons_append, List.nil_append, List.append_nil, List.set_cons_zero, List.set_cons_succ, List.getElem?_cons_zero, List.getElem?_cons_succ, Option.some.injEq, V.ref.injEq, V.int.injEq, V.str.injEq, V.bl.injEq, V.ty.injEq, exists_eq_left', exists_eq_left, exists_and_left, List.cons.injEq, and_true, true_and, sc_ii, sc_ss, sc_bb, sc_ni, sc_in, sc_is, sc_si, sc_nn, decide_true, decide_false, reduceCtorEq, Bool.false_eq_true, if_true, if_false, ite_true, ite_false, exists_const, eq_self, false_and, and_false, or_false, false_or, exists_false, Evl.rLenS, rSum, wipe, tYes, exists_eq, exists_eq', rIxL, rIxT, rIxS, exists_and_right, gt_iff_lt, not_true_eq_false, not_false_eq_true, Bool.not_true, Bool.not_false, decide_eq_true_eq, Nat.reduceSub, Nat.reduceAdd, List.append_assoc, tChain, tDIn, tDNotIn, sDDel, tAug, ipI, rInt1_int, rInt1_bl]
      refine isi_mk (.int i) (b := true) (by decide +kernel) ?_
      try simp (maxSteps := 1000000) only [tSeq, tIfS, tTest, tOp, tUn, tCB, tCons, tNil, tVar, tC, rI0, rI, rU, rEq, rNe, tRet, tRetN, tAsg, gName, gSub, tBM, tBM0, tNext, tB, tNot, tAnd, tOr, tIf, tCall, tDrop, tBreak, tCont, L2.start, tDGet, sDPut, tTup, tLst, tDNewK, tRevL, rCat, rAppend, rPop, rSetL, tAndV, tOrV, tNotV, tSl, tPart, tNoPart, tM1, gTup, gCons, gNil, cxK, cxnK, List.map_cons, List.map_nil, List.length_cons, List.length_nil, List.replicate, List.cons_append, List.nil_append, List.append_nil, List.set_cons_zero, List.set_cons_succ, List.getElem?_cons_zero, List.getElem?_cons_succ, Option.some.injEq, V.ref.injEq, V.int.injEq, V.str.injEq, V.bl.injEq, V.ty.injEq, exists_eq_left', exists_eq_left, exists_and_left, List.cons.injEq, and_true, true_and, sc_ii, sc_ss, sc_bb, sc_ni, sc_in, sc_is, sc_si, sc_nn, decide_true, decide_false, reduceCtorEq, Bool.false_eq_true, if_true, if_false, ite_true, ite_false, exists_const, eq_self, false_and, and_false, or_false, false_or, exists_false, Evl.rLenS, rSum, wipe, tYes, exists_eq, exists_eq', rIxL, rIxT, rIxS, exists_and_right, gt_iff_lt, not_true_eq_false, not_false_eq_true, Bool.not_true, Bool.not_false, decide_eq_true_eq, Nat.reduceSub, Nat.reduceAdd, List.append_assoc, tChain, tDIn, tDNotIn, sDDel, tAug, ipI, rInt1_int, rInt1_bl]
      refine isi_mk (.int i) (b := false) (by decide +kernel) ?_
      try simp (maxSteps := 1000000) only [tSeq, tIfS, tTest, tOp, tUn, tCB, tCons, tNil, tVar, tC, rI0, rI, rU, rEq, rNe, tRet, tRetN, tAsg, gName, gSub, tBM, tBM0, tNext, tB, tNot, tAnd, tOr, tIf, tCall, tDrop, tBreak, tCont, L2.start, tDGet, sDPut, tTup, tLst, tDNewK, tRevL, rCat, rAppend, rPop, rSetL, tAndV, tOrV, tNotV, tSl, tPart, tNoPart, tM1, gTup, gCons, gNil, cxK, cxnK, List.map_cons, List.map_nil, List.length_cons, List.length_nil, List.replicate, List.cons_append, List.nil_append, List.append_nil, List.set_cons_zero, List.set_cons_succ, List.getElem?_cons_zero, List.getElem?_cons_succ, Option.some.injEq, V.ref.injEq, V.int.injEq, V.str.injEq, V.bl.injEq, V.ty.injEq, exists_eq_left', exists_eq_left, exists_and_left, List.cons.injEq, and_true, true_and, sc_ii, sc_ss, sc_bb, sc_ni, sc_in, sc_is, sc_si, sc_nn, decide_true, decide_false, reduceCtorEq, Bool.false_eq_true, if_true, if_false, ite_true, ite_false, exists_const, eq_self, false_and, and_false, or_false, false_or, exists_false, Evl.rLenS, rSum, wipe, tYes, exists_eq, exists_eq', rIxL, rIxT, rIxS, exists_and_right, gt_iff_lt, not_true_eq_false, not_false_eq_true, Bool.not_true, Bool.not_false, decide_eq_true_eq, Nat.reduceSub, Nat.reduceAdd, List.append_assoc, tChain, tDIn, tDNotIn, sDDel, tAug, ipI, rInt1_int, rInt1_bl]
      refine isi_mk (.int i) (b := false) (by decide +kernel) ?_
      try simp (maxSteps := 1000000) only [tSeq, tIfS, tTest, tOp, tUn, tCB, tCons, tNil, tVar, tC, rI0, rI, rU, rEq, rNe, tRet, tRetN, tAsg, gName, gSub, tBM, tBM0, tNext, tB, tNot, tAnd, tOr, tIf, tCall, tDrop, tBreak, tCont, L2.start, tDGet, sDPut, tTup, tLst, tDNewK, tRevL, rCat, rAppend, rPop, rSetL, tAndV, tOrV, tNotV, tSl, tPart, tNoPart, tM1, gTup, gCons, gNil, cxK, cxnK, List.map_cons, List.map_nil, List.length_cons, List.length_nil, List.replicate, List.cons_append, List.nil_append, List.append_nil, List.set_cons_zero, List.set_cons_succ, List.getElem?_cons_zero, List.getElem?_cons_succ, Option.some.injEq, V.ref.injEq, V.int.injEq, V.str.injEq, V.bl.injEq, V.ty.injEq, exists_eq_left', exists_eq_left, exists_and_left, List.cons.injEq, and_true, true_and, sc_ii, sc_ss, sc_bb, sc_ni, sc_in, sc_is, sc_si, sc_nn, decide_true, decide_false, reduceCtorEq, Bool.false_eq_true, if_true, if_false, ite_true, ite_false, exists_const, eq_self, false_and, and_false, or_false, false_or, exists_false, Evl.rLenS, rSum, wipe, tYes, exists_eq, exists_eq', rIxL, rIxT, rIxS, exists_and_right, gt_iff_lt, not_true_eq_false, not_false_eq_true, Bool.not_true, Bool.not_false, decide_eq_true_eq, Nat.reduceSub, Nat.reduceAdd, List.append_assoc, tChain, tDIn, tDNotIn, sDDel, tAug, ipI, rInt1_int, rInt1_bl]
      exact q
    · skip
      refine isi_mk (.bl i) (b := false) (by decide +kernel) ?_
      try simp (maxSteps := 1000000) only [tSeq, tIfS, tTest, tOp, tUn, tCB, tCons, tNil, tVar, tC, rI0, rI, rU, rEq, rNe, tRet, tRetN, tAsg, gName, gSub, tBM, tBM0, tNext, tB, tNot, tAnd, tOr, tIf, tCall, tDrop, tBreak, tCont, L2.start, tDGet, sDPut, tTup, tLst, tDNewK, tRevL, rCat, rAppend, rPop, rSetL, tAndV, tOrV, tNotV, tSl, tPart, tNoPart, tM1, gTup, gCons, gNil, cxK, cxnK, List.map_cons, List.map_nil, List.length_cons, List.length_nil, List.replicate, List.cons_append, List.nil_append, List.append_nil, List.set_cons_zero, List.set_cons_succ, List.getElem?_cons_zero, List.getElem?_cons_succ, Option.some.injEq, V.ref.injEq, V.int.injEq, V.str.injEq, V.bl.injEq, V.ty.injEq, exists_eq_left', exists_eq_left, exists_and_left, List.cons.injEq, and_true, true_and, sc_ii, sc_ss, sc_bb, sc_ni, sc_in, sc_is, sc_si, sc_nn, decide_true, decide_false, reduceCtorEq, Bool.false_eq_true, if_true, if_false, ite_true, ite_false, exists_const, eq_self, false_and, and_false, or_false, false_or, exists_false, Evl.rLenS, rSum, wipe, tYes, exists_eq, exists_eq', rIxL, rIxT, rIxS, exists_and_right, gt_iff_lt, not_true_eq_false, not_false_eq_true, Bool.not_true, Bool.not_false, decide_eq_true_eq, Nat.reduceSub, Nat.reduceAdd, List.append_assoc, tChain, tDIn, tDNotIn, sDDel, tAug, ipI, rInt1_int, rInt1_bl]
      refine isi_mk (.bl i) (b := false) (by decide +kernel) ?_
      try simp (maxSteps := 1000000) only [tSeq, tIfS, tTest, tOp, tUn, tCB, tCons, tNil, tVar, tC, rI0, rI, rU, rEq, rNe, tRet, tRetN, tAsg, gName, gSub, tBM, tBM0, tNext, tB, tNot, tAnd, tOr, tIf, tCall, tDrop, tBreak, tCont, L2.start, tDGet, sDPut, tTup, tLst, tDNewK, tRevL, rCat, rAppend, rPop, rSetL, tAndV, tOrV, tNotV, tSl, tPart, tNoPart, tM1, gTup, gCons, gNil, cxK, cxnK, List.map_cons, List.map_nil, List.length_cons, List.length_nil, List.replicate, List.cons_append, List.nil_append, List.append_nil, List.set_cons_zero, List.set_cons_succ, List.getElem?_cons_zero, List.getElem?_cons_succ, Option.some.injEq, V.ref.injEq, V.int.injEq, V.str.injEq, V.bl.injEq, V.ty.injEq, exists_eq_left', exists_eq_left, exists_and_left, List.cons.injEq, and_true, true_and, sc_ii, sc_ss, sc_bb, sc_ni, sc_in, sc_is, sc_si, sc_nn, decide_true, decide_false, reduceCtorEq, Bool.false_eq_true, if_true, if_false, ite_true, ite_false, exists_const, eq_self, false_and, and_false, or_false, false_or, exists_false, Evl.rLenS, rSum, wipe, tYes, exists_eq, exists_eq', rIxL, rIxT, rIxS, exists_and_right, gt_iff_lt, not_true_eq_false, not_false_eq_true, Bool.not_true, Bool.not_false, decide_eq_true_eq, Nat.reduceSub, Nat.reduceAdd, List.append_assoc, tChain, tDIn, tDNotIn, sDDel, tAug, ipI, rInt1_int, rInt1_bl]
      refine isi_mk (.bl i) (b := true) (by decide +kernel) ?_
      try simp (maxSteps := 1000000) only [tSeq, tIfS, tTest, tOp, tUn, tCB, tCons, tNil, tVar, tC, rI0, rI, rU, rEq, rNe, tRet, tRetN, tAsg, gName, gSub, tBM, tBM0, tNext, tB, tNot, tAnd, tOr, tIf, tCall, tDrop, tBreak, tCont, L2.start, tDGet, sDPut, tTup, tLst, tDNewK, tRevL, rCat, rAppend, rPop, rSetL, tAndV, tOrV, tNotV, tSl, tPart, tNoPart, tM1, gTup, gCons, gNil, cxK, cxnK, List.map_cons, List.map_nil, List.length_cons, List.length_nil, List.replicate, List.cons_append, List.nil_append, List.append_nil, List.set_cons_zero, List.set_cons_succ, List.getElem?_cons_zero, List.getElem?_cons_succ, Option.some.injEq, V.ref.injEq, V.int.injEq, V.str.injEq, V.bl.injEq, V.ty.injEq, exists_eq_left', exists_eq_left, exists_and_left, List.cons.injEq, and_true, true_and, sc_ii, sc_ss, sc_bb, sc_ni, sc_in, sc_is, sc_si, sc_nn, decide_true, decide_false, reduceCtorEq, Bool.false_eq_true, if_true, if_false, ite_true, ite_false, exists_const, eq_self, false_and, and_false, or_false, false_or, exists_false, Evl.rLenS, rSum, wipe, tYes, exists_eq, exists_eq', rIxL, rIxT, rIxS, exists_and_right, gt_iff_lt, not_true_eq_false, not_false_eq_true, Bool.not_true, Bool.not_false, decide_eq_true_eq, Nat.reduceSub, Nat.reduceAdd, List.append_assoc, tChain, tDIn, tDNotIn, sDDel, tAug, ipI, rInt1_int, rInt1_bl]
      refine isi_mk (.bl i) (b := true) (by decide +kernel) ?_
      try simp (maxSteps := 1000000) only [tSeq, tIfS, tTest, tOp, tUn, tCB, tCons, tNil, tVar, tC, rI0, rI, rU, rEq, rNe, tRet, tRetN, tAsg, gName, gSub, tBM, tBM0, tNext, tB, tNot, tAnd, tOr, tIf, tCall, tDrop, tBreak, tCont, L2.start, tDGet, sDPut, tTup, tLst, tDNewK, tRevL, rCat, rAppend, rPop, rSetL, tAndV, tOrV, tNotV, tSl, tPart, tNoPart, tM1, gTup, gCons, gNil, cxK, cxnK, List.map_cons, List.map_nil, List.length_cons, List.length_nil, List.replicate, List.cons_append, List.nil_append, List.append_nil, List.set_cons_zero, List.set_cons_succ, List.getElem?_cons_zero, List.getElem?_cons_succ, Option.some.injEq, V.ref.injEq, V.int.injEq, V.str.injEq, V.bl.injEq, V.ty.injEq, exists_eq_left', exists_eq_left, exists_and_left, List.cons.injEq, and_true, true_and, sc_ii, sc_ss, sc_bb, sc_ni, sc_in, sc_is, sc_si, sc_nn, decide_true, decide_false, reduceCtorEq, Bool.false_eq_true, if_true, if_false, ite_true, ite_false, exists_const, eq_self, false_and, and_false, or_false, false_or, exists_false, Evl.rLenS, rSum, wipe, tYes, exists_eq, exists_eq', rIxL, rIxT, rIxS, exists_and_right, gt_iff_lt, not_true_eq_false, not_false_eq_true, Bool.not_true, Bool.not_false, decide_eq_true_eq, Nat.reduceSub, Nat.reduceAdd, List.append_assoc, tChain, tDIn, tDNotIn, sDDel, tAug, ipI, rInt1_int, rInt1_bl]
      refine isi_mk (.bl i) (b := true) (by decide +kernel) ?_
      try simp (maxSteps := 1000000) only [tSeq, tIfS, tTest, tOp, tUn, tCB, tCons, tNil, tVar, tC, rI0, rI, rU, rEq, rNe, tRet, tRetN, tAsg, gName, gSub, tBM, tBM0, tNext, tB, tNot, tAnd, tOr, tIf, tCall, tDrop, tBreak, tCont, L2.start, tDGet, sDPut, tTup, tLst, tDNewK, tRevL, rCat, rAppend, rPop, rSetL, tAndV, tOrV, tNotV, tSl, tPart, tNoPart, tM1, gTup, gCons, gNil, cxK, cxnK, List.map_cons, List.map_nil, List.length_cons, List.length_nil, List.replicate, List.cons_append, List.nil_append, List.append_nil, List.set_cons_zero, List.set_cons_succ, List.getElem?_cons_zero, List.getElem?_cons_succ, Option.some.injEq, V.ref.injEq, V.int.injEq, V.str.injEq, V.bl.injEq, V.ty.injEq, exists_eq_left', exists_eq_left, exists_and_left, List.cons.injEq, and_true, true_and, sc_ii, sc_ss, sc_bb, sc_ni, sc_in, sc_is, sc_si, sc_nn, decide_true, decide_false, reduceCtorEq, Bool.false_eq_true, if_true, if_false, ite_true, ite_false, exists_const, eq_self, false_and, and_false, or_false, false_or, exists_false, Evl.rLenS, rSum, wipe, tYes, exists_eq, exists_eq', rIxL, rIxT, rIxS, exists_and_right, gt_iff_lt, not_true_eq_false, not_false_eq_true, Bool.not_true, Bool.not_false, decide_eq_true_eq, Nat.reduceSub, Nat.reduceAdd, List.append_assoc, tChain, tDIn, tDNotIn, sDDel, tAug, ipI, rInt1_int, rInt1_bl]
      refine isi_mk (.bl i) (b := true) (by decide +kernel) ?_
      try simp (maxSteps := 1000000) only [tSeq, tIfS, tTest, tOp, tUn, tCB, tCons, tNil, tVar, tC, rI0, rI, rU, rEq, rNe, tRet, tRetN, tAsg, gName, gSub, tBM, tBM0, tNext, tB, tNot, tAnd, tOr, tIf, tCall, tDrop, tBreak, tCont, L2.start, tDGet, sDPut, tTup, tLst, tDNewK, tRevL, rCat, rAppend, rPop, rSetL, tAndV, tOrV, tNotV, tSl, tPart, tNoPart, tM1, gTup, gCons, gNil, cxK, cxnK, List.map_cons, List.map_nil, List.length_cons, List.length_nil, List.replicate, List.cons_append, List.nil_append, List.append_nil, List.set_cons_zero, List.set_cons_succ, List.getElem?_cons_zero, List.getElem?_cons_succ, Option.some.injEq, V.ref.injEq, V.int.injEq, V.str.injEq, V.bl.injEq, V.ty.injEq, exists_eq_left', exists_eq_left, exists_and_left, List.cons.injEq, and_true, true_and, sc_ii, sc_ss, sc_bb, sc_ni, sc_in, sc_is, sc_si, sc_nn, decide_true, decide_false, reduceCtorEq, Bool.false_eq_true, if_true, if_false, ite_true, ite_false, exists_const, eq_self, false_and, and_false, or_false, false_or, exists_false, Evl.rLenS, rSum, wipe, tYes, exists_eq, exists_eq', rIxL, rIxT, rIxS, exists_and_right, gt_iff_lt, not_true_eq_false, not_false_eq_true, Bool.not_true, Bool.not_false, decide_eq_true_eq, Nat.reduceSub, Nat.reduceAdd, List.append_assoc, tChain, tDIn, tDNotIn, sDDel, tAug, ipI, rInt1_int, rInt1_bl]
      refine isi_mk (.bl i) (b := false) (by decide +kernel) ?_
      try simp (maxSteps := 1000000) only [tSeq, tIfS, tTest, tOp, tUn, tCB, tCons, tNil, tVar, tC, rI0, rI, rU, rEq, rNe, tRet, tRetN, tAsg, gName, gSub, tBM, tBM0, tNext, tB, tNot, tAnd, tOr, tIf, tCall, tDrop, tBreak, tCont, L2.start, tDGet, sDPut, tTup, tLst, tDNewK, tRevL, rCat, rAppend, rPop, rSetL, tAndV, tOrV, tNotV, tSl, tPart, tNoPart, tM1, gTup, gCons, gNil, cxK, cxnK, List.map_cons, List.map_nil, List.length_cons, List.length_nil, List.replicate, List.cons_append, List.nil_append, List.append_nil, List.set_cons_zero, List.set_cons_succ, List.getElem?_cons_zero, List.getElem?_cons_succ, Option.some.injEq, V.ref.injEq, V.int.injEq, V.str.injEq, V.bl.injEq, V.ty.injEq, exists_eq_left', exists_eq_left, exists_and_left, List.cons.injEq, and_true, true_and, sc_ii, sc_ss, sc_bb, sc_ni, sc_in, sc_is, sc_si, sc_nn, decide_true, decide_false, reduceCtorEq, Bool.false_eq_true, if_true, if_false, ite_true, ite_false, exists_const, eq_self, false_and, and_false, or_false, false_or, exists_false, Evl.rLenS, rSum, wipe, tYes, exists_eq, exists_eq', rIxL, rIxT, rIxS, exists_and_right, gt_iff_lt, not_true_eq_false, not_false_eq_true, Bool.not_true, Bool.not_false, decide_eq_true_eq, Nat.reduceSub, Nat.reduceAdd, List.append_assoc, tChain, tDIn, tDNotIn, sDDel, tAug, ipI, rInt1_int, rInt1_bl]
      refine isi_mk (.bl i) (b := false) (by decide +kernel) ?_
      try simp (maxSteps := 1000000) only [tSeq, tIfS, tTest, tOp, tUn, tCB, tCons, tNil, tVar, tC, rI0, rI, rU, rEq, rNe, tRet, tRetN, tAsg, gName, gSub, tBM, tBM0, tNext, tB, tNot, tAnd, tOr, tIf, tCall, tDrop, tBreak, tCont, L2.start, tDGet, sDPut, tTup, tLst, tDNewK, tRevL, rCat, rAppend, rPop, rSetL, tAndV, tOrV, tNotV, tSl, tPart, tNoPart, tM1, gTup, gCons, gNil, cxK, cxnK, List.map_cons, List.map_nil, List.length_cons, List.length_nil, List.replicate, List.cons_append, List.nil_append, List.append_nil, List.set_cons_zero, List.set_cons_succ, List.getElem?_cons_zero, List.getElem?_cons_succ, Option.some.injEq, V.ref.injEq, V.int.injEq, V.str.injEq, V.bl.injEq, V.ty.injEq, exists_eq_left', exists_eq_left, exists_and_left, List.cons.injEq, and_true, true_and, sc_ii, sc_ss, sc_bb, sc_ni, sc_in, sc_is, sc_si, sc_nn, decide_true, decide_false, reduceCtorEq, Bool.false_eq_true, if_true, if_false, ite_true, ite_false, exists_const, eq_self, false_and, and_false, or_false, false_or, exists_false, Evl.rLenS, rSum, wipe, tYes, exists_eq, exists_eq', rIxL, rIxT, rIxS, exists_and_right, gt_iff_lt, not_true_eq_false, not_false_eq_true, Bool.not_true, Bool.not_false, decide_eq_true_eq, Nat.reduceSub, Nat.reduceAdd, List.append_assoc, tChain, tDIn, tDNotIn, sDDel, tAug, ipI, rInt1_int, rInt1_bl]
      exact q
    · skip
      refine isi_mk (.str i) (b := false) (by decide +kernel) ?_
      try simp (maxSteps := 1000000) only [tSeq, tIfS, tTest, tOp, tUn, tCB, tCons, tNil, tVar, tC, rI0, rI, rU, rEq, rNe, tRet, tRetN, tAsg, gName, gSub, tBM, tBM0, tNext, tB, tNot, tAnd, tOr, tIf, tCall, tDrop, tBreak, tCont, L2.start, tDGet, sDPut, tTup, tLst, tDNewK, tRevL, rCat, rAppend, rPop, rSetL, tAndV, tOrV, tNotV, tSl, tPart, tNoPart, tM1, gTup, gCons, gNil, cxK, cxnK, List.map_cons, List.map_nil, List.length_cons, List.length_nil, List.replicate, List.cons_append, List.nil_append, List.append_nil, List.set_cons_zero, List.set_cons_succ, List.getElem?_cons_zero, List.getElem?_cons_succ, Option.some.injEq, V.ref.injEq, V.int.injEq, V.str.injEq, V.bl.injEq, V.ty.injEq, exists_eq_left', exists_eq_left, exists_and_left, List.cons.injEq, and_true, true_and, sc_ii, sc_ss, sc_bb, sc_ni, sc_in, sc_is, sc_si, sc_nn, decide_true, decide_false, reduceCtorEq, Bool.false_eq_true, if_true, if_false, ite_true, ite_false, exists_const, eq_self, false_and, and_false, or_false, false_or, exists_false, Evl.rLenS, rSum, wipe, tYes, exists_eq, exists_eq', rIxL, rIxT, rIxS, exists_and_right, gt_iff_lt, not_true_eq_false, not_false_eq_true, Bool.not_true, Bool.not_false, decide_eq_true_eq, Nat.reduceSub, Nat.reduceAdd, List.append_assoc, tChain, tDIn, tDNotIn, sDDel, tAug, ipI, rInt1_int, rInt1_bl]
      refine isi_mk (.str i) (b := false) (by decide +kernel) ?_
      try simp (maxSteps := 1000000) only [tSeq, tIfS, tTest, tOp, tUn, tCB, tCons, tNil, tVar, tC, rI0, rI, rU, rEq, rNe, tRet, tRetN, tAsg, gName, gSub, tBM, tBM0, tNext, tB, tNot, tAnd, tOr, tIf, tCall, tDrop, tBreak, tCont, L2.start, tDGet, sDPut, tTup, tLst, tDNewK, tRevL, rCat, rAppend, rPop, rSetL, tAndV, tOrV, tNotV, tSl, tPart, tNoPart, tM1, gTup, gCons, gNil, cxK, cxnK, List.map_cons, List.map_nil, List.length_cons, List.length_nil, List.replicate, List.cons_append, List.nil_append, List.append_nil, List.set_cons_zero, List.set_cons_succ, List.getElem?_cons_zero, List.getElem?_cons_succ, Option.some.injEq, V.ref.injEq, V.int.injEq, V.str.injEq, V.bl.injEq, V.ty.injEq, exists_eq_left', exists_eq_left, exists_and_left, List.cons.injEq, and_true, true_and, sc_ii, sc_ss, sc_bb, sc_ni, sc_in, sc_is, sc_si, sc_nn, decide_true, decide_false, reduceCtorEq, Bool.false_eq_true, if_true, if_false, ite_true, ite_false, exists_const, eq_self, false_and, and_false, or_false, false_or, exists_false, Evl.rLenS, rSum, wipe, tYes, exists_eq, exists_eq', rIxL, rIxT, rIxS, exists_and_right, gt_iff_lt, not_true_eq_false, not_false_eq_true, Bool.not_true, Bool.not_false, decide_eq_true_eq, Nat.reduceSub, Nat.reduceAdd, List.append_assoc, tChain, tDIn, tDNotIn, sDDel, tAug, ipI, rInt1_int, rInt1_bl]
      refine isi_mk (.str i) (b := false) (by decide +kernel) ?_
      try simp (maxSteps := 1000000) only [tSeq, tIfS, tTest, tOp, tUn, tCB, tCons, tNil, tVar, tC, rI0, rI, rU, rEq, rNe, tRet, tRetN, tAsg, gName, gSub, tBM, tBM0, tNext, tB, tNot, tAnd, tOr, tIf, tCall, tDrop, tBreak, tCont, L2.start, tDGet, sDPut, tTup, tLst, tDNewK, tRevL, rCat, rAppend, rPop, rSetL, tAndV, tOrV, tNotV, tSl, tPart, tNoPart, tM1, gTup, gCons, gNil, cxK, cxnK, List.map_cons, List.map_nil, List.length_cons, List.length_nil, List.replicate, List.cons_append, List.nil_append, List.append_nil, List.set_cons_zero, List.set_cons_succ, List.getElem?_cons_zero, List.getElem?_cons_succ, Option.some.injEq, V.ref.injEq, V.int.injEq, V.str.injEq, V.bl.injEq, V.ty.injEq, exists_eq_left', exists_eq_left, exists_and_left, List.cons.injEq, and_true, true_and, sc_ii, sc_ss, sc_bb, sc_ni, sc_in, sc_is, sc_si, sc_nn, decide_true, decide_false, reduceCtorEq, Bool.false_eq_true, if_true, if_false, ite_true, ite_false, exists_const, eq_self, false_and, and_false, or_false, false_or, exists_false, Evl.rLenS, rSum, wipe, tYes, exists_eq, exists_eq', rIxL, rIxT, rIxS, exists_and_right, gt_iff_lt, not_true_eq_false, not_false_eq_true, Bool.not_true, Bool.not_false, decide_eq_true_eq, Nat.reduceSub, Nat.reduceAdd, List.append_assoc, tChain, tDIn, tDNotIn, sDDel, tAug, ipI, rInt1_int, rInt1_bl]
      refine isi_mk (.str i) (b := false) (by decide +kernel) ?_
      try simp (maxSteps := 1000000) only [tSeq, tIfS, tTest, tOp, tUn, tCB, tCons, tNil, tVar, tC, rI0, rI, rU, rEq, rNe, tRet, tRetN, tAsg, gName, gSub, tBM, tBM0, tNext, tB, tNot, tAnd, tOr, tIf, tCall, tDrop, tBreak, tCont, L2.start, tDGet, sDPut, tTup, tLst, tDNewK, tRevL, rCat, rAppend, rPop, rSetL, tAndV, tOrV, tNotV, tSl, tPart, tNoPart, tM1, gTup, gCons, gNil, cxK, cxnK, List.map_cons, List.map_nil, List.length_cons, List.length_nil, List.replicate, List.cons_append, List.nil_append, List.append_nil, List.set_cons_zero, List.set_cons_succ, List.getElem?_cons_zero, List.getElem?_cons_succ, Option.some.injEq, V.ref.injEq, V.int.injEq, V.str.injEq, V.bl.injEq, V.ty.injEq, exists_eq_left', exists_eq_left, exists_and_left, List.cons.injEq, and_true, true_and, sc_ii, sc_ss, sc_bb, sc_ni, sc_in, sc_is, sc_si, sc_nn, decide_true, decide_false, reduceCtorEq, Bool.false_eq_true, if_true, if_false, ite_true, ite_false, exists_const, eq_self, false_and, and_false, or_false, false_or, exists_false, Evl.rLenS, rSum, wipe, tYes, exists_eq, exists_eq', rIxL, rIxT, rIxS, exists_and_right, gt_iff_lt, not_true_eq_false, not_false_eq_true, Bool.not_true, Bool.not_false, decide_eq_true_eq, Nat.reduceSub, Nat.reduceAdd, List.append_assoc, tChain, tDIn, tDNotIn, sDDel, tAug, ipI, rInt1_int, rInt1_bl]
      refine isi_mk (.str i) (b := false) (by decide +kernel) ?_
      try simp (maxSteps := 1000000) only [tSeq, tIfS, tTest, tOp, tUn, tCB, tCons, tNil, tVar, tC, rI0, rI, rU, rEq, rNe, tRet, tRetN, tAsg, gName, gSub, tBM, tBM0, tNext, tB, tNot, tAnd, tOr, tIf, tCall, tDrop, tBreak, tCont, L2.start, tDGet, sDPut, tTup, tLst, tDNewK, tRevL, rCat, rAppend, rPop, rSetL, tAndV, tOrV, tNotV, tSl, tPart, tNoPart, tM1, gTup, gCons, gNil, cxK, cxnK, List.map_cons, List.map_nil, List.length_cons, List.length_nil, List.replicate, List.cons_append, List.nil_append, List.append_nil, List.set_cons_zero, List.set_cons_succ, List.getElem?_cons_zero, List.getElem?_cons_succ, Option.some.injEq, V.ref.injEq, V.int.injEq, V.str.injEq, V.bl.injEq, V.ty.injEq, exists_eq_left', exists_eq_left, exists_and_left, List.cons.injEq, and_true, true_and, sc_ii, sc_ss, sc_bb, sc_ni, sc_in, sc_is, sc_si, sc_nn, decide_true, decide_false, reduceCtorEq, Bool.false_eq_true, if_true, if_false, ite_true, ite_false, exists_const, eq_self, false_and, and_false, or_false, false_or, exists_false, Evl.rLenS, rSum, wipe, tYes, exists_eq, exists_eq', rIxL, rIxT, rIxS, exists_and_right, gt_iff_lt, not_true_eq_false, not_false_eq_true, Bool.not_true, Bool.not_false, decide_eq_true_eq, Nat.reduceSub, Nat.reduceAdd, List.append_assoc, tChain, tDIn, tDNotIn, sDDel, tAug, ipI, rInt1_int, rInt1_bl]
      refine isi_mk (.str i) (b := false) (by decide +kernel) ?_
      try simp (maxSteps := 1000000) only [tSeq, tIfS, tTest, tOp, tUn, tCB, tCons, tNil, tVar, tC, rI0, rI, rU, rEq, rNe, tRet, tRetN, tAsg, gName, gSub, tBM, tBM0, tNext, tB, tNot, tAnd, tOr, tIf, tCall, tDrop, tBreak, tCont, L2.start, tDGet, sDPut, tTup, tLst, tDNewK, tRevL, rCat, rAppend, rPop, rSetL, tAndV, tOrV, tNotV, tSl, tPart, tNoPart, tM1, gTup, gCons, gNil, cxK, cxnK, List.map_cons, List.map_nil, List.length_cons, List.length_nil, List.replicate, List.cons_append, List.nil_append, List.append_nil, List.set_cons_zero, List.set_cons_succ, List.getElem?_cons_zero, List.getElem?_cons_succ, Option.some.injEq, V.ref.injEq, V.int.injEq, V.str.injEq, V.bl.injEq, V.ty.injEq, exists_eq_left', exists_eq_left, exists_and_left, List.cons.injEq, and_true, true_and, sc_ii, sc_ss, sc_bb, sc_ni, sc_in, sc_is, sc_si, sc_nn, decide_true, decide_false, reduceCtorEq, Bool.false_eq_true, if_true, if_false, ite_true, ite_false, exists_const, eq_self, false_and, and_false, or_false, false_or, exists_false, Evl.rLenS, rSum, wipe, tYes, exists_eq, exists_eq', rIxL, rIxT, rIxS, exists_and_right, gt_iff_lt, not_true_eq_false, not_false_eq_true, Bool.not_true, Bool.not_false, decide_eq_true_eq, Nat.reduceSub, Nat.reduceAdd, List.append_assoc, tChain, tDIn, tDNotIn, sDDel, tAug, ipI, rInt1_int, rInt1_bl]
      refine isi_mk (.str i) (b := true) (by decide +kernel) ?_
      try simp (maxSteps := 1000000) only [tSeq, tIfS, tTest, tOp, tUn, tCB, tCons, tNil, tVar, tC, rI0, rI, rU, rEq, rNe, tRet, tRetN, tAsg, gName, gSub, tBM, tBM0, tNext, tB, tNot, tAnd, tOr, tIf, tCall, tDrop, tBreak, tCont, L2.start, tDGet, sDPut, tTup, tLst, tDNewK, tRevL, rCat, rAppend, rPop, rSetL, tAndV, tOrV, tNotV, tSl, tPart, tNoPart, tM1, gTup, gCons, gNil, cxK, cxnK, List.map_cons, List.map_nil, List.length_cons, List.length_nil, List.replicate, List.cons_append, List.nil_append, List.append_nil, List.set_cons_zero, List.set_cons_succ, List.getElem?_cons_zero, List.getElem?_cons_succ, Option.some.injEq, V.ref.injEq, V.int.injEq, V.str.injEq, V.bl.injEq, V.ty.injEq, exists_eq_left', exists_eq_left, exists_and_left, List.cons.injEq, and_true, true_and, sc_ii, sc_ss, sc_bb, sc_ni, sc_in, sc_is, sc_si, sc_nn, decide_true, decide_false, reduceCtorEq, Bool.false_eq_true, if_true, if_false, ite_true, ite_false, exists_const, eq_self, false_and, and_false, or_false, false_or, exists_false, Evl.rLenS, rSum, wipe, tYes, exists_eq, exists_eq', rIxL, rIxT, rIxS, exists_and_right, gt_iff_lt, not_true_eq_false, not_false_eq_true, Bool.not_true, Bool.not_false, decide_eq_true_eq, Nat.reduceSub, Nat.reduceAdd, List.append_assoc, tChain, tDIn, tDNotIn, sDDel, tAug, ipI, rInt1_int, rInt1_bl]
      refine isi_mk (.str i) (b := true) (by decide +kernel) ?_
      try simp (maxSteps := 1000000) only [tSeq, tIfS, tTest, tOp, tUn, tCB, tCons, tNil, tVar, tC, rI0, rI, rU, rEq, rNe, tRet, tRetN, tAsg, gName, gSub, tBM, tBM0, tNext, tB, tNot, tAnd, tOr, tIf, tCall, tDrop, tBreak, tCont, L2.start, tDGet, sDPut, tTup, tLst, tDNewK, tRevL, rCat, rAppend, rPop, rSetL, tAndV, tOrV, tNotV, tSl, tPart, tNoPart, tM1, gTup, gCons, gNil, cxK, cxnK, List.map_cons, List.map_nil, List.length_cons, List.length_nil, List.replicate, List.cons_append, List.nil_append, List.append_nil, List.set_cons_zero, List.set_cons_succ, List.getElem?_cons_zero, List.getElem?_cons_succ, Option.some.injEq, V.ref.injEq, V.int.injEq, V.str.injEq, V.bl.injEq, V.ty.injEq, exists_eq_left', exists_eq_left, exists_and_left, List.cons.injEq, and_true, true_and, sc_ii, sc_ss, sc_bb, sc_ni, sc_in, sc_is, sc_si, sc_nn, decide_true, decide_false, reduceCtorEq, Bool.false_eq_true, if_true, if_false, ite_true, ite_false, exists_const, eq_self, false_and, and_false, or_false, false_or, exists_false, Evl.rLenS, rSum, wipe, tYes, exists_eq, exists_eq', rIxL, rIxT, rIxS, exists_and_right, gt_iff_lt, not_true_eq_false, not_false_eq_true, Bool.not_true, Bool.not_false, decide_eq_true_eq, Nat.reduceSub, Nat.reduceAdd, List.append_assoc, tChain, tDIn, tDNotIn, sDDel, tAug, ipI, rInt1_int, rInt1_bl]
      exact q
    · skip
      refine isi_mk (.lst hb) (b := false) (by decide +kernel) ?_
      try simp (maxSteps := 1000000) only [tSeq, tIfS, tTest, tOp, tUn, tCB, tCons, tNil, tVar, tC, rI0, rI, rU, rEq, rNe, tRet, tRetN, tAsg, gName, gSub, tBM, tBM0, tNext, tB, tNot, tAnd, tOr, tIf, tCall, tDrop, tBreak, tCont, L2.start, tDGet, sDPut, tTup, tLst, tDNewK, tRevL, rCat, rAppend, rPop, rSetL, tAndV, tOrV, tNotV, tSl, tPart, tNoPart, tM1, gTup, gCons, gNil, cxK, cxnK, List.map_cons, List.map_nil, List.length_cons, List.length_nil, List.replicate, List.cons_append, List.nil_append, List.append_nil, List.set_cons_zero, List.set_cons_succ, List.getElem?_cons_zero, List.getElem?_cons_succ, Option.some.injEq, V.ref.injEq, V.int.injEq, V.str.injEq, V.bl.injEq, V.ty.injEq, exists_eq_left', exists_eq_left, exists_and_left, List.cons.injEq, and_true, true_and, sc_ii, sc_ss, sc_bb, sc_ni, sc_in, sc_is, sc_si, sc_nn, decide_true, decide_false, reduceCtorEq, Bool.false_eq_true, if_true, if_false, ite_true, ite_false, exists_const, eq_self, false_and, and_false, or_false, false_or, exists_false, Evl.rLenS, rSum, wipe, tYes, exists_eq, exists_eq', rIxL, rIxT, rIxS, exists_and_right, gt_iff_lt, not_true_eq_false, not_false_eq_true, Bool.not_true, Bool.not_false, decide_eq_true_eq, Nat.reduceSub, Nat.reduceAdd, List.append_assoc, tChain, tDIn, tDNotIn, sDDel, tAug, ipI, rInt1_int, rInt1_bl]
      refine isi_mk (.lst hb) (b := true) (by decide +kernel) ?_
      try simp (maxSteps := 1000000) only [tSeq, tIfS, tTest, tOp, tUn, tCB, tCons, tNil, tVar, tC, rI0, rI, rU, rEq, rNe, tRet, tRetN, tAsg, gName, gSub, tBM, tBM0, tNext, tB, tNot, tAnd, tOr, tIf, tCall, tDrop, tBreak, tCont, L2.start, tDGet, sDPut, tTup, tLst, tDNewK, tRevL, rCat, rAppend, rPop, rSetL, tAndV, tOrV, tNotV, tSl, tPart, tNoPart, tM1, gTup, gCons, gNil, cxK, cxnK, List.map_cons, List.map_nil, List.length_cons, List.length_nil, List.replicate, List.cons_append, List.nil_append, List.append_nil, List.set_cons_zero, List.set_cons_succ, List.getElem?_cons_zero, List.getElem?_cons_succ, Option.some.injEq, V.ref.injEq, V.int.injEq, V.str.injEq, V.bl.injEq, V.ty.injEq, exists_eq_left', exists_eq_left, exists_and_left, List.cons.injEq, and_true, true_and, sc_ii, sc_ss, sc_bb, sc_ni, sc_in, sc_is, sc_si, sc_nn, decide_true, decide_false, reduceCtorEq, Bool.false_eq_true, if_true, if_false, ite_true, ite_false, exists_const, eq_self, false_and, and_false, or_false, false_or, exists_false, Evl.rLenS, rSum, wipe, tYes, exists_eq, exists_eq', rIxL, rIxT, rIxS, exists_and_right, gt_iff_lt, not_true_eq_false, not_false_eq_true, Bool.not_true, Bool.not_false, decide_eq_true_eq, Nat.reduceSub, Nat.reduceAdd, List.append_assoc, tChain, tDIn, tDNotIn, sDDel, tAug, ipI, rInt1_int, rInt1_bl]
      refine isi_mk (.lst hb) (b := false) (by decide +kernel) ?_
      try simp (maxSteps := 1000000) only [tSeq, tIfS, tTest, tOp, tUn, tCB, tCons, tNil, tVar, tC, rI0, rI, rU, rEq, rNe, tRet, tRetN, tAsg, gName, gSub, tBM, tBM0, tNext, tB, tNot, tAnd, tOr, tIf, tCall, tDrop, tBreak, tCont, L2.start, tDGet, sDPut, tTup, tLst, tDNewK, tRevL, rCat, rAppend, rPop, rSetL, tAndV, tOrV, tNotV, tSl, tPart, tNoPart, tM1, gTup, gCons, gNil, cxK, cxnK, List.map_cons, List.map_nil, List.length_cons, List.length_nil, List.replicate, List.cons_append, List.nil_append, List.append_nil, List.set_cons_zero, List.set_cons_succ, List.getElem?_cons_zero, List.getElem?_cons_succ, Option.some.injEq, V.ref.injEq, V.int.injEq, V.str.injEq, V.bl.injEq, V.ty.injEq, exists_eq_left', exists_eq_left, exists_and_left, List.cons.injEq, and_true, true_and, sc_ii, sc_ss, sc_bb, sc_ni, sc_in, sc_is, sc_si, sc_nn, decide_true, decide_false, reduceCtorEq, Bool.false_eq_true, if_true, if_false, ite_true, ite_false, exists_const, eq_self, false_and, and_false, or_false, false_or, exists_false, Evl.rLenS, rSum, wipe, tYes, exists_eq, exists_eq', rIxL, rIxT, rIxS, exists_and_right, gt_iff_lt, not_true_eq_false, not_false_eq_true, Bool.not_true, Bool.not_false, decide_eq_true_eq, Nat.reduceSub, Nat.reduceAdd, List.append_assoc, tChain, tDIn, tDNotIn, sDDel, tAug, ipI, rInt1_int, rInt1_bl]
      refine isi_mk (.lst ha) (b := false) (by decide +kernel) ?_
      try simp (maxSteps := 1000000) only [tSeq, tIfS, tTest, tOp, tUn, tCB, tCons, tNil, tVar, tC, rI0, rI, rU, rEq, rNe, tRet, tRetN, tAsg, gName, gSub, tBM, tBM0, tNext, tB, tNot, tAnd, tOr, tIf, tCall, tDrop, tBreak, tCont, L2.start, tDGet, sDPut, tTup, tLst, tDNewK, tRevL, rCat, rAppend, rPop, rSetL, tAndV, tOrV, tNotV, tSl, tPart, tNoPart, tM1, gTup, gCons, gNil, cxK, cxnK, List.map_cons, List.map_nil, List.length_cons, List.length_nil, List.replicate, List.cons_append, List.nil_append, List.append_nil, List.set_cons_zero, List.set_cons_succ, List.getElem?_cons_zero, List.getElem?_cons_succ, Option.some.injEq, V.ref.injEq, V.int.injEq, V.str.injEq, V.bl.injEq, V.ty.injEq, exists_eq_left', exists_eq_left, exists_and_left, List.cons.injEq, and_true, true_and, sc_ii, sc_ss, sc_bb, sc_ni, sc_in, sc_is, sc_si, sc_nn, decide_true, decide_false, reduceCtorEq, Bool.false_eq_true, if_true, if_false, ite_true, ite_false, exists_const, eq_self, false_and, and_false, or_false, false_or, exists_false, Evl.rLenS, rSum, wipe, tYes, exists_eq, exists_eq', rIxL, rIxT, rIxS, exists_and_right, gt_iff_lt, not_true_eq_false, not_false_eq_true, Bool.not_true, Bool.not_false, decide_eq_true_eq, Nat.reduceSub, Nat.reduceAdd, List.append_assoc, tChain, tDIn, tDNotIn, sDDel, tAug, ipI, rInt1_int, rInt1_bl]
      refine isi_mk (.lst hb) (b := true) (by decide +kernel) ?_
      try simp (maxSteps := 1000000) only [tSeq, tIfS, tTest, tOp, tUn, tCB, tCons, tNil, tVar, tC, rI0, rI, rU, rEq, rNe, tRet, tRetN, tAsg, gName, gSub, tBM, tBM0, tNext, tB, tNot, tAnd, tOr, tIf, tCall, tDrop, tBreak, tCont, L2.start, tDGet, sDPut, tTup, tLst, tDNewK, tRevL, rCat, rAppend, rPop, rSetL, tAndV, tOrV, tNotV, tSl, tPart, tNoPart, tM1, gTup, gCons, gNil, cxK, cxnK, List.map_cons, List.map_nil, List.length_cons, List.length_nil, List.replicate, List.cons_append, List.nil_append, List.append_nil, List.set_cons_zero, List.set_cons_succ, List.getElem?_cons_zero, List.getElem?_cons_succ, Option.some.injEq, V.ref.injEq, V.int.injEq, V.str.injEq, V.bl.injEq, V.ty.injEq, exists_eq_left', exists_eq_left, exists_and_left, List.cons.injEq, and_true, true_and, sc_ii, sc_ss, sc_bb, sc_ni, sc_in, sc_is, sc_si, sc_nn, decide_true, decide_false, reduceCtorEq, Bool.false_eq_true, if_true, if_false, ite_true, ite_false, exists_const, eq_self, false_and, and_false, or_false, false_or, exists_false, Evl.rLenS, rSum, wipe, tYes, exists_eq, exists_eq', rIxL, rIxT, rIxS, exists_and_right, gt_iff_lt, not_true_eq_false, not_false_eq_true, Bool.not_true, Bool.not_false, decide_eq_true_eq, Nat.reduceSub, Nat.reduceAdd, List.append_assoc, tChain, tDIn, tDNotIn, sDDel, tAug, ipI, rInt1_int, rInt1_bl]
      refine isi_mk (.lst ha) (b := true) (by decide +kernel) ?_
      try simp (maxSteps := 1000000) only [tSeq, tIfS, tTest, tOp, tUn, tCB, tCons, tNil, tVar, tC, rI0, rI, rU, rEq, rNe, tRet, tRetN, tAsg, gName, gSub, tBM, tBM0, tNext, tB, tNot, tAnd, tOr, tIf, tCall, tDrop, tBreak, tCont, L2.start, tDGet, sDPut, tTup, tLst, tDNewK, tRevL, rCat, rAppend, rPop, rSetL, tAndV, tOrV, tNotV, tSl, tPart, tNoPart, tM1, gTup, gCons, gNil, cxK, cxnK, List.map_cons, List.map_nil, List.length_cons, List.length_nil, List.replicate, List.cons_append, List.nil_append, List.append_nil, List.set_cons_zero, List.set_cons_succ, List.getElem?_cons_zero, List.getElem?_cons_succ, Option.some.injEq, V.ref.injEq, V.int.injEq, V.str.injEq, V.bl.injEq, V.ty.injEq, exists_eq_left', exists_eq_left, exists_and_left, List.cons.injEq, and_true, true_and, sc_ii, sc_ss, sc_bb, sc_ni, sc_in, sc_is, sc_si, sc_nn, decide_true, decide_false, reduceCtorEq, Bool.false_eq_true, if_true, if_false, ite_true, ite_false, exists_const, eq_self, false_and, and_false, or_false, false_or, exists_false, Evl.rLenS, rSum, wipe, tYes, exists_eq, exists_eq', rIxL, rIxT, rIxS, exists_and_right, gt_iff_lt, not_true_eq_false, not_false_eq_true, Bool.not_true, Bool.not_false, decide_eq_true_eq, Nat.reduceSub, Nat.reduceAdd, List.append_assoc, tChain, tDIn, tDNotIn, sDDel, tAug, ipI, rInt1_int, rInt1_bl]
      refine ⟨_, .inl (sq_l ha), _, .inl (sq_l hb), ?_⟩
      rw [if_neg (by rw [el]; simp)]
      refine forN us.length (by omega) (fun j σ H' => ∃ c : Option V, σ = [some (.ref a), some (.ref b), c] ∧ H' = H) (fun R h => ?_) ⟨none, rfl, rfl⟩ (fun j σ H' hj h => ?_) fun σ H' h => ?_
      · try simp (maxSteps := 1000000) only [tSeq, tIfS, tTest, tOp, tUn, tCB, tCons, tNil, tVar, tC, rI0, rI, rU, rEq, rNe, tRet, tRetN, tAsg, gName, gSub, tBM, tBM0, tNext, tB, tNot, tAnd, tOr, tIf, tCall, tDrop, tBreak, tCont, L2.start, tDGet, sDPut, tTup, tLst, tDNewK, tRevL, rCat, rAppend, rPop, rSetL, tAndV, tOrV, tNotV, tSl, tPart, tNoPart, tM1, gTup, gCons, gNil, cxK, cxnK, List.map_cons, List.map_nil, List.length_cons, List.length_nil, List.replicate, List.cons_append, List.nil_append, List.append_nil, List.set_cons_zero, List.set_cons_succ, List.getElem?_cons_zero, List.getElem?_cons_succ, Option.some.injEq, V.ref.injEq, V.int.injEq, V.str.injEq, V.bl.injEq, V.ty.injEq, exists_eq_left', exists_eq_left, exists_and_left, List.cons.injEq, and_true, true_and, sc_ii, sc_ss, sc_bb, sc_ni, sc_in, sc_is, sc_si, sc_nn, decide_true, decide_false, reduceCtorEq, Bool.false_eq_true, if_true, if_false, ite_true, ite_false, exists_const, eq_self, false_and, and_false, or_false, false_or, exists_false, Evl.rLenS, rSum, wipe, tYes, exists_eq, exists_eq', rIxL, rIxT, rIxS, exists_and_right, gt_iff_lt, not_true_eq_false, not_false_eq_true, Bool.not_true, Bool.not_false, decide_eq_true_eq, Nat.reduceSub, Nat.reduceAdd, List.append_assoc, tChain, tDIn, tDNotIn, sDDel, tAug, ipI, rInt1_int, rInt1_bl]
        exact ⟨_, .inl (sq_l hb), by rw [← el]; exact h⟩
      · obtain ⟨c, rfl, rfl⟩ := h
        have eu : us[j]? = some us[j] := List.getElem?_eq_getElem hj
        have ev : vs[j]? = some (vs[j]'(by omega)) := List.getElem?_eq_getElem _
        try simp (maxSteps := 1000000) only [tSeq, tIfS, tTest, tOp, tUn, tCB, tCons, tNil, tVar, tC, rI0, rI, rU, rEq, rNe, tRet, tRetN, tAsg, gName, gSub, tBM, tBM0, tNext, tB, tNot, tAnd, tOr, tIf, tCall, tDrop, tBreak, tCont, L2.start, tDGet, sDPut, tTup, tLst, tDNewK, tRevL, rCat, rAppend, rPop, rSetL, tAndV, tOrV, tNotV, tSl, tPart, tNoPart, tM1, gTup, gCons, gNil, cxK, cxnK, List.map_cons, List.map_nil, List.length_cons, List.length_nil, List.replicate, List.cons_append, List.nil_append, List.append_nil, List.set_cons_zero, List.set_cons_succ, List.getElem?_cons_zero, List.getElem?_cons_succ, Option.some.injEq, V.ref.injEq, V.int.injEq, V.str.injEq, V.bl.injEq, V.ty.injEq, exists_eq_left', exists_eq_left, exists_and_left, List.cons.injEq, and_true, true_and, sc_ii, sc_ss, sc_bb, sc_ni, sc_in, sc_is, sc_si, sc_nn, decide_true, decide_false, reduceCtorEq, Bool.false_eq_true, if_true, if_false, ite_true, ite_false, exists_const, eq_self, false_and, and_false, or_false, false_or, exists_false, Evl.rLenS, rSum, wipe, tYes, exists_eq, exists_eq', rIxL, rIxT, rIxS, exists_and_right, gt_iff_lt, not_true_eq_false, not_false_eq_true, Bool.not_true, Bool.not_false, decide_eq_true_eq, Nat.reduceSub, Nat.reduceAdd, List.append_assoc, tChain, tDIn, tDNotIn, sDDel, tAug, ipI, rInt1_int, rInt1_bl]
        refine .inl ⟨_, _, _, _, rfl, rfl, sq_l ha, atI_nat eu, ?_⟩
        try simp (maxSteps := 1000000) only [tSeq, tIfS, tTest, tOp, tUn, tCB, tCons, tNil, tVar, tC, rI0, rI, rU, rEq, rNe, tRet, tRetN, tAsg, gName, gSub, tBM, tBM0, tNext, tB, tNot, tAnd, tOr, tIf, tCall, tDrop, tBreak, tCont, L2.start, tDGet, sDPut, tTup, tLst, tDNewK, tRevL, rCat, rAppend, rPop, rSetL, tAndV, tOrV, tNotV, tSl, tPart, tNoPart, tM1, gTup, gCons, gNil, cxK, cxnK, List.map_cons, List.map_nil, List.length_cons, List.length_nil, List.replicate, List.cons_append, List.nil_append, List.append_nil, List.set_cons_zero, List.set_cons_succ, List.getElem?_cons_zero, List.getElem?_cons_succ, Option.some.injEq, V.ref.injEq, V.int.injEq, V.str.injEq, V.bl.injEq, V.ty.injEq, exists_eq_left', exists_eq_left, exists_and_left, List.cons.injEq, and_true, true_and, sc_ii, sc_ss, sc_bb, sc_ni, sc_in, sc_is, sc_si, sc_nn, decide_true, decide_false, reduceCtorEq, Bool.false_eq_true, if_true, if_false, ite_true, ite_false, exists_const, eq_self, false_and, and_false, or_false, false_or, exists_false, Evl.rLenS, rSum, wipe, tYes, exists_eq, exists_eq', rIxL, rIxT, rIxS, exists_and_right, gt_iff_lt, not_true_eq_false, not_false_eq_true, Bool.not_true, Bool.not_false, decide_eq_true_eq, Nat.reduceSub, Nat.reduceAdd, List.append_assoc, tChain, tDIn, tDNotIn, sDDel, tAug, ipI, rInt1_int, rInt1_bl]
        refine .inl ⟨_, _, _, _, rfl, rfl, sq_l hb, atI_nat ev, ?_⟩
        try simp (maxSteps := 1000000) only [tSeq, tIfS, tTest, tOp, tUn, tCB, tCons, tNil, tVar, tC, rI0, rI, rU, rEq, rNe, tRet, tRetN, tAsg, gName, gSub, tBM, tBM0, tNext, tB, tNot, tAnd, tOr, tIf, tCall, tDrop, tBreak, tCont, L2.start, tDGet, sDPut, tTup, tLst, tDNewK, tRevL, rCat, rAppend, rPop, rSetL, tAndV, tOrV, tNotV, tSl, tPart, tNoPart, tM1, gTup, gCons, gNil, cxK, cxnK, List.map_cons, List.map_nil, List.length_cons, List.length_nil, List.replicate, List.cons_append, List.nil_append, List.append_nil, List.set_cons_zero, List.set_cons_succ, List.getElem?_cons_zero, List.getElem?_cons_succ, Option.some.injEq, V.ref.injEq, V.int.injEq, V.str.injEq, V.bl.injEq, V.ty.injEq, exists_eq_left', exists_eq_left, exists_and_left, List.cons.injEq, and_true, true_and, sc_ii, sc_ss, sc_bb, sc_ni, sc_in, sc_is, sc_si, sc_nn, decide_true, decide_false, reduceCtorEq, Bool.false_eq_true, if_true, if_false, ite_true, ite_false, exists_const, eq_self, false_and, and_false, or_false, false_or, exists_false, Evl.rLenS, rSum, wipe, tYes, exists_eq, exists_eq', rIxL, rIxT, rIxS, exists_and_right, gt_iff_lt, not_true_eq_false, not_false_eq_true, Bool.not_true, Bool.not_false, decide_eq_true_eq, Nat.reduceSub, Nat.reduceAdd, List.append_assoc, tChain, tDIn, tDNotIn, sDDel, tAug, ipI, rInt1_int, rInt1_bl]
        refine ⟨_, _, rfl, hi j _ _ eu ev, ?_⟩
        try simp (maxSteps := 1000000) only [tSeq, tIfS, tTest, tOp, tUn, tCB, tCons, tNil, tVar, tC, rI0, rI, rU, rEq, rNe, tRet, tRetN, tAsg, gName, gSub, tBM, tBM0, tNext, tB, tNot, tAnd, tOr, tIf, tCall, tDrop, tBreak, tCont, L2.start, tDGet, sDPut, tTup, tLst, tDNewK, tRevL, rCat, rAppend, rPop, rSetL, tAndV, tOrV, tNotV, tSl, tPart, tNoPart, tM1, gTup, gCons, gNil, cxK, cxnK, List.map_cons, List.map_nil, List.length_cons, List.length_nil, List.replicate, List.cons_append, List.nil_append, List.append_nil, List.set_cons_zero, List.set_cons_succ, List.getElem?_cons_zero, List.getElem?_cons_succ, Option.some.injEq, V.ref.injEq, V.int.injEq, V.str.injEq, V.bl.injEq, V.ty.injEq, exists_eq_left', exists_eq_left, exists_and_left, List.cons.injEq, and_true, true_and, sc_ii, sc_ss, sc_bb, sc_ni, sc_in, sc_is, sc_si, sc_nn, decide_true, decide_false, reduceCtorEq, Bool.false_eq_true, if_true, if_false, ite_true, ite_false, exists_const, eq_self, false_and, and_false, or_false, false_or, exists_false, Evl.rLenS, rSum, wipe, tYes, exists_eq, exists_eq', rIxL, rIxT, rIxS, exists_and_right, gt_iff_lt, not_true_eq_false, not_false_eq_true, Bool.not_true, Bool.not_false, decide_eq_true_eq, Nat.reduceSub, Nat.reduceAdd, List.append_assoc, tChain, tDIn, tDNotIn, sDDel, tAug, ipI, rInt1_int, rInt1_bl]
      · obtain ⟨c, rfl, rfl⟩ := h
        try simp (maxSteps := 1000000) only [tSeq, tIfS, tTest, tOp, tUn, tCB, tCons, tNil, tVar, tC, rI0, rI, rU, rEq, rNe, tRet, tRetN, tAsg, gName, gSub, tBM, tBM0, tNext, tB, tNot, tAnd, tOr, tIf, tCall, tDrop, tBreak, tCont, L2.start, tDGet, sDPut, tTup, tLst, tDNewK, tRevL, rCat, rAppend, rPop, rSetL, tAndV, tOrV, tNotV, tSl, tPart, tNoPart, tM1, gTup, gCons, gNil, cxK, cxnK, List.map_cons, List.map_nil, List.length_cons, List.length_nil, List.replicate, List.cons_append, List.nil_append, List.append_nil, List.set_cons_zero, List.set_cons_succ, List.getElem?_cons_zero, List.getElem?_cons_succ, Option.some.injEq, V.ref.injEq, V.int.injEq, V.str.injEq, V.bl.injEq, V.ty.injEq, exists_eq_left', exists_eq_left, exists_and_left, List.cons.injEq, and_true, true_and, sc_ii, sc_ss, sc_bb, sc_ni, sc_in, sc_is, sc_si, sc_nn, decide_true, decide_false, reduceCtorEq, Bool.false_eq_true, if_true, if_false, ite_true, ite_false, exists_const, eq_self, false_and, and_false, or_false, false_or, exists_false, Evl.rLenS, rSum, wipe, tYes, exists_eq, exists_eq', rIxL, rIxT, rIxS, exists_and_right, gt_iff_lt, not_true_eq_false, not_false_eq_true, Bool.not_true, Bool.not_false, decide_eq_true_eq, Nat.reduceSub, Nat.reduceAdd, List.append_assoc, tChain, tDIn, tDNotIn, sDDel, tAug, ipI, rInt1_int, rInt1_bl]
        exact q
    · skip
      refine isi_mk (.tup hb) (b := true) (by decide +kernel) ?_
      try simp (maxSteps := 1000000) only [tSeq, tIfS, tTest, tOp, tUn, tCB, tCons, tNil, tVar, tC, rI0, rI, rU, rEq, rNe, tRet, tRetN, tAsg, gName, gSub, tBM, tBM0, tNext, tB, tNot, tAnd, tOr, tIf, tCall, tDrop, tBreak, tCont, L2.start, tDGet, sDPut, tTup, tLst, tDNewK, tRevL, rCat, rAppend, rPop, rSetL, tAndV, tOrV, tNotV, tSl, tPart, tNoPart, tM1, gTup, gCons, gNil, cxK, cxnK, List.map_cons, List.map_nil, List.length_cons, List.length_nil, List.replicate, List.cons_append, List.nil_append, List.append_nil, List.set_cons_zero, List.set_cons_succ, List.getElem?_cons_zero, List.getElem?_cons_succ, Option.some.injEq, V.ref.injEq, V.int.injEq, V.str.injEq, V.bl.injEq, V.ty.injEq, exists_eq_left', exists_eq_left, exists_and_left, List.cons.injEq, and_true, true_and, sc_ii, sc_ss, sc_bb, sc_ni, sc_in, sc_is, sc_si, sc_nn, decide_true, decide_false, reduceCtorEq, Bool.false_eq_true, if_true, if_false, ite_true, ite_false, exists_const, eq_self, false_and, and_false, or_false, false_or, exists_false, Evl.rLenS, rSum, wipe, tYes, exists_eq, exists_eq', rIxL, rIxT, rIxS, exists_and_right, gt_iff_lt, not_true_eq_false, not_false_eq_true, Bool.not_true, Bool.not_false, decide_eq_true_eq, Nat.reduceSub, Nat.reduceAdd, List.append_assoc, tChain, tDIn, tDNotIn, sDDel, tAug, ipI, rInt1_int, rInt1_bl]
      refine isi_mk (.tup hb) (b := true) (by decide +kernel) ?_
      try simp (maxSteps := 1000000) only [tSeq, tIfS, tTest, tOp, tUn, tCB, tCons, tNil, tVar, tC, rI0, rI, rU, rEq, rNe, tRet, tRetN, tAsg, gName, gSub, tBM, tBM0, tNext, tB, tNot, tAnd, tOr, tIf, tCall, tDrop, tBreak, tCont, L2.start, tDGet, sDPut, tTup, tLst, tDNewK, tRevL, rCat, rAppend, rPop, rSetL, tAndV, tOrV, tNotV, tSl, tPart, tNoPart, tM1, gTup, gCons, gNil, cxK, cxnK, List.map_cons, List.map_nil, List.length_cons, List.length_nil, List.replicate, List.cons_append, List.nil_append, List.append_nil, List.set_cons_zero, List.set_cons_succ, List.getElem?_cons_zero, List.getElem?_cons_succ, Option.some.injEq, V.ref.injEq, V.int.injEq, V.str.injEq, V.bl.injEq, V.ty.injEq, exists_eq_left', exists_eq_left, exists_and_left, List.cons.injEq, and_true, true_and, sc_ii, sc_ss, sc_bb, sc_ni, sc_in, sc_is, sc_si, sc_nn, decide_true, decide_false, reduceCtorEq, Bool.false_eq_true, if_true, if_false, ite_true, ite_false, exists_const, eq_self, false_and, and_false, or_false, false_or, exists_false, Evl.rLenS, rSum, wipe, tYes, exists_eq, exists_eq', rIxL, rIxT, rIxS, exists_and_right, gt_iff_lt, not_true_eq_false, not_false_eq_true, Bool.not_true, Bool.not_false, decide_eq_true_eq, Nat.reduceSub, Nat.reduceAdd, List.append_assoc, tChain, tDIn, tDNotIn, sDDel, tAug, ipI, rInt1_int, rInt1_bl]
      refine isi_mk (.tup ha) (b := true) (by decide +kernel) ?_
      try simp (maxSteps := 1000000) only [tSeq, tIfS, tTest, tOp, tUn, tCB, tCons, tNil, tVar, tC, rI0, rI, rU, rEq, rNe, tRet, tRetN, tAsg, gName, gSub, tBM, tBM0, tNext, tB, tNot, tAnd, tOr, tIf, tCall, tDrop, tBreak, tCont, L2.start, tDGet, sDPut, tTup, tLst, tDNewK, tRevL, rCat, rAppend, rPop, rSetL, tAndV, tOrV, tNotV, tSl, tPart, tNoPart, tM1, gTup, gCons, gNil, cxK, cxnK, List.map_cons, List.map_nil, List.length_cons, List.length_nil, List.replicate, List.cons_append, List.nil_append, List.append_nil, List.set_cons_zero, List.set_cons_succ, List.getElem?_cons_zero, List.getElem?_cons_succ, Option.some.injEq, V.ref.injEq, V.int.injEq, V.str.injEq, V.bl.injEq, V.ty.injEq, exists_eq_left', exists_eq_left, exists_and_left, List.cons.injEq, and_true, true_and, sc_ii, sc_ss, sc_bb, sc_ni, sc_in, sc_is, sc_si, sc_nn, decide_true, decide_false, reduceCtorEq, Bool.false_eq_true, if_true, if_false, ite_true, ite_false, exists_const, eq_self, false_and, and_false, or_false, false_or, exists_false, Evl.rLenS, rSum, wipe, tYes, exists_eq, exists_eq', rIxL, rIxT, rIxS, exists_and_right, gt_iff_lt, not_true_eq_false, not_false_eq_true, Bool.not_true, Bool.not_false, decide_eq_true_eq, Nat.reduceSub, Nat.reduceAdd, List.append_assoc, tChain, tDIn, tDNotIn, sDDel, tAug, ipI, rInt1_int, rInt1_bl]
      refine isi_mk (.tup hb) (b := false) (by decide +kernel) ?_
      try simp (maxSteps := 1000000) only [tSeq, tIfS, tTest, tOp, tUn, tCB, tCons, tNil, tVar, tC, rI0, rI, rU, rEq, rNe, tRet, tRetN, tAsg, gName, gSub, tBM, tBM0, tNext, tB, tNot, tAnd, tOr, tIf, tCall, tDrop, tBreak, tCont, L2.start, tDGet, sDPut, tTup, tLst, tDNewK, tRevL, rCat, rAppend, rPop, rSetL, tAndV, tOrV, tNotV, tSl, tPart, tNoPart, tM1, gTup, gCons, gNil, cxK, cxnK, List.map_cons, List.map_nil, List.length_cons, List.length_nil, List.replicate, List.cons_append, List.nil_append, List.append_nil, List.set_cons_zero, List.set_cons_succ, List.getElem?_cons_zero, List.getElem?_cons_succ, Option.some.injEq, V.ref.injEq, V.int.injEq, V.str.injEq, V.bl.injEq, V.ty.injEq, exists_eq_left', exists_eq_left, exists_and_left, List.cons.injEq, and_true, true_and, sc_ii, sc_ss, sc_bb, sc_ni, sc_in, sc_is, sc_si, sc_nn, decide_true, decide_false, reduceCtorEq, Bool.false_eq_true, if_true, if_false, ite_true, ite_false, exists_const, eq_self, false_and, and_false, or_false, false_or, exists_false, Evl.rLenS, rSum, wipe, tYes, exists_eq, exists_eq', rIxL, rIxT, rIxS, exists_and_right, gt_iff_lt, not_true_eq_false, not_false_eq_true, Bool.not_true, Bool.not_false, decide_eq_true_eq, Nat.reduceSub, Nat.reduceAdd, List.append_assoc, tChain, tDIn, tDNotIn, sDDel, tAug, ipI, rInt1_int, rInt1_bl]
      refine isi_mk (.tup ha) (b := false) (by decide +kernel) ?_
      try simp (maxSteps := 1000000) only [tSeq, tIfS, tTest, tOp, tUn, tCB, tCons, tNil, tVar, tC, rI0, rI, rU, rEq, rNe, tRet, tRetN, tAsg, gName, gSub, tBM, tBM0, tNext, tB, tNot, tAnd, tOr, tIf, tCall, tDrop, tBreak, tCont, L2.start, tDGet, sDPut, tTup, tLst, tDNewK, tRevL, rCat, rAppend, rPop, rSetL, tAndV, tOrV, tNotV, tSl, tPart, tNoPart, tM1, gTup, gCons, gNil, cxK, cxnK, List.map_cons, List.map_nil, List.length_cons, List.length_nil, List.replicate, List.cons_append, List.nil_append, List.append_nil, List.set_cons_zero, List.set_cons_succ, List.getElem?_cons_zero, List.getElem?_cons_succ, Option.some.injEq, V.ref.injEq, V.int.injEq, V.str.injEq, V.bl.injEq, V.ty.injEq, exists_eq_left', exists_eq_left, exists_and_left, List.cons.injEq, and_true, true_and, sc_ii, sc_ss, sc_bb, sc_ni, sc_in, sc_is, sc_si, sc_nn, decide_true, decide_false, reduceCtorEq, Bool.false_eq_true, if_true, if_false, ite_true, ite_false, exists_const, eq_self, false_and, and_false, or_false, false_or, exists_false, Evl.rLenS, rSum, wipe, tYes, exists_eq, exists_eq', rIxL, rIxT, rIxS, exists_and_right, gt_iff_lt, not_true_eq_false, not_false_eq_true, Bool.not_true, Bool.not_false, decide_eq_true_eq, Nat.reduceSub, Nat.reduceAdd, List.append_assoc, tChain, tDIn, tDNotIn, sDDel, tAug, ipI, rInt1_int, rInt1_bl]
      refine ⟨_, .inr (sq_t ha), _, .inr (sq_t hb), ?_⟩
      rw [if_neg (by rw [el]; simp)]
      refine forN us.length (by omega) (fun j σ H' => ∃ c : Option V, σ = [some (.ref a), some (.ref b), c] ∧ H' = H) (fun R h => ?_) ⟨none, rfl, rfl⟩ (fun j σ H' hj h => ?_) fun σ H' h => ?_
      · try simp (maxSteps := 1000000) only [tSeq, tIfS, tTest, tOp, tUn, tCB, tCons, tNil, tVar, tC, rI0, rI, rU, rEq, rNe, tRet, tRetN, tAsg, gName, gSub, tBM, tBM0, tNext, tB, tNot, tAnd, tOr, tIf, tCall, tDrop, tBreak, tCont, L2.start, tDGet, sDPut, tTup, tLst, tDNewK, tRevL, rCat, rAppend, rPop, rSetL, tAndV, tOrV, tNotV, tSl, tPart, tNoPart, tM1, gTup, gCons, gNil, cxK, cxnK, List.map_cons, List.map_nil, List.length_cons, List.length_nil, List.replicate, List.cons_append, List.nil_append, List.append_nil, List.set_cons_zero, List.set_cons_succ, List.getElem?_cons_zero, List.getElem?_cons_succ, Option.some.injEq, V.ref.injEq, V.int.injEq, V.str.injEq, V.bl.injEq, V.ty.injEq, exists_eq_left', exists_eq_left, exists_and_left, List.cons.injEq, and_true, true_and, sc_ii, sc_ss, sc_bb, sc_ni, sc_in, sc_is, sc_si, sc_nn, decide_true, decide_false, reduceCtorEq, Bool.false_eq_true, if_true, if_false, ite_true, ite_false, exists_const, eq_self, false_and, and_false, or_false, false_or, exists_false, Evl.rLenS, rSum, wipe, tYes, exists_eq, exists_eq', rIxL, rIxT, rIxS, exists_and_right, gt_iff_lt, not_true_eq_false, not_false_eq_true, Bool.not_true, Bool.not_false, decide_eq_true_eq, Nat.reduceSub, Nat.reduceAdd, List.append_assoc, tChain, tDIn, tDNotIn, sDDel, tAug, ipI, rInt1_int, rInt1_bl]
        exact ⟨_, .inr (sq_t hb), by rw [← el]; exact h⟩
      · obtain ⟨c, rfl, rfl⟩ := h
        have eu : us[j]? = some us[j] := List.getElem?_eq_getElem hj
        have ev : vs[j]? = some (vs[j]'(by omega)) := List.getElem?_eq_getElem _
        try simp (maxSteps := 1000000) only [tSeq, tIfS, tTest, tOp, tUn, tCB, tCons, tNil, tVar, tC, rI0, rI, rU, rEq, rNe, tRet, tRetN, tAsg, gName, gSub, tBM, tBM0, tNext, tB, tNot, tAnd, tOr, tIf, tCall, tDrop, tBreak, tCont, L2.start, tDGet, sDPut, tTup, tLst, tDNewK, tRevL, rCat, rAppend, rPop, rSetL, tAndV, tOrV, tNotV, tSl, tPart, tNoPart, tM1, gTup, gCons, gNil, cxK, cxnK, List.map_cons, List.map_nil, List.length_cons, List.length_nil, List.replicate, List.cons_append, List.nil_append, List.append_nil, List.set_cons_zero, List.set_cons_succ, List.getElem?_cons_zero, List.getElem?_cons_succ, Option.some.injEq, V.ref.injEq, V.int.injEq, V.str.injEq, V.bl.injEq, V.ty.injEq, exists_eq_left', exists_eq_left, exists_and_left, List.cons.injEq, and_true, true_and, sc_ii, sc_ss, sc_bb, sc_ni, sc_in, sc_is, sc_si, sc_nn, decide_true, decide_false, reduceCtorEq, Bool.false_eq_true, if_true, if_false, ite_true, ite_false, exists_const, eq_self, false_and, and_false, or_false, false_or, exists_false, Evl.rLenS, rSum, wipe, tYes, exists_eq, exists_eq', rIxL, rIxT, rIxS, exists_and_right, gt_iff_lt, not_true_eq_false, not_false_eq_true, Bool.not_true, Bool.not_false, decide_eq_true_eq, Nat.reduceSub, Nat.reduceAdd, List.append_assoc, tChain, tDIn, tDNotIn, sDDel, tAug, ipI, rInt1_int, rInt1_bl]
        refine .inr (.inl ⟨_, _, _, _, rfl, rfl, sq_t ha, atI_nat eu, ?_⟩)
        try simp (maxSteps := 1000000) only [tSeq, tIfS, tTest, tOp, tUn, tCB, tCons, tNil, tVar, tC, rI0, rI, rU, rEq, rNe, tRet, tRetN, tAsg, gName, gSub, tBM, tBM0, tNext, tB, tNot, tAnd, tOr, tIf, tCall, tDrop, tBreak, tCont, L2.start, tDGet, sDPut, tTup, tLst, tDNewK, tRevL, rCat, rAppend, rPop, rSetL, tAndV, tOrV, tNotV, tSl, tPart, tNoPart, tM1, gTup, gCons, gNil, cxK, cxnK, List.map_cons, List.map_nil, List.length_cons, List.length_nil, List.replicate, List.cons_append, List.nil_append, List.append_nil, List.set_cons_zero, List.set_cons_succ, List.getElem?_cons_zero, List.getElem?_cons_succ, Option.some.injEq, V.ref.injEq, V.int.injEq, V.str.injEq, V.bl.injEq, V.ty.injEq, exists_eq_left', exists_eq_left, exists_and_left, List.cons.injEq, and_true, true_and, sc_ii, sc_ss, sc_bb, sc_ni, sc_in, sc_is, sc_si, sc_nn, decide_true, decide_false, reduceCtorEq, Bool.false_eq_true, if_true, if_false, ite_true, ite_false, exists_const, eq_self, false_and, and_false, or_false, false_or, exists_false, Evl.rLenS, rSum, wipe, tYes, exists_eq, exists_eq', rIxL, rIxT, rIxS, exists_and_right, gt_iff_lt, not_true_eq_false, not_false_eq_true, Bool.not_true, Bool.not_false, decide_eq_true_eq, Nat.reduceSub, Nat.reduceAdd, List.append_assoc, tChain, tDIn, tDNotIn, sDDel, tAug, ipI, rInt1_int, rInt1_bl]
        refine .inr (.inl ⟨_, _, _, _, rfl, rfl, sq_t hb, atI_nat ev, ?_⟩)
        try simp (maxSteps := 1000000) only [tSeq, tIfS, tTest, tOp, tUn, tCB, tCons, tNil, tVar, tC, rI0, rI, rU, rEq, rNe, tRet, tRetN, tAsg, gName, gSub, tBM, tBM0, tNext, tB, tNot, tAnd, tOr, tIf, tCall, tDrop, tBreak, tCont, L2.start, tDGet, sDPut, tTup, tLst, tDNewK, tRevL, rCat, rAppend, rPop, rSetL, tAndV, tOrV, tNotV, tSl, tPart, tNoPart, tM1, gTup, gCons, gNil, cxK, cxnK, List.map_cons, List.map_nil, List.length_cons, List.length_nil, List.replicate, List.cons_append, List.nil_append, List.append_nil, List.set_cons_zero, List.set_cons_succ, List.getElem?_cons_zero, List.getElem?_cons_succ, Option.some.injEq, V.ref.injEq, V.int.injEq, V.str.injEq, V.bl.injEq, V.ty.injEq, exists_eq_left', exists_eq_left, exists_and_left, List.cons.injEq, and_true, true_and, sc_ii, sc_ss, sc_bb, sc_ni, sc_in, sc_is, sc_si, sc_nn, decide_true, decide_false, reduceCtorEq, Bool.false_eq_true, if_true, if_false, ite_true, ite_false, exists_const, eq_self, false_and, and_false, or_false, false_or, exists_false, Evl.rLenS, rSum, wipe, tYes, exists_eq, exists_eq', rIxL, rIxT, rIxS, exists_and_right, gt_iff_lt, not_true_eq_false, not_false_eq_true, Bool.not_true, Bool.not_false, decide_eq_true_eq, Nat.reduceSub, Nat.reduceAdd, List.append_assoc, tChain, tDIn, tDNotIn, sDDel, tAug, ipI, rInt1_int, rInt1_bl]
        refine ⟨_, _, rfl, hi j _ _ eu ev, ?_⟩
        try simp (maxSteps := 1000000) only [tSeq, tIfS, tTest, tOp, tUn, tCB, tCons, tNil, tVar, tC, rI0, rI, rU, rEq, rNe, tRet, tRetN, tAsg, gName, gSub, tBM, tBM0, tNext, tB, tNot, tAnd, tOr, tIf, tCall, tDrop, tBreak, tCont, L2.start, tDGet, sDPut, tTup, tLst, tDNewK, tRevL, rCat, rAppend, rPop, rSetL, tAndV, tOrV, tNotV, tSl, tPart, tNoPart, tM1, gTup, gCons, gNil, cxK, cxnK, List.map_cons, List.map_nil, List.length_cons, List.length_nil, List.replicate, List.cons_append, List.nil_append, List.append_nil, List.set_cons_zero, List.set_cons_succ, List.getElem?_cons_zero, List.getElem?_cons_succ, Option.some.injEq, V.ref.injEq, V.int.injEq, V.str.injEq, V.bl.injEq, V.ty.injEq, exists_eq_left', exists_eq_left, exists_and_left, List.cons.injEq, and_true, true_and, sc_ii, sc_ss, sc_bb, sc_ni, sc_in, sc_is, sc_si, sc_nn, decide_true, decide_false, reduceCtorEq, Bool.false_eq_true, if_true, if_false, ite_true, ite_false, exists_const, eq_self, false_and, and_false, or_false, false_or, exists_false, Evl.rLenS, rSum, wipe, tYes, exists_eq, exists_eq', rIxL, rIxT, rIxS, exists_and_right, gt_iff_lt, not_true_eq_false, not_false_eq_true, Bool.not_true, Bool.not_false, decide_eq_true_eq, Nat.reduceSub, Nat.reduceAdd, List.append_assoc, tChain, tDIn, tDNotIn, sDDel, tAug, ipI, rInt1_int, rInt1_bl]
      · obtain ⟨c, rfl, rfl⟩ := h
        try simp (maxSteps := 1000000) only [tSeq, tIfS, tTest, tOp, tUn, tCB, tCons, tNil, tVar, tC, rI0, rI, rU, rEq, rNe, tRet, tRetN, tAsg, gName, gSub, tBM, tBM0, tNext, tB, tNot, tAnd, tOr, tIf, tCall, tDrop, tBreak, tCont, L2.start, tDGet, sDPut, tTup, tLst, tDNewK, tRevL, rCat, rAppend, rPop, rSetL, tAndV, tOrV, tNotV, tSl, tPart, tNoPart, tM1, gTup, gCons, gNil, cxK, cxnK, List.map_cons, List.map_nil, List.length_cons, List.length_nil, List.replicate, List.cons_append, List.nil_append, List.append_nil, List.set_cons_zero, List.set_cons_succ, List.getElem?_cons_zero, List.getElem?_cons_succ, Option.some.injEq, V.ref.injEq, V.int.injEq, V.str.injEq, V.bl.injEq, V.ty.injEq, exists_eq_left', exists_eq_left, exists_and_left, List.cons.injEq, and_true, true_and, sc_ii, sc_ss, sc_bb, sc_ni, sc_in, sc_is, sc_si, sc_nn, decide_true, decide_false, reduceCtorEq, Bool.false_eq_true, if_true, if_false, ite_true, ite_false, exists_const, eq_self, false_and, and_false, or_false, false_or, exists_false, Evl.rLenS, rSum, wipe, tYes, exists_eq, exists_eq', rIxL, rIxT, rIxS, exists_and_right, gt_iff_lt, not_true_eq_false, not_false_eq_true, Bool.not_true, Bool.not_false, decide_eq_true_eq, Nat.reduceSub, Nat.reduceAdd, List.append_assoc, tChain, tDIn, tDNotIn, sDDel, tAug, ipI, rInt1_int, rInt1_bl]
        exact q
theorem ok_law_same {f : Addr} {fd : FuncData} (D_law_same : Df K mg "_law_same" s_law_same ["_law_told", "_law_due"] f fd) (T : BtX mg) : ∀ d, FnOk P w K mg base CX0 (d + 1) f fd ["_law_told", "_law_due"] (spSame d)
  | 0 => same_step D_law_same T 0 ⟨fun _ _ _ _ h => h.elim, fun _ _ _ _ _ _ _ _ _ _ _ _ _ h => h.elim⟩
  | d + 1 => same_step D_law_same T (d + 1) (ok_law_same D_law_same T d)
theorem okz_law_same {f : Addr} {fd : FuncData} (D_law_same : Df K mg "_law_same" s_law_same ["_law_told", "_law_due"] f fd) (T : BtX mg) : FnZ P w K mg base CX0 1 f fd ["_law_told", "_law_due"] (spSame 0) := by
  obtain ⟨oc, od, kV, doc, pm, an, cdv, ct, osl, hfd, lk, hcd⟩ := D_law_same.F.ex
  rw [hfd] at lk ⊢
  refine fn_ofZR lk hcd sc_law_same (fun vs H Q E h => ?_) (fun A outer s H vs Q E hr h => ?_)
  · obtain ⟨_, _, rfl, _⟩ := h
    rfl
  · obtain ⟨x, y, rfl, hs, q⟩ := h
    refine ⟨_, (pss_cons (ps_if (PW.pt (pw_or (pt_val (pe_callB (id := "isinstance") (r := rIsi K) call_isi (by rfl) T.b_isinstance (by decide +kernel) (pa_cons (pv 1) (pa_cons (pe_bltn (v := .ty "tuple") (by rfl) T.b_tuple (by decide +kernel) rfl) pa_nil)))) (pw_or1 (pt_val (pe_callB (id := "isinstance") (r := rIsi K) call_isi (by rfl) T.b_isinstance (by decide +kernel) (pa_cons (pv 1) (pa_cons (pe_bltn (v := .ty "list") (by rfl) T.b_list (by decide +kernel) rfl) pa_nil))))))) (pss_cons (ps_if (PW.pt (pw_or (pt_cmpR op_ne (pe_callB (id := "isinstance") (r := rIsi K) call_isi (by rfl) T.b_isinstance (by decide +kernel) (pa_cons (pv 1) (pa_cons (pe_bltn (v := .ty "tuple") (by rfl) T.b_tuple (by decide +kernel) rfl) pa_nil))) (pe_callB (id := "isinstance") (r := rIsi K) call_isi (by rfl) T.b_isinstance (by decide +kernel) (pa_cons (pv 0) (pa_cons (pe_bltn (v := .ty "tuple") (by rfl) T.b_tuple (by decide +kernel) rfl) pa_nil))) (nomark _)) (pw_or1 (pt_cmpR op_ne (pe_callB (id := "isinstance") (r := rIsi K) call_isi (by rfl) T.b_isinstance (by decide +kernel) (pa_cons (pv 1) (pa_cons (pe_bltn (v := .ty "list") (by rfl) T.b_list (by decide +kernel) rfl) pa_nil))) (pe_callB (id := "isinstance") (r := rIsi K) call_isi (by rfl) T.b_isinstance (by decide +kernel) (pa_cons (pv 0) (pa_cons (pe_bltn (v := .ty "list") (by rfl) T.b_list (by decide +kernel) rfl) pa_nil))) (nomark _))))) (pss_one (ps_ret pe_bl)) pss_nil)
      (pss_cons (ps_if (pt_cmpR op_ne (pe_callB (id := "len") (r := Evl.rLenS K) call_len_seq (by rfl) T.b_len PySem.boot_len (pa_cons (pv 0) pa_nil)) (pe_callB (id := "len") (r := Evl.rLenS K) call_len_seq (by rfl) T.b_len PySem.boot_len (pa_cons (pv 1) pa_nil)) (nomark _)) (pss_one (ps_ret pe_bl)) pss_nil)
      (pss_cons ps_never
      (pss_one (ps_ret pe_bl))))) pss_nil)
      (pss_cons (ps_if (pt_cmpR op_isN (pv 1) pe_non (nomark _)) (pss_one (ps_ret (pe_cmpR op_isN (pv 0) pe_non (nomark _)))) pss_nil)
      (pss_cons (ps_if (PW.pt (pw_or (pt_cmpR op_ne (pe_callB (id := "isinstance") (r := rIsi K) call_isi (by rfl) T.b_isinstance (by decide +kernel) (pa_cons (pv 1) (pa_cons (pe_bltn (v := .ty "bool") (by rfl) T.b_bool (by decide +kernel) rfl) pa_nil))) (pe_callB (id := "isinstance") (r := rIsi K) call_isi (by rfl) T.b_isinstance (by decide +kernel) (pa_cons (pv 0) (pa_cons (pe_bltn (v := .ty "bool") (by rfl) T.b_bool (by decide +kernel) rfl) pa_nil))) (nomark _)) (pw_or1 (pt_cmpR op_ne (pe_callB (id := "isinstance") (r := rIsi K) call_isi (by rfl) T.b_isinstance (by decide +kernel) (pa_cons (pv 1) (pa_cons (pe_bltn (v := .ty "int") (by rfl) T.b_int (by decide +kernel) rfl) pa_nil))) (pe_callB (id := "isinstance") (r := rIsi K) call_isi (by rfl) T.b_isinstance (by decide +kernel) (pa_cons (pv 0) (pa_cons (pe_bltn (v := .ty "int") (by rfl) T.b_int (by decide +kernel) rfl) pa_nil))) (nomark _))))) (pss_one (ps_ret pe_bl)) pss_nil)
      (pss_one (ps_ret (pe_and (pe_cmpR op_eq (pe_callB (id := "isinstance") (r := rIsi K) call_isi (by rfl) T.b_isinstance (by decide +kernel) (pa_cons (pv 1) (pa_cons (pe_bltn (v := .ty "str") (by rfl) T.b_str (by decide +kernel) rfl) pa_nil))) (pe_callB (id := "isinstance") (r := rIsi K) call_isi (by rfl) T.b_isinstance (by decide +kernel) (pa_cons (pv 0) (pa_cons (pe_bltn (v := .ty "str") (by rfl) T.b_str (by decide +kernel) rfl) pa_nil))) (nomark _)) (pe_one (pe_cmpR op_eq (pv 0) (pv 1) (nomark _))))))))), ?_⟩
    try simp (maxSteps := 1000000) only [tSeq, tIfS, tTest, tOp, tUn, tCB, tCons, tNil, tVar, tC, rI0, rI, rU, rEq, rNe, tRet, tRetN, tAsg, gName, gSub, tBM, tBM0, tNext, tB, tNot, tAnd, tOr, tIf, tCall, tDrop, tBreak, tCont, L2.start, tDGet, sDPut, tTup, tLst, tDNewK, tRevL, rCat, rAppend, rPop, rSetL, tAndV, tOrV, tNotV, tSl, tPart, tNoPart, tM1, gTup, gCons, gNil, cxK, cxnK, List.map_cons, List.map_nil, List.length_cons, List.length_nil, List.replicate, List.cons_append, List.nil_append, List.append_nil, List.set_cons_zero, List.set_cons_succ, List.getElem?_cons_zero, List.getElem?_cons_succ, Option.some.injEq, V.ref.injEq, V.int.injEq, V.str.injEq, V.bl.injEq, V.ty.injEq, exists_eq_left', exists_eq_left, exists_and_left, List.cons.injEq, and_true, true_and, sc_ii, sc_ss, sc_bb, sc_ni, sc_in, sc_is, sc_si, sc_nn, decide_true, decide_false, reduceCtorEq, Bool.false_eq_true, if_true, if_false, ite_true, ite_false, exists_const, eq_self, false_and, and_false, or_false, false_or, exists_false, Evl.rLenS, rSum, wipe, tYes, exists_eq, exists_eq', rIxL, rIxT, rIxS, exists_and_right, gt_iff_lt, not_true_eq_false, not_false_eq_true, Bool.not_true, Bool.not_false, decide_eq_true_eq, Nat.reduceSub, Nat.reduceAdd, List.append_assoc, tChain, tDIn, tDNotIn, sDDel, tAug, ipI, rInt1_int, rInt1_bl]
    rcases hs with ⟨i, rfl, rfl⟩ | ⟨i, rfl, rfl⟩ | ⟨i, rfl, rfl⟩
    · skip
      refine isi_mk (.int i) (b := false) (by decide +kernel) ?_
      try simp (maxSteps := 1000000) only [tSeq, tIfS, tTest, tOp, tUn, tCB, tCons, tNil, tVar, tC, rI0, rI, rU, rEq, rNe, tRet, tRetN, tAsg, gName, gSub, tBM, tBM0, tNext, tB, tNot, tAnd, tOr, tIf, tCall, tDrop, tBreak, tCont, L2.start, tDGet, sDPut, tTup, tLst, tDNewK, tRevL, rCat, rAppend, rPop, rSetL, tAndV, tOrV, tNotV, tSl, tPart, tNoPart, tM1, gTup, gCons, gNil, cxK, cxnK, List.map_cons, List.map_nil, List.length_cons, List.length_nil, List.replicate, List.cons_append, List.nil_append, List.append_nil, List.set_cons_zero, List.set_cons_succ, List.getElem?_cons_zero, List.getElem?_cons_succ, Option.some.injEq, V.ref.injEq, V.int.injEq, V.str.injEq, V.bl.injEq, V.ty.injEq, exists_eq_left', exists_eq_left, exists_and_left, List.cons.injEq, and_true, true_and, sc_ii, sc_ss, sc_bb, sc_ni, sc_in, sc_is, sc_si, sc_nn, decide_true, decide_false, reduceCtorEq, Bool.false_eq_true, if_true, if_false, ite_true, ite_false, exists_const, eq_self, false_and, and_false, or_false, false_or, exists_false, Evl.rLenS, rSum, wipe, tYes, exists_eq, exists_eq', rIxL, rIxT, rIxS, exists_and_right, gt_iff_lt, not_true_eq_false, not_false_eq_true, Bool.not_true, Bool.not_false, decide_eq_true_eq, Nat.reduceSub, Nat.reduceAdd, List.append_assoc, tChain, tDIn, tDNotIn, sDDel, tAug, ipI, rInt1_int, rInt1_bl]
      refine isi_mk (.int i) (b := false) (by decide +kernel) ?_
      try simp (maxSteps := 1000000) only [tSeq, tIfS, tTest, tOp, tUn, tCB, tCons, tNil, tVar, tC, rI0, rI, rU, rEq, rNe, tRet, tRetN, tAsg, gName, gSub, tBM, tBM0, tNext, tB, tNot, tAnd, tOr, tIf, tCall, tDrop, tBreak, tCont, L2.start, tDGet, sDPut, tTup, tLst, tDNewK, tRevL, rCat, rAppend, rPop, rSetL, tAndV, tOrV, tNotV, tSl, tPart, tNoPart, tM1, gTup, gCons, gNil, cxK, cxnK, List.map_cons, List.map_nil, List.length_cons, List.length_nil, List.replicate, List.cons_append, List.nil_append, List.append_nil, List.set_cons_zero, List.set_cons_succ, List.getElem?_cons_zero, List.getElem?_cons_succ, Option.some.injEq, V.ref.injEq, V.int.injEq, V.str.injEq, V.bl.injEq, V.ty.injEq, exists_eq_left', exists_eq_left, exists_and_left, List.cons.injEq, and_true, true_and, sc_ii, sc_ss, sc_bb, sc_ni, sc_in, sc_is, sc_si, sc_nn, decide_true, decide_false, reduceCtorEq, Bool.false_eq_true, if_true, if_false, ite_true, ite_false, exists_const, eq_self, false_and, and_false, or_false, false_or, exists_false, Evl.rLenS, rSum, wipe, tYes, exists_eq, exists_eq', rIxL, rIxT, rIxS, exists_and_right, gt_iff_lt, not_true_eq_false, not_false_eq_true, Bool.not_true, Bool.not_false, decide_eq_true_eq, Nat.reduceSub, Nat.reduceAdd, List.append_assoc, tChain, tDIn, tDNotIn, sDDel, tAug, ipI, rInt1_int, rInt1_bl]
      refine isi_mk (.int i) (b := false) (by decide +kernel) ?_
      try simp (maxSteps := 1000000) only [tSeq, tIfS, tTest, tOp, tUn, tCB, tCons, tNil, tVar, tC, rI0, rI, rU, rEq, rNe, tRet, tRetN, tAsg, gName, gSub, tBM, tBM0, tNext, tB, tNot, tAnd, tOr, tIf, tCall, tDrop, tBreak, tCont, L2.start, tDGet, sDPut, tTup, tLst, tDNewK, tRevL, rCat, rAppend, rPop, rSetL, tAndV, tOrV, tNotV, tSl, tPart, tNoPart, tM1, gTup, gCons, gNil, cxK, cxnK, List.map_cons, List.map_nil, List.length_cons, List.length_nil, List.replicate, List.cons_append, List.nil_append, List.append_nil, List.set_cons_zero, List.set_cons_succ, List.getElem?_cons_zero, List.getElem?_cons_succ, Option.some.injEq, V.ref.injEq, V.int.injEq, V.str.injEq, V.bl.injEq, V.ty.injEq, exists_eq_left', exists_eq_left, exists_and_left, List.cons.injEq, and_true, true_and, sc_ii, sc_ss, sc_bb, sc_ni, sc_in, sc_is, sc_si, sc_nn, decide_true, decide_false, reduceCtorEq, Bool.false_eq_true, if_true, if_false, ite_true, ite_false, exists_const, eq_self, false_and, and_false, or_false, false_or, exists_false, Evl.rLenS, rSum, wipe, tYes, exists_eq, exists_eq', rIxL, rIxT, rIxS, exists_and_right, gt_iff_lt, not_true_eq_false, not_false_eq_true, Bool.not_true, Bool.not_false, decide_eq_true_eq, Nat.reduceSub, Nat.reduceAdd, List.append_assoc, tChain, tDIn, tDNotIn, sDDel, tAug, ipI, rInt1_int, rInt1_bl]
      refine isi_mk (.int i) (b := false) (by decide +kernel) ?_
      try simp (maxSteps := 1000000) only [tSeq, tIfS, tTest, tOp, tUn, tCB, tCons, tNil, tVar, tC, rI0, rI, rU, rEq, rNe, tRet, tRetN, tAsg, gName, gSub, tBM, tBM0, tNext, tB, tNot, tAnd, tOr, tIf, tCall, tDrop, tBreak, tCont, L2.start, tDGet, sDPut, tTup, tLst, tDNewK, tRevL, rCat, rAppend, rPop, rSetL, tAndV, tOrV, tNotV, tSl, tPart, tNoPart, tM1, gTup, gCons, gNil, cxK, cxnK, List.map_cons, List.map_nil, List.length_cons, List.length_nil, List.replicate, List.cons_append, List.nil_append, List.append_nil, List.set_cons_zero, List.set_cons_succ, List.getElem?_cons_zero, List.getElem?_cons_succ, Option.some.injEq, V.ref.injEq, V.int.injEq, V.str.injEq, V.bl.injEq, V.ty.injEq, exists_eq_left', exists_eq_left, exists_and_left, List.cons.injEq, and_true, true_and, sc_ii, sc_ss, sc_bb, sc_ni, sc_in, sc_is, sc_si, sc_nn, decide_true, decide_false, reduceCtorEq, Bool.false_eq_true, if_true, if_false, ite_true, ite_false, exists_const, eq_self, false_and, and_false, or_false, false_or, exists_false, Evl.rLenS, rSum, wipe, tYes, exists_eq, exists_eq', rIxL, rIxT, rIxS, exists_and_right, gt_iff_lt, not_true_eq_false, not_false_eq_true, Bool.not_true, Bool.not_false, decide_eq_true_eq, Nat.reduceSub, Nat.reduceAdd, List.append_assoc, tChain, tDIn, tDNotIn, sDDel, tAug, ipI, rInt1_int, rInt1_bl]
      refine isi_mk (.int i) (b := true) (by decide +kernel) ?_
      try simp (maxSteps := 1000000) only [tSeq, tIfS, tTest, tOp, tUn, tCB, tCons, tNil, tVar, tC, rI0, rI, rU, rEq, rNe, tRet, tRetN, tAsg, gName, gSub, tBM, tBM0, tNext, tB, tNot, tAnd, tOr, tIf, tCall, tDrop, tBreak, tCont, L2.start, tDGet, sDPut, tTup, tLst, tDNewK, tRevL, rCat, rAppend, rPop, rSetL, tAndV, tOrV, tNotV, tSl, tPart, tNoPart, tM1, gTup, gCons, gNil, cxK, cxnK, List.map_cons, List.map_nil, List.length_cons, List.length_nil, List.replicate, List.cons_append, List.nil_append, List.append_nil, List.set_cons_zero, List.set_cons_succ, List.getElem?_cons_zero, List.getElem?_cons_succ, Option.some.injEq, V.ref.injEq, V.int.injEq, V.str.injEq, V.bl.injEq, V.ty.injEq, exists_eq_left', exists_eq_left, exists_and_left, List.cons.injEq, and_true, true_and, sc_ii, sc_ss, sc_bb, sc_ni, sc_in, sc_is, sc_si, sc_nn, decide_true, decide_false, reduceCtorEq, Bool.false_eq_true, if_true, if_false, ite_true, ite_false, exists_const, eq_self, false_and, and_false, or_false, false_or, exists_false, Evl.rLenS, rSum, wipe, tYes, exists_eq, exists_eq', rIxL, rIxT, rIxS, exists_and_right, gt_iff_lt, not_true_eq_false, not_false_eq_true, Bool.not_true, Bool.not_false, decide_eq_true_eq, Nat.reduceSub, Nat.reduceAdd, List.append_assoc, tChain, tDIn, tDNotIn, sDDel, tAug, ipI, rInt1_int, rInt1_bl]
      refine isi_mk (.int i) (b := true) (by decide +kernel) ?_
      try simp (maxSteps := 1000000) only [tSeq, tIfS, tTest, tOp, tUn, tCB, tCons, tNil, tVar, tC, rI0, rI, rU, rEq, rNe, tRet, tRetN, tAsg, gName, gSub, tBM, tBM0, tNext, tB, tNot, tAnd, tOr, tIf, tCall, tDrop, tBreak, tCont, L2.start, tDGet, sDPut, tTup, tLst, tDNewK, tRevL, rCat, rAppend, rPop, rSetL, tAndV, tOrV, tNotV, tSl, tPart, tNoPart, tM1, gTup, gCons, gNil, cxK, cxnK, List.map_cons, List.map_nil, List.length_cons, List.length_nil, List.replicate, List.cons_append, List.nil_append, List.append_nil, List.set_cons_zero, List.set_cons_succ, List.getElem?_cons_zero, List.getElem?_cons_succ, Option.some.injEq, V.ref.injEq, V.int.injEq, V.str.injEq, V.bl.injEq, V.ty.injEq, exists_eq_left', exists_eq_left, exists_and_left, List.cons.injEq, and_true, true_and, sc_ii, sc_ss, sc_bb, sc_ni, sc_in, sc_is, sc_si, sc_nn, decide_true, decide_false, reduceCtorEq, Bool.false_eq_true, if_true, if_false, ite_true, ite_false, exists_const, eq_self, false_and, and_false, or_false, false_or, exists_false, Evl.rLenS, rSum, wipe, tYes, exists_eq, exists_eq', rIxL, rIxT, rIxS, exists_and_right, gt_iff_lt, not_true_eq_false, not_false_eq_true, Bool.not_true, Bool.not_false, decide_eq_true_eq, Nat.reduceSub, Nat.reduceAdd, List.append_assoc, tChain, tDIn, tDNotIn, sDDel, tAug, ipI, rInt1_int, rInt1_bl]
      refine isi_mk (.int i) (b := false) (by decide +kernel) ?_
      try simp (maxSteps := 1000000) only [tSeq, tIfS, tTest, tOp, tUn, tCB, tCons, tNil, tVar, tC, rI0, rI, rU, rEq, rNe, tRet, tRetN, tAsg, gName, gSub, tBM, tBM0, tNext, tB, tNot, tAnd, tOr, tIf, tCall, tDrop, tBreak, tCont, L2.start, tDGet, sDPut, tTup, tLst, tDNewK, tRevL, rCat, rAppend, rPop, rSetL, tAndV, tOrV, tNotV, tSl, tPart, tNoPart, tM1, gTup, gCons, gNil, cxK, cxnK, List.map_cons, List.map_nil, List.length_cons, List.length_nil, List.replicate, List.cons_append, List.nil_append, List.append_nil, List.set_cons_zero, List.set_cons_succ, List.getElem?_cons_zero, List.getElem?_cons_succ, Option.some.injEq, V.ref.injEq, V.int.injEq, V.str.injEq, V.bl.injEq, V.ty.injEq, exists_eq_left', exists_eq_left, exists_and_left, List.cons.injEq, and_true, true_and, sc_ii, sc_ss, sc_bb, sc_ni, sc_in, sc_is, sc_si, sc_nn, decide_true, decide_false, reduceCtorEq, Bool.false_eq_true, if_true, if_false, ite_true, ite_false, exists_const, eq_self, false_and, and_false, or_false, false_or, exists_false, Evl.rLenS, rSum, wipe, tYes, exists_eq, exists_eq', rIxL, rIxT, rIxS, exists_and_right, gt_iff_lt, not_true_eq_false, not_false_eq_true, Bool.not_true, Bool.not_false, decide_eq_true_eq, Nat.reduceSub, Nat.reduceAdd, List.append_assoc, tChain, tDIn, tDNotIn, sDDel, tAug, ipI, rInt1_int, rInt1_bl]
      refine isi_mk (.int i) (b := false) (by decide +kernel) ?_
      try simp (maxSteps := 1000000) only [tSeq, tIfS, tTest, tOp, tUn, tCB, tCons, tNil, tVar, tC, rI0, rI, rU, rEq, rNe, tRet, tRetN, tAsg, gName, gSub, tBM, tBM0, tNext, tB, tNot, tAnd, tOr, tIf, tCall, tDrop, tBreak, tCont, L2.start, tDGet, sDPut, tTup, tLst, tDNewK, tRevL, rCat, rAppend, rPop, rSetL, tAndV, tOrV, tNotV, tSl, tPart, tNoPart, tM1, gTup, gCons, gNil, cxK, cxnK, List.map_cons, List.map_nil, List.length_cons, List.length_nil, List.replicate, List.cons_append, List.nil_append, List.append_nil, List.set_cons_zero, List.set_cons_succ, List.getElem?_cons_zero, List.getElem?_cons_succ, Option.some.injEq, V.ref.injEq, V.int.injEq, V.str.injEq, V.bl.injEq, V.ty.injEq, exists_eq_left', exists_eq_left, exists_and_left, List.cons.injEq, and_true, true_and, sc_ii, sc_ss, sc_bb, sc_ni, sc_in, sc_is, sc_si, sc_nn, decide_true, decide_false, reduceCtorEq, Bool.false_eq_true, if_true, if_false, ite_true, ite_false, exists_const, eq_self, false_and, and_false, or_false, false_or, exists_false, Evl.rLenS, rSum, wipe, tYes, exists_eq, exists_eq', rIxL, rIxT, rIxS, exists_and_right, gt_iff_lt, not_true_eq_false, not_false_eq_true, Bool.not_true, Bool.not_false, decide_eq_true_eq, Nat.reduceSub, Nat.reduceAdd, List.append_assoc, tChain, tDIn, tDNotIn, sDDel, tAug, ipI, rInt1_int, rInt1_bl]
      exact q
    · skip
      refine isi_mk (.bl i) (b := false) (by decide +kernel) ?_
      try simp (maxSteps := 1000000) only [tSeq, tIfS, tTest, tOp, tUn, tCB, tCons, tNil, tVar, tC, rI0, rI, rU, rEq, rNe, tRet, tRetN, tAsg, gName, gSub, tBM, tBM0, tNext, tB, tNot, tAnd, tOr, tIf, tCall, tDrop, tBreak, tCont, L2.start, tDGet, sDPut, tTup, tLst, tDNewK, tRevL, rCat, rAppend, rPop, rSetL, tAndV, tOrV, tNotV, tSl, tPart, tNoPart, tM1, gTup, gCons, gNil, cxK, cxnK, List.map_cons, List.map_nil, List.length_cons, List.length_nil, List.replicate, List.cons_append, List.nil_append, List.append_nil, List.set_cons_zero, List.set_cons_succ, List.getElem?_cons_zero, List.getElem?_cons_succ, Option.some.injEq, V.ref.injEq, V.int.injEq, V.str.injEq, V.bl.injEq, V.ty.injEq, exists_eq_left', exists_eq_left, exists_and_left, List.cons.injEq, and_true, true_and, sc_ii, sc_ss, sc_bb, sc_ni, sc_in, sc_is, sc_si, sc_nn, decide_true, decide_false, reduceCtorEq, Bool.false_eq_true, if_true, if_false, ite_true, ite_false, exists_const, eq_self, false_and, and_false, or_false, false_or, exists_false, Evl.rLenS, rSum, wipe, tYes, exists_eq, exists_eq', rIxL, rIxT, rIxS, exists_and_right, gt_iff_lt, not_true_eq_false, not_false_eq_true, Bool.not_true, Bool.not_false, decide_eq_true_eq, Nat.reduceSub, Nat.reduceAdd, List.append_assoc, tChain, tDIn, tDNotIn, sDDel, tAug, ipI, rInt1_int, rInt1_bl]
      refine isi_mk (.bl i) (b := false) (by decide +kernel) ?_
      try simp (maxSteps := 1000000) only [tSeq, tIfS, tTest, tOp, tUn, tCB, tCons, tNil, tVar, tC, rI0, rI, rU, rEq, rNe, tRet, tRetN, tAsg, gName, gSub, tBM, tBM0, tNext, tB, tNot, tAnd, tOr, tIf, tCall, tDrop, tBreak, tCont, L2.start, tDGet, sDPut, tTup, tLst, tDNewK, tRevL, rCat, rAppend, rPop, rSetL, tAndV, tOrV, tNotV, tSl, tPart, tNoPart, tM1, gTup, gCons, gNil, cxK, cxnK, List.map_cons, List.map_nil, List.length_cons, List.length_nil, List.replicate, List.cons_append, List.nil_append, List.append_nil, List.set_cons_zero, List.set_cons_succ, List.getElem?_cons_zero, List.getElem?_cons_succ, Option.some.injEq, V.ref.injEq, V.int.injEq, V.str.injEq, V.bl.injEq, V.ty.injEq, exists_eq_left', exists_eq_left, exists_and_left, List.cons.injEq, and_true, true_and, sc_ii, sc_ss, sc_bb, sc_ni, sc_in, sc_is, sc_si, sc_nn, decide_true, decide_false, reduceCtorEq, Bool.false_eq_true, if_true, if_false, ite_true, ite_false, exists_const, eq_self, false_and, and_false, or_false, false_or, exists_false, Evl.rLenS, rSum, wipe, tYes, exists_eq, exists_eq', rIxL, rIxT, rIxS, exists_and_right, gt_iff_lt, not_true_eq_false, not_false_eq_true, Bool.not_true, Bool.not_false, decide_eq_true_eq, Nat.reduceSub, Nat.reduceAdd, List.append_assoc, tChain, tDIn, tDNotIn, sDDel, tAug, ipI, rInt1_int, rInt1_bl]
      refine isi_mk (.bl i) (b := true) (by decide +kernel) ?_
      try simp (maxSteps := 1000000) only [tSeq, tIfS, tTest, tOp, tUn, tCB, tCons, tNil, tVar, tC, rI0, rI, rU, rEq, rNe, tRet, tRetN, tAsg, gName, gSub, tBM, tBM0, tNext, tB, tNot, tAnd, tOr, tIf, tCall, tDrop, tBreak, tCont, L2.start, tDGet, sDPut, tTup, tLst, tDNewK, tRevL, rCat, rAppend, rPop, rSetL, tAndV, tOrV, tNotV, tSl, tPart, tNoPart, tM1, gTup, gCons, gNil, cxK, cxnK, List.map_cons, List.map_nil, List.length_cons, List.length_nil, List.replicate, List.cons_append, List.nil_append, List.append_nil, List.set_cons_zero, List.set_cons_succ, List.getElem?_cons_zero, List.getElem?_cons_succ, Option.some.injEq, V.ref.injEq, V.int.injEq, V.str.injEq, V.bl.injEq, V.ty.injEq, exists_eq_left', exists_eq_left, exists_and_left, List.cons.injEq, and_true, true_and, sc_ii, sc_ss, sc_bb, sc_ni, sc_in, sc_is, sc_si, sc_nn, decide_true, decide_false, reduceCtorEq, Bool.false_eq_true, if_true, if_false, ite_true, ite_false, exists_const, eq_self, false_and, and_false, or_false, false_or, exists_false, Evl.rLenS, rSum, wipe, tYes, exists_eq, exists_eq', rIxL, rIxT, rIxS, exists_and_right, gt_iff_lt, not_true_eq_false, not_false_eq_true, Bool.not_true, Bool.not_false, decide_eq_true_eq, Nat.reduceSub, Nat.reduceAdd, List.append_assoc, tChain, tDIn, tDNotIn, sDDel, tAug, ipI, rInt1_int, rInt1_bl]
      refine isi_mk (.bl i) (b := true) (by decide +kernel) ?_
      try simp (maxSteps := 1000000) only [tSeq, tIfS, tTest, tOp, tUn, tCB, tCons, tNil, tVar, tC, rI0, rI, rU, rEq, rNe, tRet, tRetN, tAsg, gName, gSub, tBM, tBM0, tNext, tB, tNot, tAnd, tOr, tIf, tCall, tDrop, tBreak, tCont, L2.start, tDGet, sDPut, tTup, tLst, tDNewK, tRevL, rCat, rAppend, rPop, rSetL, tAndV, tOrV, tNotV, tSl, tPart, tNoPart, tM1, gTup, gCons, gNil, cxK, cxnK, List.map_cons, List.map_nil, List.length_cons, List.length_nil, List.replicate, List.cons_append, List.nil_append, List.append_nil, List.set_cons_zero, List.set_cons_succ, List.getElem?_cons_zero, List.getElem?_cons_succ, Option.some.injEq, V.ref.injEq, V.int.injEq, V.str.injEq, V.bl.injEq, V.ty.injEq, exists_eq_left', exists_eq_left, exists_and_left, List.cons.injEq, and_true, true_and, sc_ii, sc_ss, sc_bb, sc_ni, sc_in, sc_is, sc_si, sc_nn, decide_true, decide_false, reduceCtorEq, Bool.false_eq_true, if_true, if_false, ite_true, ite_false, exists_const, eq_self, false_and, and_false, or_false, false_or, exists_false, Evl.rLenS, rSum, wipe, tYes, exists_eq, exists_eq', rIxL, rIxT, rIxS, exists_and_right, gt_iff_lt, not_true_eq_false, not_false_eq_true, Bool.not_true, Bool.not_false, decide_eq_true_eq, Nat.reduceSub, Nat.reduceAdd, List.append_assoc, tChain, tDIn, tDNotIn, sDDel, tAug, ipI, rInt1_int, rInt1_bl]
      refine isi_mk (.bl i) (b := true) (by decide +kernel) ?_
      try simp (maxSteps := 1000000) only [tSeq, tIfS, tTest, tOp, tUn, tCB, tCons, tNil, tVar, tC, rI0, rI, rU, rEq, rNe, tRet, tRetN, tAsg, gName, gSub, tBM, tBM0, tNext, tB, tNot, tAnd, tOr, tIf, tCall, tDrop, tBreak, tCont, L2.start, tDGet, sDPut, tTup, tLst, tDNewK, tRevL, rCat, rAppend, rPop, rSetL, tAndV, tOrV, tNotV, tSl, tPart, tNoPart, tM1, gTup, gCons, gNil, cxK, cxnK, List.map_cons, List.map_nil, List.length_cons, List.length_nil, List.replicate, List.cons_append, List.nil_append, List.append_nil, List.set_cons_zero, List.set_cons_succ, List.getElem?_cons_zero, List.getElem?_cons_succ, Option.some.injEq, V.ref.injEq, V.int.injEq, V.str.injEq, V.bl.injEq, V.ty.injEq, exists_eq_left', exists_eq_left, exists_and_left, List.cons.injEq, and_true, true_and, sc_ii, sc_ss, sc_bb, sc_ni, sc_in, sc_is, sc_si, sc_nn, decide_true, decide_false, reduceCtorEq, Bool.false_eq_true, if_true, if_false, ite_true, ite_false, exists_const, eq_self, false_and, and_false, or_false, false_or, exists_false, Evl.rLenS, rSum, wipe, tYes, exists_eq, exists_eq', rIxL, rIxT, rIxS, exists_and_right, gt_iff_lt, not_true_eq_false, not_false_eq_true, Bool.not_true, Bool.not_false, decide_eq_true_eq, Nat.reduceSub, Nat.reduceAdd, List.append_assoc, tChain, tDIn, tDNotIn, sDDel, tAug, ipI, rInt1_int, rInt1_bl]
      refine isi_mk (.bl i) (b := true) (by decide +kernel) ?_
      try simp (maxSteps := 1000000) only [tSeq, tIfS, tTest, tOp, tUn, tCB, tCons, tNil, tVar, tC, rI0, rI, rU, rEq, rNe, tRet, tRetN, tAsg, gName, gSub, tBM, tBM0, tNext, tB, tNot, tAnd, tOr, tIf, tCall, tDrop, tBreak, tCont, L2.start, tDGet, sDPut, tTup, tLst, tDNewK, tRevL, rCat, rAppend, rPop, rSetL, tAndV, tOrV, tNotV, tSl, tPart, tNoPart, tM1, gTup, gCons, gNil, cxK, cxnK, List.map_cons, List.map_nil, List.length_cons, List.length_nil, List.replicate, List.cons_append, List.nil_append, List.append_nil, List.set_cons_zero, List.set_cons_succ, List.getElem?_cons_zero, List.getElem?_cons_succ, Option.some.injEq, V.ref.injEq, V.int.injEq, V.str.injEq, V.bl.injEq, V.ty.injEq, exists_eq_left', exists_eq_left, exists_and_left, List.cons.injEq, and_true, true_and, sc_ii, sc_ss, sc_bb, sc_ni, sc_in, sc_is, sc_si, sc_nn, decide_true, decide_false, reduceCtorEq, Bool.false_eq_true, if_true, if_false, ite_true, ite_false, exists_const, eq_self, false_and, and_false, or_false, false_or, exists_false, Evl.rLenS, rSum, wipe, tYes, exists_eq, exists_eq', rIxL, rIxT, rIxS, exists_and_right, gt_iff_lt, not_true_eq_false, not_false_eq_true, Bool.not_true, Bool.not_false, decide_eq_true_eq, Nat.reduceSub, Nat.reduceAdd, List.append_assoc, tChain, tDIn, tDNotIn, sDDel, tAug, ipI, rInt1_int, rInt1_bl]
      refine isi_mk (.bl i) (b := false) (by decide +kernel) ?_
      try simp (maxSteps := 1000000) only [tSeq, tIfS, tTest, tOp, tUn, tCB, tCons, tNil, tVar, tC, rI0, rI, rU, rEq, rNe, tRet, tRetN, tAsg, gName, gSub, tBM, tBM0, tNext, tB, tNot, tAnd, tOr, tIf, tCall, tDrop, tBreak, tCont, L2.start, tDGet, sDPut, tTup, tLst, tDNewK, tRevL, rCat, rAppend, rPop, rSetL, tAndV, tOrV, tNotV, tSl, tPart, tNoPart, tM1, gTup, gCons, gNil, cxK, cxnK, List.map_cons, List.map_nil, List.length_cons, List.length_nil, List.replicate, List.cons_append, List.nil_append, List.append_nil, List.set_cons_zero, List.set_cons_succ, List.getElem?_cons_zero, List.getElem?_cons_succ, Option.some.injEq, V.ref.injEq, V.int.injEq, V.str.injEq, V.bl.injEq, V.ty.injEq, exists_eq_left', exists_eq_left, exists_and_left, List.cons.injEq, and_true, true_and, sc_ii, sc_ss, sc_bb, sc_ni, sc_in, sc_is, sc_si, sc_nn, decide_true, decide_false, reduceCtorEq, Bool.false_eq_true, if_true, if_false, ite_true, ite_false, exists_const, eq_self, false_and, and_false, or_false, false_or, exists_false, Evl.rLenS, rSum, wipe, tYes, exists_eq, exists_eq', rIxL, rIxT, rIxS, exists_and_right, gt_iff_lt, not_true_eq_false, not_false_eq_true, Bool.not_true, Bool.not_false, decide_eq_true_eq, Nat.reduceSub, Nat.reduceAdd, List.append_assoc, tChain, tDIn, tDNotIn, sDDel, tAug, ipI, rInt1_int, rInt1_bl]
      refine isi_mk (.bl i) (b := false) (by decide +kernel) ?_
      try simp (maxSteps := 1000000) only [tSeq, tIfS, tTest, tOp, tUn, tCB, tCons, tNil, tVar, tC, rI0, rI, rU, rEq, rNe, tRet, tRetN, tAsg, gName, gSub, tBM, tBM0, tNext, tB, tNot, tAnd, tOr, tIf, tCall, tDrop, tBreak, tCont, L2.start, tDGet, sDPut, tTup, tLst, tDNewK, tRevL, rCat, rAppend, rPop, rSetL, tAndV, tOrV, tNotV, tSl, tPart, tNoPart, tM1, gTup, gCons, gNil, cxK, cxnK, List.map_cons, List.map_nil, List.length_cons, List.length_nil, List.replicate, List.cons_append, List.nil_append, List.append_nil, List.set_cons_zero, List.set_cons_succ, List.getElem?_cons_zero, List.getElem?_cons_succ, Option.some.injEq, V.ref.injEq, V.int.injEq, V.str.injEq, V.bl.injEq, V.ty.injEq, exists_eq_left', exists_eq_left, exists_and_left, List.cons.injEq, and_true, true_and, sc_ii, sc_ss, sc_bb, sc_ni, sc_in, sc_is, sc_si, sc_nn, decide_true, decide_false, reduceCtorEq, Bool.false_eq_true, if_true, if_false, ite_true, ite_false, exists_const, eq_self, false_and, and_false, or_false, false_or, exists_false, Evl.rLenS, rSum, wipe, tYes, exists_eq, exists_eq', rIxL, rIxT, rIxS, exists_and_right, gt_iff_lt, not_true_eq_false, not_false_eq_true, Bool.not_true, Bool.not_false, decide_eq_true_eq, Nat.reduceSub, Nat.reduceAdd, List.append_assoc, tChain, tDIn, tDNotIn, sDDel, tAug, ipI, rInt1_int, rInt1_bl]
      exact q
    · skip
      refine isi_mk (.str i) (b := false) (by decide +kernel) ?_
      try simp (maxSteps := 1000000) only [tSeq, tIfS, tTest, tOp, tUn, tCB, tCons, tNil, tVar, tC, rI0, rI, rU, rEq, rNe, tRet, tRetN, tAsg, gName, gSub, tBM, tBM0, tNext, tB, tNot, tAnd, tOr, tIf, tCall, tDrop, tBreak, tCont, L2.start, tDGet, sDPut, tTup, tLst, tDNewK, tRevL, rCat, rAppend, rPop, rSetL, tAndV, tOrV, tNotV, tSl, tPart, tNoPart, tM1, gTup, gCons, gNil, cxK, cxnK, List.map_cons, List.map_nil, List.length_cons, List.length_nil, List.replicate, List.cons_append, List.nil_append, List.append_nil, List.set_cons_zero, List.set_cons_succ, List.getElem?_cons_zero, List.getElem?_cons_succ, Option.some.injEq, V.ref.injEq, V.int.injEq, V.str.injEq, V.bl.injEq, V.ty.injEq, exists_eq_left', exists_eq_left, exists_and_left, List.cons.injEq, and_true, true_and, sc_ii, sc_ss, sc_bb, sc_ni, sc_in, sc_is, sc_si, sc_nn, decide_true, decide_false, reduceCtorEq, Bool.false_eq_true, if_true, if_false, ite_true, ite_false, exists_const, eq_self, false_and, and_false, or_false, false_or, exists_false, Evl.rLenS, rSum, wipe, tYes, exists_eq, exists_eq', rIxL, rIxT, rIxS, exists_and_right, gt_iff_lt, not_true_eq_false, not_false_eq_true, Bool.not_true, Bool.not_false, decide_eq_true_eq, Nat.reduceSub, Nat.reduceAdd, List.append_assoc, tChain, tDIn, tDNotIn, sDDel, tAug, ipI, rInt1_int, rInt1_bl]
      refine isi_mk (.str i) (b := false) (by decide +kernel) ?_
      try simp (maxSteps := 1000000) only [tSeq, tIfS, tTest, tOp, tUn, tCB, tCons, tNil, tVar, tC, rI0, rI, rU, rEq, rNe, tRet, tRetN, tAsg, gName, gSub, tBM, tBM0, tNext, tB, tNot, tAnd, tOr, tIf, tCall, tDrop, tBreak, tCont, L2.start, tDGet, sDPut, tTup, tLst, tDNewK, tRevL, rCat, rAppend, rPop, rSetL, tAndV, tOrV, tNotV, tSl, tPart, tNoPart, tM1, gTup, gCons, gNil, cxK, cxnK, List.map_cons, List.map_nil, List.length_cons, List.length_nil, List.replicate, List.cons_append, List.nil_append, List.append_nil, List.set_cons_zero, List.set_cons_succ, List.getElem?_cons_zero, List.getElem?_cons_succ, Option.some.injEq, V.ref.injEq, V.int.injEq, V.str.injEq, V.bl.injEq, V.ty.injEq, exists_eq_left', exists_eq_left, exists_and_left, List.cons.injEq, and_true, true_and, sc_ii, sc_ss, sc_bb, sc_ni, sc_in, sc_is, sc_si, sc_nn, decide_true, decide_false, reduceCtorEq, Bool.false_eq_true, if_true, if_false, ite_true, ite_false, exists_const, eq_self, false_and, and_false, or_false, false_or, exists_false, Evl.rLenS, rSum, wipe, tYes, exists_eq, exists_eq', rIxL, rIxT, rIxS, exists_and_right, gt_iff_lt, not_true_eq_false, not_false_eq_true, Bool.not_true, Bool.not_false, decide_eq_true_eq, Nat.reduceSub, Nat.reduceAdd, List.append_assoc, tChain, tDIn, tDNotIn, sDDel, tAug, ipI, rInt1_int, rInt1_bl]
      refine isi_mk (.str i) (b := false) (by decide +kernel) ?_
      try simp (maxSteps := 1000000) only [tSeq, tIfS, tTest, tOp, tUn, tCB, tCons, tNil, tVar, tC, rI0, rI, rU, rEq, rNe, tRet, tRetN, tAsg, gName, gSub, tBM, tBM0, tNext, tB, tNot, tAnd, tOr, tIf, tCall, tDrop, tBreak, tCont, L2.start, tDGet, sDPut, tTup, tLst, tDNewK, tRevL, rCat, rAppend, rPop, rSetL, tAndV, tOrV, tNotV, tSl, tPart, tNoPart, tM1, gTup, gCons, gNil, cxK, cxnK, List.map_cons, List.map_nil, List.length_cons, List.length_nil, List.replicate, List.cons_append, List.nil_append, List.append_nil, List.set_cons_zero, List.set_cons_succ, List.getElem?_cons_zero, List.getElem?_cons_succ, Option.some.injEq, V.ref.injEq, V.int.injEq, V.str.injEq, V.bl.injEq, V.ty.injEq, exists_eq_left', exists_eq_left, exists_and_left, List.cons.injEq, and_true, true_and, sc_ii, sc_ss, sc_bb, sc_ni, sc_in, sc_is, sc_si, sc_nn, decide_true, decide_false, reduceCtorEq, Bool.false_eq_true, if_true, if_false, ite_true, ite_false, exists_const, eq_self, false_and, and_false, or_false, false_or, exists_false, Evl.rLenS, rSum, wipe, tYes, exists_eq, exists_eq', rIxL, rIxT, rIxS, exists_and_right, gt_iff_lt, not_true_eq_false, not_false_eq_true, Bool.not_true, Bool.not_false, decide_eq_true_eq, Nat.reduceSub, Nat.reduceAdd, List.append_assoc, tChain, tDIn, tDNotIn, sDDel, tAug, ipI, rInt1_int, rInt1_bl]
      refine isi_mk (.str i) (b := false) (by decide +kernel) ?_
      try simp (maxSteps := 1000000) only [tSeq, tIfS, tTest, tOp, tUn, tCB, tCons, tNil, tVar, tC, rI0, rI, rU, rEq, rNe, tRet, tRetN, tAsg, gName, gSub, tBM, tBM0, tNext, tB, tNot, tAnd, tOr, tIf, tCall, tDrop, tBreak, tCont, L2.start, tDGet, sDPut, tTup, tLst, tDNewK, tRevL, rCat, rAppend, rPop, rSetL, tAndV, tOrV, tNotV, tSl, tPart, tNoPart, tM1, gTup, gCons, gNil, cxK, cxnK, List.map_cons, List.map_nil, List.length_cons, List.length_nil, List.replicate, List.cons_append, List.nil_append, List.append_nil, List.set_cons_zero, List.set_cons_succ, List.getElem?_cons_zero, List.getElem?_cons_succ, Option.some.injEq, V.ref.injEq, V.int.injEq, V.str.injEq, V.bl.injEq, V.ty.injEq, exists_eq_left', exists_eq_left, exists_and_left, List.cons.injEq, and_true, true_and, sc_ii, sc_ss, sc_bb, sc_ni, sc_in, sc_is, sc_si, sc_nn, decide_true, decide_false, reduceCtorEq, Bool.false_eq_true, if_true, if_false, ite_true, ite_false, exists_const, eq_self, false_and, and_false, or_false, false_or, exists_false, Evl.rLenS, rSum, wipe, tYes, exists_eq, exists_eq', rIxL, rIxT, rIxS, exists_and_right, gt_iff_lt, not_true_eq_false, not_false_eq_true, Bool.not_true, Bool.not_false, decide_eq_true_eq, Nat.reduceSub, Nat.reduceAdd, List.append_assoc, tChain, tDIn, tDNotIn, sDDel, tAug, ipI, rInt1_int, rInt1_bl]
      refine isi_mk (.str i) (b := false) (by decide +kernel) ?_
      try simp (maxSteps := 1000000) only [tSeq, tIfS, tTest, tOp, tUn, tCB, tCons, tNil, tVar, tC, rI0, rI, rU, rEq, rNe, tRet, tRetN, tAsg, gName, gSub, tBM, tBM0, tNext, tB, tNot, tAnd, tOr, tIf, tCall, tDrop, tBreak, tCont, L2.start, tDGet, sDPut, tTup, tLst, tDNewK, tRevL, rCat, rAppend, rPop, rSetL, tAndV, tOrV, tNotV, tSl, tPart, tNoPart, tM1, gTup, gCons, gNil, cxK, cxnK, List.map_cons, List.map_nil, List.length_cons, List.length_nil, List.replicate, List.cons_append, List.nil_append, List.append_nil, List.set_cons_zero, List.set_cons_succ, List.getElem?_cons_zero, List.getElem?_cons_succ, Option.some.injEq, V.ref.injEq, V.int.injEq, V.str.injEq, V.bl.injEq, V.ty.injEq, exists_eq_left', exists_eq_left, exists_and_left, List.cons.injEq, and_true, true_and, sc_ii, sc_ss, sc_bb, sc_ni, sc_in, sc_is, sc_si, sc_nn, decide_true, decide_false, reduceCtorEq, Bool.false_eq_true, if_true, if_false, ite_true, ite_false, exists_const, eq_self, false_and, and_false, or_false, false_or, exists_false, Evl.rLenS, rSum, wipe, tYes, exists_eq, exists_eq', rIxL, rIxT, rIxS, exists_and_right, gt_iff_lt, not_true_eq_false, not_false_eq_true, Bool.not_true, Bool.not_false, decide_eq_true_eq, Nat.reduceSub, Nat.reduceAdd, List.append_assoc, tChain, tDIn, tDNotIn, sDDel, tAug, ipI, rInt1_int, rInt1_bl]
      refine isi_mk (.str i) (b := false) (by decide +kernel) ?_
      try simp (maxSteps := 1000000) only [tSeq, tIfS, tTest, tOp, tUn, tCB, tCons, tNil, tVar, tC, rI0, rI, rU, rEq, rNe, tRet, tRetN, tAsg, gName, gSub, tBM, tBM0, tNext, tB, tNot, tAnd, tOr, tIf, tCall, tDrop, tBreak, tCont, L2.start, tDGet, sDPut, tTup, tLst, tDNewK, tRevL, rCat, rAppend, rPop, rSetL, tAndV, tOrV, tNotV, tSl, tPart, tNoPart, tM1, gTup, gCons, gNil, cxK, cxnK, List.map_cons, List.map_nil, List.length_cons, List.length_nil, List.replicate, List.cons_append, List.nil_append, List.append_nil, List.set_cons_zero, List.set_cons_succ, List.getElem?_cons_zero, List.getElem?_cons_succ, Option.some.injEq, V.ref.injEq, V.int.injEq, V.str.injEq, V.bl.injEq, V.ty.injEq, exists_eq_left', exists_eq_left, exists_and_left, List.cons.injEq, and_true, true_and, sc_ii, sc_ss, sc_bb, sc_ni, sc_in, sc_is, sc_si, sc_nn, decide_true, decide_false, reduceCtorEq, Bool.false_eq_true, if_true, if_false, ite_true, ite_false, exists_const, eq_self, false_and, and_false, or_false, false_or, exists_false, Evl.rLenS, rSum, wipe, tYes, exists_eq, exists_eq', rIxL, rIxT, rIxS, exists_and_right, gt_iff_lt, not_true_eq_false, not_false_eq_true, Bool.not_true, Bool.not_false, decide_eq_true_eq, Nat.reduceSub, Nat.reduceAdd, List.append_assoc, tChain, tDIn, tDNotIn, sDDel, tAug, ipI, rInt1_int, rInt1_bl]
      refine isi_mk (.str i) (b := true) (by decide +kernel) ?_
      try simp (maxSteps := 1000000) only [tSeq, tIfS, tTest, tOp, tUn, tCB, tCons, tNil, tVar, tC, rI0, rI, rU, rEq, rNe, tRet, tRetN, tAsg, gName, gSub, tBM, tBM0, tNext, tB, tNot, tAnd, tOr, tIf, tCall, tDrop, tBreak, tCont, L2.start, tDGet, sDPut, tTup, tLst, tDNewK, tRevL, rCat, rAppend, rPop, rSetL, tAndV, tOrV, tNotV, tSl, tPart, tNoPart, tM1, gTup, gCons, gNil, cxK, cxnK, List.map_cons, List.map_nil, List.length_cons, List.length_nil, List.replicate, List.cons_append, List.nil_append, List.append_nil, List.set_cons_zero, List.set_cons_succ, List.getElem?_cons_zero, List.getElem?_cons_succ, Option.some.injEq, V.ref.injEq, V.int.injEq, V.str.injEq, V.bl.injEq, V.ty.injEq, exists_eq_left', exists_eq_left, exists_and_left, List.cons.injEq, and_true, true_and, sc_ii, sc_ss, sc_bb, sc_ni, sc_in, sc_is, sc_si, sc_nn, decide_true, decide_false, reduceCtorEq, Bool.false_eq_true, if_true, if_false, ite_true, ite_false, exists_const, eq_self, false_and, and_false, or_false, false_or, exists_false, Evl.rLenS, rSum, wipe, tYes, exists_eq, exists_eq', rIxL, rIxT, rIxS, exists_and_right, gt_iff_lt, not_true_eq_false, not_false_eq_true, Bool.not_true, Bool.not_false, decide_eq_true_eq, Nat.reduceSub, Nat.reduceAdd, List.append_assoc, tChain, tDIn, tDNotIn, sDDel, tAug, ipI, rInt1_int, rInt1_bl]
      refine isi_mk (.str i) (b := true) (by decide +kernel) ?_
      try simp (maxSteps := 1000000) only [tSeq, tIfS, tTest, tOp, tUn, tCB, tCons, tNil, tVar, tC, rI0, rI, rU, rEq, rNe, tRet, tRetN, tAsg, gName, gSub, tBM, tBM0, tNext, tB, tNot, tAnd, tOr, tIf, tCall, tDrop, tBreak, tCont, L2.start, tDGet, sDPut, tTup, tLst, tDNewK, tRevL, rCat, rAppend, rPop, rSetL, tAndV, tOrV, tNotV, tSl, tPart, tNoPart, tM1, gTup, gCons, gNil, cxK, cxnK, List.map_cons, List.map_nil, List.length_cons, List.length_nil, List.replicate, List.cons_append, List.nil_append, List.append_nil, List.set_cons_zero, List.set_cons_succ, List.getElem?_cons_zero, List.getElem?_cons_succ, Option.some.injEq, V.ref.injEq, V.int.injEq, V.str.injEq, V.bl.injEq, V.ty.injEq, exists_eq_left', exists_eq_left, exists_and_left, List.cons.injEq, and_true, true_and, sc_ii, sc_ss, sc_bb, sc_ni, sc_in, sc_is, sc_si, sc_nn, decide_true, decide_false, reduceCtorEq, Bool.false_eq_true, if_true, if_false, ite_true, ite_false, exists_const, eq_self, false_and, and_false, or_false, false_or, exists_false, Evl.rLenS, rSum, wipe, tYes, exists_eq, exists_eq', rIxL, rIxT, rIxS, exists_and_right, gt_iff_lt, not_true_eq_false, not_false_eq_true, Bool.not_true, Bool.not_false, decide_eq_true_eq, Nat.reduceSub, Nat.reduceAdd, List.append_assoc, tChain, tDIn, tDNotIn, sDDel, tAug, ipI, rInt1_int, rInt1_bl]
      exact q
end
/-! ### when rows are the same -/
theorem TD.same {H : Hp} {t u : Addr} {d : Dd} (h : TD H t d) (h' : TD H u d) : SameD 1 H (.ref t) (.ref u) := by
  refine .inr ⟨t, u, _, _, rfl, rfl, .inr ⟨h, h'⟩, rfl, by show 3 ≤ 5000; decide, fun i x y e e' => ?_⟩
  match i, e, e' with
  | 0, e, e' => cases e; cases e'; exact .inl ⟨_, rfl, rfl⟩
  | 1, e, e' => cases e; cases e'; exact .inr (.inr ⟨_, rfl, rfl⟩)
  | 2, e, e' =>
    cases e; cases e'
    cases d.2.2 with
    | inl i => exact .inl ⟨_, rfl, rfl⟩
    | inr z => exact .inr (.inr ⟨_, rfl, rfl⟩)
theorem TM.same {H : Hp} {x y : V} {m : Mv} (h : TM H x m) (h' : TM H y m) : SameD 2 H x y := by
  obtain ⟨a, t, rfl, ha, ht⟩ := h
  obtain ⟨b, u, rfl, hb, hu⟩ := h'
  refine .inr ⟨a, b, _, _, rfl, rfl, .inr ⟨ha, hb⟩, rfl, by show 2 ≤ 5000; decide, fun i x y e e' => ?_⟩
  match i, e, e' with
  | 0, e, e' => cases e; cases e'; exact ht.same hu
  | 1, e, e' => cases e; cases e'; exact .inl (.inl ⟨_, rfl, rfl⟩)
theorem RwAt.same {H : Hp} {x y : V} {ms : List Mv} (h : RwAt H x ms) (h' : RwAt H y ms) (l : ms.length ≤ 1000) : SameD 3 H x y := by
  obtain ⟨a, us, rfl, ha, hu⟩ := h
  obtain ⟨b, vs, rfl, hb, hv⟩ := h'
  refine .inr ⟨a, b, us, vs, rfl, rfl, .inl ⟨ha, hb⟩, by rw [hu.len, hv.len], by rw [hu.len]; omega, fun i x y e e' => ?_⟩
  obtain ⟨m, em, hm⟩ := hu.get e
  obtain ⟨m', em', hm'⟩ := hv.get e'
  rw [em] at em'; cases em'
  exact hm.same hm'
theorem rows_same {H : Hp} {a b : Addr} {us vs : List V} {rows : List (List Mv)} (ha : H a = some (.lst us)) (hb : H b = some (.lst vs)) (hu : Rw (RwAt H) us rows) (hv : Rw (RwAt H) vs rows) (l : rows.length ≤ 1000) (lr : ∀ r ∈ rows, r.length ≤ 1000) : SameD 4 H (.ref a) (.ref b) := by
  refine .inr ⟨a, b, us, vs, rfl, rfl, .inl ⟨ha, hb⟩, by rw [hu.len, hv.len], by rw [hu.len]; omega, fun i x y e e' => ?_⟩
  obtain ⟨m, em, hm⟩ := hu.get e
  obtain ⟨m', em', hm'⟩ := hv.get e'
  rw [em] at em'; cases em'
  exact hm.same hm' (lr m (List.mem_of_getElem? em))
end My

set_option Elab.async false
set_option linter.all false
set_option maxRecDepth 100000
set_option maxHeartbeats 4000000
namespace My
open PySem L2 NdefX
abbrev s_law_cell : Stmt := top 22
theorem sc_law_cell : FnScope ["_law_script", "_law_k", "_law_seed", "_law_one"] ["_law_script", "_law_k"] (defScope s_law_cell) := ⟨rfl, rfl, rfl, by decide +kernel, rfl, by decide +kernel, by decide +kernel⟩
abbrev s_law_draws : Stmt := top 23
theorem sc_law_draws : FnScope ["_law_cell_here", "_law_spans", "_law_left", "_law_out", "_law_k", "_law_one", "_law_two"] ["_law_cell_here", "_law_spans"] (defScope s_law_draws) := ⟨rfl, rfl, rfl, by decide +kernel, rfl, by decide +kernel, by decide +kernel⟩
structure BtG (mg : Str → Option Value) : Prop where
  b_len : mg "len" = none
  b_int : mg "int" = none
  b_abs : mg "abs" = none
  b_range : mg "range" = none
def Scr (K : PySem.W.Frag) (H : Hp) (a : Addr) (ns : List Int) : Prop := SqL K H a (ns.map V.int) ∧ ns.length ≤ 63
theorem Scr.kp {K : PySem.W.Frag} {H H' : Hp} {a : Addr} {ns : List Int} (h : Scr K H a ns) (k : Kp [] H H') : Scr K H' a ns := ⟨k.ls not0 h.1, h.2⟩
section
variable {P : Program} {w : World} {K : PySem.W.Frag} {mg : Str → Option Value} {base : Heap}
def spCell (K : PySem.W.Frag) : Sp := fun vs H Q _ => ∃ (a : Addr) (k : Nat) (ns : List Int), vs = [.ref a, .int (k : Nat)] ∧ Scr K H a ns ∧ k ≤ 1000 ∧ ∀ (r : Int) H', 0 ≤ r → Kp [] H H' → Q (.int r) H'
theorem ok_law_cell {f : Addr} {fd : FuncData} (D : Df K mg "_law_cell" s_law_cell ["_law_script", "_law_k"] f fd) (T : BtG mg) : FnOk P w K mg base CX0 1 f fd ["_law_script", "_law_k"] (spCell K) := by
  refine D.F.ok sc_law_cell (fun vs H Q E h => ?_) (fun cdv A outer s H vs Q E hr h => ?_)
  · obtain ⟨_, _, _, rfl, _⟩ := h
    rfl
  · obtain ⟨a, k, ns, rfl, ⟨hS, hl⟩, k1, q⟩ := h
    refine ⟨_, (pss_cons (ps_if (pt_cmpR op_lt (pv 1) (pe_callB (id := "len") (r := Evl.rLenS K) call_len_seq (by rfl) T.b_len PySem.boot_len (pa_cons (pv 0) pa_nil)) (nomark _)) (pss_one (ps_ret (pe_callB (id := "abs") call_abs (by rfl) T.b_abs (by decide +kernel) (pa_cons (pe_callTy (T := "int") (r := rInt1) call_int1 (by rfl) T.b_int (by decide +kernel) (pa_cons (pe_ix (r := rIxL K) ix_list (pv 0) (pv 1) (fun _ _ => rfl)) pa_nil)) pa_nil)))) pss_nil)
      (pss_cons (ps_set (i := 2) sc_law_cell.nd rfl (Or.inl rfl) (pe_op op_add (pe_op op_mul pe_int (pv 1)) (pe_callB (id := "len") (r := Evl.rLenS K) call_len_seq (by rfl) T.b_len PySem.boot_len (pa_cons (pv 0) pa_nil))))
      (pss_cons (ps_for PassesOwn.never rfl (pi_list (pv 0)) (pg_name (i := 3) sc_law_cell.nd rfl (Or.inl rfl)) (pss_one (ps_set (i := 2) sc_law_cell.nd rfl (Or.inl rfl) (pe_op op_mod (pe_callTy (T := "int") (r := rInt1) call_int1 (by rfl) T.b_int (by decide +kernel) (pa_cons (pe_op op_add (pe_op op_mul (pv 2) pe_int) (pe_callB (id := "abs") call_abs (by rfl) T.b_abs (by decide +kernel) (pa_cons (pe_callTy (T := "int") (r := rInt1) call_int1 (by rfl) T.b_int (by decide +kernel) (pa_cons (pv 3) pa_nil)) pa_nil))) pa_nil)) pe_int))))
      (pss_one (ps_ret (pv 2)))))), ?_⟩
    try simp (maxSteps := 1000000) only [tSeq, tIfS, tTest, tOp, tUn, tCB, tCons, tNil, tVar, tC, rI0, rI, rU, rEq, rNe, tRet, tRetN, tAsg, gName, gSub, tBM, tBM0, tNext, tB, tNot, tAnd, tOr, tIf, tCall, tDrop, tBreak, tCont, L2.start, tDGet, sDPut, tTup, tLst, tDNewK, tRevL, rCat, rAppend, rPop, rSetL, tAndV, tOrV, tNotV, tSl, tPart, tNoPart, tM1, gTup, gCons, gNil, cxK, cxnK, List.map_cons, List.map_nil, List.length_cons, List.length_nil, List.replicate, List.cons_append, List.nil_append, List.append_nil, List.set_cons_zero, List.set_cons_succ, List.getElem?_cons_zero, List.getElem?_cons_succ, Option.some.injEq, V.ref.injEq, V.int.injEq, V.str.injEq, V.bl.injEq, V.ty.injEq, exists_eq_left', exists_eq_left, exists_and_left, List.cons.injEq, and_true, true_and, sc_ii, sc_ss, sc_bb, sc_ni, sc_in, sc_is, sc_si, sc_nn, decide_true, decide_false, reduceCtorEq, Bool.false_eq_true, if_true, if_false, ite_true, ite_false, exists_const, eq_self, false_and, and_false, or_false, false_or, exists_false, Evl.rLenS, rSum, wipe, tYes, exists_eq, exists_eq', rIxL, rIxT, rIxS, exists_and_right, gt_iff_lt, not_true_eq_false, not_false_eq_true, Bool.not_true, Bool.not_false, decide_eq_true_eq, Nat.reduceSub, Nat.reduceAdd, List.append_assoc, tChain, tDIn, tDNotIn, sDDel, tAug, ipI, rInt1_int, rInt1_bl]
    have ab : ∀ x : Int, 0 ≤ (if x < 0 then -x else x) := fun x => by split <;> omega
    refine ⟨_, .inl hS, ?_⟩
    rw [List.length_map]
    refine ite2 (fun h1 => ?_) (fun h1 => ?_)
    · obtain ⟨v, hv, ev⟩ := atI_ex (xs := ns.map V.int) (i := (k : Nat)) (by omega) (by rw [List.length_map]; exact h1)
      obtain ⟨x, _, rfl⟩ := List.mem_map.mp hv
      refine ⟨_, hS, _, ev, ?_⟩
      try simp (maxSteps := 1000000) only [tSeq, tIfS, tTest, tOp, tUn, tCB, tCons, tNil, tVar, tC, rI0, rI, rU, rEq, rNe, tRet, tRetN, tAsg, gName, gSub, tBM, tBM0, tNext, tB, tNot, tAnd, tOr, tIf, tCall, tDrop, tBreak, tCont, L2.start, tDGet, sDPut, tTup, tLst, tDNewK, tRevL, rCat, rAppend, rPop, rSetL, tAndV, tOrV, tNotV, tSl, tPart, tNoPart, tM1, gTup, gCons, gNil, cxK, cxnK, List.map_cons, List.map_nil, List.length_cons, List.length_nil, List.replicate, List.cons_append, List.nil_append, List.append_nil, List.set_cons_zero, List.set_cons_succ, List.getElem?_cons_zero, List.getElem?_cons_succ, Option.some.injEq, V.ref.injEq, V.int.injEq, V.str.injEq, V.bl.injEq, V.ty.injEq, exists_eq_left', exists_eq_left, exists_and_left, List.cons.injEq, and_true, true_and, sc_ii, sc_ss, sc_bb, sc_ni, sc_in, sc_is, sc_si, sc_nn, decide_true, decide_false, reduceCtorEq, Bool.false_eq_true, if_true, if_false, ite_true, ite_false, exists_const, eq_self, false_and, and_false, or_false, false_or, exists_false, Evl.rLenS, rSum, wipe, tYes, exists_eq, exists_eq', rIxL, rIxT, rIxS, exists_and_right, gt_iff_lt, not_true_eq_false, not_false_eq_true, Bool.not_true, Bool.not_false, decide_eq_true_eq, Nat.reduceSub, Nat.reduceAdd, List.append_assoc, tChain, tDIn, tDNotIn, sDDel, tAug, ipI, rInt1_int, rInt1_bl]
      exact q _ _ (ab x) (Kp.refl _ _)
    · refine ⟨.inl ⟨by decide, by decide⟩, _, .inl hS, ?_⟩
      refine forL_src ?_
      try simp (maxSteps := 1000000) only [tSeq, tIfS, tTest, tOp, tUn, tCB, tCons, tNil, tVar, tC, rI0, rI, rU, rEq, rNe, tRet, tRetN, tAsg, gName, gSub, tBM, tBM0, tNext, tB, tNot, tAnd, tOr, tIf, tCall, tDrop, tBreak, tCont, L2.start, tDGet, sDPut, tTup, tLst, tDNewK, tRevL, rCat, rAppend, rPop, rSetL, tAndV, tOrV, tNotV, tSl, tPart, tNoPart, tM1, gTup, gCons, gNil, cxK, cxnK, List.map_cons, List.map_nil, List.length_cons, List.length_nil, List.replicate, List.cons_append, List.nil_append, List.append_nil, List.set_cons_zero, List.set_cons_succ, List.getElem?_cons_zero, List.getElem?_cons_succ, Option.some.injEq, V.ref.injEq, V.int.injEq, V.str.injEq, V.bl.injEq, V.ty.injEq, exists_eq_left', exists_eq_left, exists_and_left, List.cons.injEq, and_true, true_and, sc_ii, sc_ss, sc_bb, sc_ni, sc_in, sc_is, sc_si, sc_nn, decide_true, decide_false, reduceCtorEq, Bool.false_eq_true, if_true, if_false, ite_true, ite_false, exists_const, eq_self, false_and, and_false, or_false, false_or, exists_false, Evl.rLenS, rSum, wipe, tYes, exists_eq, exists_eq', rIxL, rIxT, rIxS, exists_and_right, gt_iff_lt, not_true_eq_false, not_false_eq_true, Bool.not_true, Bool.not_false, decide_eq_true_eq, Nat.reduceSub, Nat.reduceAdd, List.append_assoc, tChain, tDIn, tDNotIn, sDDel, tAug, ipI, rInt1_int, rInt1_bl]
      refine forLC (fun i σ H' => ∃ (z : Int) (c : Option V), σ = [some (.ref a), some (.int (k : Nat)), some (.int z), c] ∧ 0 ≤ z ∧ Kp [] H H') hS ⟨_, none, rfl, by omega, Kp.refl _ _⟩ (fun j σ H' _ h => by obtain ⟨_, _, _, _, k⟩ := h; exact k.ls not0 hS) (fun i x σ H' hx h => ?_) fun σ H' h => ?_
      · obtain ⟨z, c, rfl, z0, kp⟩ := h
        obtain ⟨y, ey, rfl⟩ := map_get hx
        try simp (maxSteps := 1000000) only [tSeq, tIfS, tTest, tOp, tUn, tCB, tCons, tNil, tVar, tC, rI0, rI, rU, rEq, rNe, tRet, tRetN, tAsg, gName, gSub, tBM, tBM0, tNext, tB, tNot, tAnd, tOr, tIf, tCall, tDrop, tBreak, tCont, L2.start, tDGet, sDPut, tTup, tLst, tDNewK, tRevL, rCat, rAppend, rPop, rSetL, tAndV, tOrV, tNotV, tSl, tPart, tNoPart, tM1, gTup, gCons, gNil, cxK, cxnK, List.map_cons, List.map_nil, List.length_cons, List.length_nil, List.replicate, List.cons_append, List.nil_append, List.append_nil, List.set_cons_zero, List.set_cons_succ, List.getElem?_cons_zero, List.getElem?_cons_succ, Option.some.injEq, V.ref.injEq, V.int.injEq, V.str.injEq, V.bl.injEq, V.ty.injEq, exists_eq_left', exists_eq_left, exists_and_left, List.cons.injEq, and_true, true_and, sc_ii, sc_ss, sc_bb, sc_ni, sc_in, sc_is, sc_si, sc_nn, decide_true, decide_false, reduceCtorEq, Bool.false_eq_true, if_true, if_false, ite_true, ite_false, exists_const, eq_self, false_and, and_false, or_false, false_or, exists_false, Evl.rLenS, rSum, wipe, tYes, exists_eq, exists_eq', rIxL, rIxT, rIxS, exists_and_right, gt_iff_lt, not_true_eq_false, not_false_eq_true, Bool.not_true, Bool.not_false, decide_eq_true_eq, Nat.reduceSub, Nat.reduceAdd, List.append_assoc, tChain, tDIn, tDNotIn, sDDel, tAug, ipI, rInt1_int, rInt1_bl]
        exact ⟨.inr ⟨by decide, by decide⟩, by decide, Int.emod_nonneg _ (by decide), kp⟩
      · obtain ⟨z, c, rfl, z0, kp⟩ := h
        try simp (maxSteps := 1000000) only [tSeq, tIfS, tTest, tOp, tUn, tCB, tCons, tNil, tVar, tC, rI0, rI, rU, rEq, rNe, tRet, tRetN, tAsg, gName, gSub, tBM, tBM0, tNext, tB, tNot, tAnd, tOr, tIf, tCall, tDrop, tBreak, tCont, L2.start, tDGet, sDPut, tTup, tLst, tDNewK, tRevL, rCat, rAppend, rPop, rSetL, tAndV, tOrV, tNotV, tSl, tPart, tNoPart, tM1, gTup, gCons, gNil, cxK, cxnK, List.map_cons, List.map_nil, List.length_cons, List.length_nil, List.replicate, List.cons_append, List.nil_append, List.append_nil, List.set_cons_zero, List.set_cons_succ, List.getElem?_cons_zero, List.getElem?_cons_succ, Option.some.injEq, V.ref.injEq, V.int.injEq, V.str.injEq, V.bl.injEq, V.ty.injEq, exists_eq_left', exists_eq_left, exists_and_left, List.cons.injEq, and_true, true_and, sc_ii, sc_ss, sc_bb, sc_ni, sc_in, sc_is, sc_si, sc_nn, decide_true, decide_false, reduceCtorEq, Bool.false_eq_true, if_true, if_false, ite_true, ite_false, exists_const, eq_self, false_and, and_false, or_false, false_or, exists_false, Evl.rLenS, rSum, wipe, tYes, exists_eq, exists_eq', rIxL, rIxT, rIxS, exists_and_right, gt_iff_lt, not_true_eq_false, not_false_eq_true, Bool.not_true, Bool.not_false, decide_eq_true_eq, Nat.reduceSub, Nat.reduceAdd, List.append_assoc, tChain, tDIn, tDNotIn, sDDel, tAug, ipI, rInt1_int, rInt1_bl]
        exact q z H' z0 kp
def spDraws (K : PySem.W.Frag) : Sp := fun vs H Q _ => ∃ (c : Int) (a : Addr) (ss : List Int), vs = [.int c, .ref a] ∧ 0 ≤ c ∧ SqL K H a (ss.map V.int) ∧ ss.length ≤ 100 ∧ (∀ x ∈ ss, 0 < x ∧ x < 1000000) ∧ ∀ (ds : List Int) (l : Addr) H', H l = none → H' l = some (.lst (ds.map V.int)) → ds.length = ss.length → (∀ (i : Nat) (d s : Int), ds[i]? = some d → ss[i]? = some s → 0 ≤ d ∧ d < s) → Kp [] H H' → Q (.ref l) H'
theorem ok_law_draws {f : Addr} {fd : FuncData} (D : Df K mg "_law_draws" s_law_draws ["_law_cell_here", "_law_spans"] f fd) (T : BtG mg) : FnOk P w K mg base CX0 1 f fd ["_law_cell_here", "_law_spans"] (spDraws K) := by
  refine D.F.ok sc_law_draws (fun vs H Q E h => ?_) (fun cdv A outer s H vs Q E hr h => ?_)
  · obtain ⟨_, _, _, rfl, _⟩ := h
    rfl
  · obtain ⟨c, a, ss, rfl, c0, hS, sl, sp, q⟩ := h
    obtain ⟨t, ht, hq⟩ : ∃ t, PSs (cxOf CX0 P w K mg base ["_law_cell_here", "_law_spans", "_law_left", "_law_out", "_law_k", "_law_one", "_law_two"] "_law_draws" (defScope s_law_draws) f cdv A outer s H E).nox ((defBody s_law_draws).drop 2) t ∧ ∀ left : Int, 0 ≤ left → t { nx := fun _ H' => Q .non H', rt := Q } [some (.int c), some (.ref a), some (.int left), none, none, none, none] H := by
      refine ⟨_, (pss_cons (ps_set (i := 3) sc_law_draws.nd rfl (Or.inl rfl) (pe_lst pa_nil))
      (pss_cons (ps_for PassesOwn.never rfl (pi_range1 rfl T.b_range (pa_cons (pe_callB (id := "len") (r := Evl.rLenS K) call_len_seq (by rfl) T.b_len PySem.boot_len (pa_cons (pv 1) pa_nil)) pa_nil)) (pg_name (i := 4) sc_law_draws.nd rfl (Or.inl rfl)) (pss_one (ps_if (pt_cmpR op_gt (pv 2) pe_int (nomark _)) (pss_cons (ps_expr (pe_bm PySem.F.plainAttrs_list PySem.F.slot_list_append PySem.F.type_list_append mt_append (pv 3) (pa_cons (pe_op op_mod (pe_callTy (T := "int") (r := rInt1) call_int1 (by rfl) T.b_int (by decide +kernel) (pa_cons (pv 2) pa_nil)) (pe_ix (r := rIxL K) ix_list (pv 1) (pv 4) (fun _ _ => rfl))) pa_nil)))
      (pss_one (ps_set (i := 2) sc_law_draws.nd rfl (Or.inl rfl) (pe_op op_fdiv (pe_callTy (T := "int") (r := rInt1) call_int1 (by rfl) T.b_int (by decide +kernel) (pa_cons (pv 2) pa_nil)) (pe_ix (r := rIxL K) ix_list (pv 1) (pv 4) (fun _ _ => rfl)))))) (pss_cons (ps_set (i := 5) sc_law_draws.nd rfl (Or.inl rfl) (pe_op op_mod (pe_callTy (T := "int") (r := rInt1) call_int1 (by rfl) T.b_int (by decide +kernel) (pa_cons (pe_op op_add (pe_op op_mul (pv 0) pe_int) (pe_op op_mul (pe_op op_add (pv 4) pe_int) pe_int)) pa_nil)) pe_int))
      (pss_cons (ps_set (i := 6) sc_law_draws.nd rfl (Or.inl rfl) (pe_op op_mod (pe_callTy (T := "int") (r := rInt1) call_int1 (by rfl) T.b_int (by decide +kernel) (pa_cons (pe_op op_add (pe_op op_add (pe_op op_mul (pv 5) (pv 5)) (pe_op op_mul pe_int (pv 4))) (pv 0)) pa_nil)) pe_int))
      (pss_one (ps_expr (pe_bm PySem.F.plainAttrs_list PySem.F.slot_list_append PySem.F.type_list_append mt_append (pv 3) (pa_cons (pe_op op_mod (pe_op op_mod (pe_callTy (T := "int") (r := rInt1) call_int1 (by rfl) T.b_int (by decide +kernel) (pa_cons (pe_op op_add (pe_op op_mul (pv 6) (pv 6)) (pv 5)) pa_nil)) pe_int) (pe_ix (r := rIxL K) ix_list (pv 1) (pv 4) (fun _ _ => rfl))) pa_nil)))))))))
      (pss_one (ps_ret (pv 3))))), ?_⟩
      intro left l0
      try simp (maxSteps := 1000000) only [tSeq, tIfS, tTest, tOp, tUn, tCB, tCons, tNil, tVar, tC, rI0, rI, rU, rEq, rNe, tRet, tRetN, tAsg, gName, gSub, tBM, tBM0, tNext, tB, tNot, tAnd, tOr, tIf, tCall, tDrop, tBreak, tCont, L2.start, tDGet, sDPut, tTup, tLst, tDNewK, tRevL, rCat, rAppend, rPop, rSetL, tAndV, tOrV, tNotV, tSl, tPart, tNoPart, tM1, gTup, gCons, gNil, cxK, cxnK, List.map_cons, List.map_nil, List.length_cons, List.length_nil, List.replicate, List.cons_append, List.nil_append, List.append_nil, List.set_cons_zero, List.set_cons_succ, List.getElem?_cons_zero, List.getElem?_cons_succ, Option.some.injEq, V.ref.injEq, V.int.injEq, V.str.injEq, V.bl.injEq, V.ty.injEq, exists_eq_left', exists_eq_left, exists_and_left, List.cons.injEq, and_true, true_and, sc_ii, sc_ss, sc_bb, sc_ni, sc_in, sc_is, sc_si, sc_nn, decide_true, decide_false, reduceCtorEq, Bool.false_eq_true, if_true, if_false, ite_true, ite_false, exists_const, eq_self, false_and, and_false, or_false, false_or, exists_false, Evl.rLenS, rSum, wipe, tYes, exists_eq, exists_eq', rIxL, rIxT, rIxS, exists_and_right, gt_iff_lt, not_true_eq_false, not_false_eq_true, Bool.not_true, Bool.not_false, decide_eq_true_eq, Nat.reduceSub, Nat.reduceAdd, List.append_assoc, tChain, tDIn, tDNotIn, sDDel, tAug, ipI, rInt1_int, rInt1_bl]
      refine ⟨Nat.zero_le _, fun p np => ?_⟩
      refine forN ss.length (by omega) (fun j σ H' => ∃ (lf : Int) (ds : List Int) (c4 c5 c6 : Option V), σ = [some (.int c), some (.ref a), some (.int lf), some (.ref p), c4, c5, c6] ∧ 0 ≤ lf ∧ H' p = some (.lst (ds.map V.int)) ∧ ds.length = j ∧ (∀ (i : Nat) (d s : Int), ds[i]? = some d → ss[i]? = some s → 0 ≤ d ∧ d < s) ∧ Kp [] H H') (fun R r => ?_) ⟨left, [], none, none, none, rfl, l0, upd_same, rfl, fun i d s h => (nomatch h), Kp.new np⟩ (fun j σ H' hj h => ?_) fun σ H' h => ?_
      · try simp (maxSteps := 1000000) only [tSeq, tIfS, tTest, tOp, tUn, tCB, tCons, tNil, tVar, tC, rI0, rI, rU, rEq, rNe, tRet, tRetN, tAsg, gName, gSub, tBM, tBM0, tNext, tB, tNot, tAnd, tOr, tIf, tCall, tDrop, tBreak, tCont, L2.start, tDGet, sDPut, tTup, tLst, tDNewK, tRevL, rCat, rAppend, rPop, rSetL, tAndV, tOrV, tNotV, tSl, tPart, tNoPart, tM1, gTup, gCons, gNil, cxK, cxnK, List.map_cons, List.map_nil, List.length_cons, List.length_nil, List.replicate, List.cons_append, List.nil_append, List.append_nil, List.set_cons_zero, List.set_cons_succ, List.getElem?_cons_zero, List.getElem?_cons_succ, Option.some.injEq, V.ref.injEq, V.int.injEq, V.str.injEq, V.bl.injEq, V.ty.injEq, exists_eq_left', exists_eq_left, exists_and_left, List.cons.injEq, and_true, true_and, sc_ii, sc_ss, sc_bb, sc_ni, sc_in, sc_is, sc_si, sc_nn, decide_true, decide_false, reduceCtorEq, Bool.false_eq_true, if_true, if_false, ite_true, ite_false, exists_const, eq_self, false_and, and_false, or_false, false_or, exists_false, Evl.rLenS, rSum, wipe, tYes, exists_eq, exists_eq', rIxL, rIxT, rIxS, exists_and_right, gt_iff_lt, not_true_eq_false, not_false_eq_true, Bool.not_true, Bool.not_false, decide_eq_true_eq, Nat.reduceSub, Nat.reduceAdd, List.append_assoc, tChain, tDIn, tDNotIn, sDDel, tAug, ipI, rInt1_int, rInt1_bl]
        refine ⟨_, .inl ((Kp.new np : Kp [] H _).ls not0 hS), ?_⟩
        rw [List.length_map]
        exact r
      · obtain ⟨lf, ds, c4, c5, c6, rfl, lf0, hp, dl, hd, kp⟩ := h
        have hS' := kp.ls not0 hS
        have es : ss[j]? = some ss[j] := List.getElem?_eq_getElem hj
        have sp0 := sp ss[j] (List.getElem_mem hj)
        generalize ss[j] = sj at es sp0
        have ej : atI (ss.map V.int) ((j : Nat) : Int) = some (.int sj) := atI_of (by omega) (by rw [List.getElem?_map]; simp [es])
        have put : ∀ z : Int, 0 ≤ z → z < sj → H' p = some (.lst (ds.map V.int)) ∧ (ds.map V.int).length < sizeLine ∧ (upd H' p (.lst (ds.map V.int ++ [V.int z]))) p = some (.lst ((ds ++ [z]).map V.int)) ∧ (ds ++ [z]).length = j + 1 ∧ (∀ (i : Nat) (d s : Int), (ds ++ [z])[i]? = some d → ss[i]? = some s → 0 ≤ d ∧ d < s) ∧ Kp [] H (upd H' p (.lst (ds.map V.int ++ [V.int z]))) := fun z z0 z1 => by
          refine ⟨hp, by rw [List.length_map]; exact smallL (by omega), by rw [upd_same, List.map_append]; rfl, by simp [dl], fun i d s e1 e2 => ?_, kp.wr np⟩
          by_cases hi : i < ds.length
          · rw [List.getElem?_append_left hi] at e1
            exact hd i d s e1 e2
          · rw [List.getElem?_append_right (by omega)] at e1
            have : i - ds.length = 0 := by
              have := (List.getElem?_eq_some_iff.mp e1).1
              simp at this; omega
            rw [this] at e1
            cases e1
            have : i = j := by omega
            subst this
            rw [es] at e2; cases e2
            exact ⟨z0, z1⟩
        have lt : tyV K "list" (V.ref p) H' := .inl ⟨rfl, _, sq_l hp⟩
        have md : ∀ z : Int, 0 ≤ z % sj ∧ z % sj < sj := fun z => ⟨Int.emod_nonneg _ (by omega), Int.emod_lt_of_pos _ sp0.1⟩
        try simp (maxSteps := 1000000) only [tSeq, tIfS, tTest, tOp, tUn, tCB, tCons, tNil, tVar, tC, rI0, rI, rU, rEq, rNe, tRet, tRetN, tAsg, gName, gSub, tBM, tBM0, tNext, tB, tNot, tAnd, tOr, tIf, tCall, tDrop, tBreak, tCont, L2.start, tDGet, sDPut, tTup, tLst, tDNewK, tRevL, rCat, rAppend, rPop, rSetL, tAndV, tOrV, tNotV, tSl, tPart, tNoPart, tM1, gTup, gCons, gNil, cxK, cxnK, List.map_cons, List.map_nil, List.length_cons, List.length_nil, List.replicate, List.cons_append, List.nil_append, List.append_nil, List.set_cons_zero, List.set_cons_succ, List.getElem?_cons_zero, List.getElem?_cons_succ, Option.some.injEq, V.ref.injEq, V.int.injEq, V.str.injEq, V.bl.injEq, V.ty.injEq, exists_eq_left', exists_eq_left, exists_and_left, List.cons.injEq, and_true, true_and, sc_ii, sc_ss, sc_bb, sc_ni, sc_in, sc_is, sc_si, sc_nn, decide_true, decide_false, reduceCtorEq, Bool.false_eq_true, if_true, if_false, ite_true, ite_false, exists_const, eq_self, false_and, and_false, or_false, false_or, exists_false, Evl.rLenS, rSum, wipe, tYes, exists_eq, exists_eq', rIxL, rIxT, rIxS, exists_and_right, gt_iff_lt, not_true_eq_false, not_false_eq_true, Bool.not_true, Bool.not_false, decide_eq_true_eq, Nat.reduceSub, Nat.reduceAdd, List.append_assoc, tChain, tDIn, tDNotIn, sDDel, tAug, ipI, rInt1_int, rInt1_bl]
        refine ite2 (fun h1 => ?_) (fun h1 => ?_)
        · obtain ⟨w1, w2, w3⟩ := put (lf % sj) (md _).1 (md _).2
          exact ⟨lt, _, hS', _, ej, sj, rfl, sp0.1, _, w1, w2, _, (kp.wr np).ls not0 hS, _, ej, sj, rfl, ⟨sp0.1, by omega⟩, Int.ediv_nonneg lf0 (by omega), ds ++ [lf % sj], w3⟩
        · have m1 := Int.emod_nonneg (c * 48271 + (↑j + 1) * 69621) (show (2147483647 : Int) ≠ 0 by decide)
          have m2 := Int.emod_lt_of_pos (c * 48271 + (↑j + 1) * 69621) (show (0 : Int) < 2147483647 by decide)
          generalize (c * 48271 + (↑j + 1) * 69621) % 2147483647 = r1 at m1 m2 ⊢
          have n1 := Int.emod_nonneg (r1 * r1 + 7919 * ↑j + c) (show (1000003 : Int) ≠ 0 by decide)
          have n2 := Int.emod_lt_of_pos (r1 * r1 + 7919 * ↑j + c) (show (0 : Int) < 1000003 by decide)
          generalize (r1 * r1 + 7919 * ↑j + c) % 1000003 = r2 at n1 n2 ⊢
          obtain ⟨w1, w2, w3⟩ := put ((r2 * r2 + r1) % 999983 % sj) (md _).1 (md _).2
          exact ⟨.inr ⟨by decide, by decide⟩, .inr ⟨by decide, by decide⟩, by decide, .inl ⟨by omega, by omega⟩, .inl ⟨by decide, by decide⟩, by decide, lt, .inl ⟨by omega, by omega⟩, by decide, _, hS', _, ej, sj, rfl, sp0.1, _, w1, w2, lf0, ds ++ [(r2 * r2 + r1) % 999983 % sj], w3⟩
      · obtain ⟨lf, ds, c4, c5, c6, rfl, lf0, hp, dl, hd, kp⟩ := h
        try simp (maxSteps := 1000000) only [tSeq, tIfS, tTest, tOp, tUn, tCB, tCons, tNil, tVar, tC, rI0, rI, rU, rEq, rNe, tRet, tRetN, tAsg, gName, gSub, tBM, tBM0, tNext, tB, tNot, tAnd, tOr, tIf, tCall, tDrop, tBreak, tCont, L2.start, tDGet, sDPut, tTup, tLst, tDNewK, tRevL, rCat, rAppend, rPop, rSetL, tAndV, tOrV, tNotV, tSl, tPart, tNoPart, tM1, gTup, gCons, gNil, cxK, cxnK, List.map_cons, List.map_nil, List.length_cons, List.length_nil, List.replicate, List.cons_append, List.nil_append, List.append_nil, List.set_cons_zero, List.set_cons_succ, List.getElem?_cons_zero, List.getElem?_cons_succ, Option.some.injEq, V.ref.injEq, V.int.injEq, V.str.injEq, V.bl.injEq, V.ty.injEq, exists_eq_left', exists_eq_left, exists_and_left, List.cons.injEq, and_true, true_and, sc_ii, sc_ss, sc_bb, sc_ni, sc_in, sc_is, sc_si, sc_nn, decide_true, decide_false, reduceCtorEq, Bool.false_eq_true, if_true, if_false, ite_true, ite_false, exists_const, eq_self, false_and, and_false, or_false, false_or, exists_false, Evl.rLenS, rSum, wipe, tYes, exists_eq, exists_eq', rIxL, rIxT, rIxS, exists_and_right, gt_iff_lt, not_true_eq_false, not_false_eq_true, Bool.not_true, Bool.not_false, decide_eq_true_eq, Nat.reduceSub, Nat.reduceAdd, List.append_assoc, tChain, tDIn, tDNotIn, sDDel, tAug, ipI, rInt1_int, rInt1_bl]
        exact q ds p H' np hp dl hd kp
    refine ⟨_, (pss_cons (ps_set (i := 2) sc_law_draws.nd rfl (Or.inl rfl) pe_int)
      (pss_cons (ps_if (pt_cmpR op_ge (pv 0) (pe_op op_pow pe_int pe_int) (nomark _)) (pss_one (ps_set (i := 2) sc_law_draws.nd rfl (Or.inl rfl) (pv 0))) pss_nil)
      ht)), ?_⟩
    try simp (maxSteps := 1000000) only [tSeq, tIfS, tTest, tOp, tUn, tCB, tCons, tNil, tVar, tC, rI0, rI, rU, rEq, rNe, tRet, tRetN, tAsg, gName, gSub, tBM, tBM0, tNext, tB, tNot, tAnd, tOr, tIf, tCall, tDrop, tBreak, tCont, L2.start, tDGet, sDPut, tTup, tLst, tDNewK, tRevL, rCat, rAppend, rPop, rSetL, tAndV, tOrV, tNotV, tSl, tPart, tNoPart, tM1, gTup, gCons, gNil, cxK, cxnK, List.map_cons, List.map_nil, List.length_cons, List.length_nil, List.replicate, List.cons_append, List.nil_append, List.append_nil, List.set_cons_zero, List.set_cons_succ, List.getElem?_cons_zero, List.getElem?_cons_succ, Option.some.injEq, V.ref.injEq, V.int.injEq, V.str.injEq, V.bl.injEq, V.ty.injEq, exists_eq_left', exists_eq_left, exists_and_left, List.cons.injEq, and_true, true_and, sc_ii, sc_ss, sc_bb, sc_ni, sc_in, sc_is, sc_si, sc_nn, decide_true, decide_false, reduceCtorEq, Bool.false_eq_true, if_true, if_false, ite_true, ite_false, exists_const, eq_self, false_and, and_false, or_false, false_or, exists_false, Evl.rLenS, rSum, wipe, tYes, exists_eq, exists_eq', rIxL, rIxT, rIxS, exists_and_right, gt_iff_lt, not_true_eq_false, not_false_eq_true, Bool.not_true, Bool.not_false, decide_eq_true_eq, Nat.reduceSub, Nat.reduceAdd, List.append_assoc, tChain, tDIn, tDNotIn, sDDel, tAug, ipI, rInt1_int, rInt1_bl]
    refine ⟨⟨by decide, by decide, by decide⟩, ite2 (fun _ => hq c c0) (fun _ => hq 0 (Int.le_refl 0))⟩
end
end My

set_option Elab.async false
set_option linter.all false
set_option maxRecDepth 100000
set_option maxHeartbeats 4000000
namespace My
open PySem L2 NdefX
abbrev s_law_menu : Stmt := top 24
theorem sc_law_menu : FnScope ["_law_cell_here", "_law_many", "_law_letters", "_law_words", "_law_spans", "_law_k", "_law_draws_here", "_law_menu_here", "_law_what", "_law_name", "_law_j", "_law_deed"] ["_law_cell_here", "_law_many"] (defScope s_law_menu) := ⟨rfl, rfl, rfl, by decide +kernel, rfl, by decide +kernel, by decide +kernel⟩
theorem shapedL {ds : List PyData} (h : ∀ d ∈ ds, SeqAt.shaped d = true ∧ d.depth ≤ 60) : SeqAt.shaped (.list ds) = true ∧ SeqAt.shaped (.tuple ds) = true := by
  have a1 : PyData.canLayAll0 ds = true := by
    induction ds with
    | nil => rfl
    | cons d r ih =>
      have h1 := h d List.mem_cons_self
      show (PyData.canLay0 d && PyData.canLayAll0 r) = true
      rw [SeqAt.canLay_of_shaped h1.1, ih fun x hx => h x (List.mem_cons_of_mem _ hx)]; rfl
  have a2 : PyData.depthAll ds ≤ 60 := by
    clear a1
    induction ds with
    | nil => exact Nat.zero_le _
    | cons d r ih =>
      have h1 := h d List.mem_cons_self
      have h2 := ih fun x hx => h x (List.mem_cons_of_mem _ hx)
      show max d.depth (PyData.depthAll r) ≤ 60
      omega
  have b1 : decide (PyData.depthAll ds + 1 ≤ 64) = true := decide_eq_true (by omega)
  constructor
  · show (PyData.canLayAll0 ds && decide (PyData.depthAll ds + 1 ≤ 64)) = true
    rw [a1, b1]; rfl
  · show (PyData.canLayAll0 ds && decide (PyData.depthAll ds + 1 ≤ 64)) = true
    rw [a1, b1]; rfl
/-- data that may stand in a row -/
theorem shDd {d : Dd} (h : GoodDd d) : SeqAt.shaped (ddD d) = true ∧ (ddD d).depth ≤ 60 := by
  have c := (MvOk.of (m := (d, 0)) (n := 1) h ⟨Int.le_refl 0, Int.zero_lt_one⟩).2.2.2
  have e : (ddD d).depth ≤ 1 := by
    obtain ⟨a, b, k⟩ := d
    cases k <;> exact Nat.le_refl _
  refine ⟨?_, by omega⟩
  unfold SeqAt.shaped
  rw [show PyData.canLay0 (ddD d) = true from c, decide_eq_true (by omega)]; rfl
theorem shDds {ds : List Dd} (h : ∀ d ∈ ds, GoodDd d) : SeqAt.shaped (.list (ds.map ddD)) = true := (shapedL fun x hx => by
  obtain ⟨d, hd, rfl⟩ := List.mem_map.mp hx
  exact shDd (h d hd)).1
def hasD (ds : List Dd) (d : Dd) : Bool := ds.any fun x => decide (x = d)
theorem hasD_iff {ds : List Dd} {d : Dd} : hasD ds d = true ↔ d ∈ ds := by
  unfold hasD
  rw [List.any_eq_true]
  exact ⟨fun ⟨x, hx, e⟩ => of_decide_eq_true e ▸ hx, fun h => ⟨d, h, decide_eq_true rfl⟩⟩
theorem anyDd {ds : List Dd} {d : Dd} : ((ds.map ddD).any fun z => PyData.eqv z (ddD d)) = hasD ds d := by
  rw [List.any_map]
  unfold hasD
  congr 1
  funext x
  exact eqvDd x d
def TDv (H : Hp) (v : V) (d : Dd) : Prop := ∃ t, v = .ref t ∧ TD H t d
theorem TDv.tp {H H' : Hp} {v : V} {d : Dd} (h : TDv H v d) (t : Tp H H') : TDv H' v d := by
  obtain ⟨a, e, h⟩ := h
  exact ⟨a, e, t _ _ h⟩
theorem TDv.dp {K : PySem.W.Frag} {H : Hp} {v : V} {d : Dd} (h : TDv H v d) : Dp K H v (ddD d) := by
  obtain ⟨a, rfl, h⟩ := h
  exact .tup (sq_t h) (.cons (.int _) (.cons (.str _) (.cons (by cases d.2.2 with | inl i => exact .int i | inr z => exact .str z) .nil)))
theorem rwDp {K : PySem.W.Frag} {H : Hp} : ∀ {ds : List Dd} {us : List V}, Rw (TDv H) us ds → DpAll K H us (ds.map ddD)
  | [], us, h => by rw [h.isNil]; exact .nil
  | d :: ds, us, h => by
    obtain ⟨u, us', rfl, h1, h2⟩ := h.ex
    exact .cons h1.dp (rwDp h2)
structure MenuOk (ds : List Dd) : Prop where
  nd : ds.Nodup
  good : ∀ d ∈ ds, GoodDd d
  lo : 3 ≤ ds.length
  hi : ds.length ≤ 8
  call : ∃ d, ds[0]? = some d ∧ d.2.1 = ("call" : Str)
  ret : ∃ d, ds[2]? = some d ∧ d.2.1 = ("return" : Str)
def spansM : Nat → List Int
  | 0 => []
  | k + 1 => spansM k ++ [3, 10, 5408]
theorem spansM_len : ∀ k, (spansM k).length = 3 * k
  | 0 => rfl
  | k + 1 => by unfold spansM; rw [List.length_append, spansM_len k]; show 3 * k + 3 = _; omega
theorem spansM_at : ∀ {k j : Nat}, j < k → (spansM k)[3 * j]? = some 3 ∧ (spansM k)[3 * j + 1]? = some 10 ∧ (spansM k)[3 * j + 2]? = some 5408
  | k + 1, j, h => by
    unfold spansM
    by_cases e : j = k
    · subst e
      have l := spansM_len j
      refine ⟨?_, ?_, ?_⟩
      · rw [List.getElem?_append_right (by omega), show 3 * j - (spansM j).length = 0 by omega]; rfl
      · rw [List.getElem?_append_right (by omega), show 3 * j + 1 - (spansM j).length = 1 by omega]; rfl
      · rw [List.getElem?_append_right (by omega), show 3 * j + 2 - (spansM j).length = 2 by omega]; rfl
    · have l := spansM_len k
      obtain ⟨a, b, c⟩ := spansM_at (k := k) (j := j) (by omega)
      exact ⟨by rw [List.getElem?_append_left (by omega)]; exact a, by rw [List.getElem?_append_left (by omega)]; exact b, by rw [List.getElem?_append_left (by omega)]; exact c⟩
theorem spansM_pos : ∀ {k : Nat}, ∀ x ∈ spansM k, 0 < x ∧ x < 1000000
  | 0, x, h => nomatch h
  | k + 1, x, h => by
    unfold spansM at h
    rcases List.mem_append.mp h with h | h
    · exact spansM_pos x h
    · simp at h
      rcases h with rfl | rfl | rfl <;> decide
def tx (cs : List Nat) : Str := ⟨cs.toArray⟩
theorem tx_len (cs : List Nat) : (tx cs).length = cs.length := by
  show cs.toArray.size = _
  simp
theorem tx_list (cs : List Nat) : (tx cs).cps.toList = cs := by
  show cs.toArray.toList = cs
  simp
theorem join_ones : ∀ cs : List Nat, Txt.join "" (cs.map fun c => tx [c]) = tx cs := by
  intro cs
  have e := SX.join_S [] (cs.map fun c => [c])
  have e2 : (cs.map fun c => [c]).map SX.S = cs.map fun c => tx [c] := by rw [List.map_map]; rfl
  rw [e2] at e
  have e3 : TL.joinL [] (cs.map fun c => [c]) = cs := by
    clear e e2
    induction cs with
    | nil => rfl
    | cons c r ih =>
      cases r with
      | nil => rfl
      | cons d r =>
        show [c] ++ ([] ++ TL.joinL [] ((d :: r).map fun c => [c])) = c :: d :: r
        rw [ih]; rfl
  rw [e3] at e
  exact e
theorem sum_ones (cs : List Nat) : ((cs.map fun c => tx [c]).map fun x => x.length).sum = cs.length := by
  induction cs with
  | nil => rfl
  | cons c r ih =>
    rw [List.map_cons, List.map_cons, List.sum_cons, ih, List.length_cons]
    show 1 + r.length = r.length + 1
    omega
theorem rwTx {us : List V} {cs : List Nat} (h : Rw (fun v c => v = V.str (tx [c])) us cs) : us = (cs.map fun c => tx [c]).map V.str := by
  rw [List.map_map]
  refine List.ext_getElem? fun i => ?_
  rw [List.getElem?_map]
  cases e : cs[i]? with
  | none =>
    have := List.getElem?_eq_none_iff.mp e
    exact List.getElem?_eq_none_iff.mpr (by rw [h.len]; exact this)
  | some c =>
    obtain ⟨u, eu, hu⟩ := h.at e
    rw [eu, hu]; rfl
theorem name_tx {cs : List Nat} (h1 : 1 ≤ cs.length) (h8 : cs.length ≤ 8) (h : ∀ c ∈ cs, lowC c = true) : nameS (tx cs) = true := by
  unfold nameS
  rw [tx_len, tx_list, decide_eq_true h1, decide_eq_true h8]
  exact List.all_eq_true.mpr h
theorem lets_at : ∀ i : Nat, i < 26 → lets.cps.toList[i]? = some (97 + i) := by decide +kernel
def wordsL : List Str := ["call", "step", "return", "step", "call", "return"]
section
variable {P : Program} {w : World} {K : PySem.W.Frag} {mg : Str → Option Value} {base : Heap}
def spMenu : Sp := fun vs H Q _ => ∃ (c : Int) (m : Nat), vs = [.int c, .int (m : Nat)] ∧ 0 ≤ c ∧ 3 ≤ m ∧ m ≤ 8 ∧ ∀ (l : Addr) (us : List V) (ds : List Dd) H', H l = none → H' l = some (.lst us) → Rw (TDv H') us ds → MenuOk ds → Kp [] H H' → Q (.ref l) H'
structure MnI (k : Nat) (ds : List Dd) : Prop where
  nd : ds.Nodup
  good : ∀ d ∈ ds, GoodDd d
  hi : ds.length ≤ k
  early : k ≤ 3 → ds.length = k
  late : 3 ≤ k → 3 ≤ ds.length
  word : ∀ j : Nat, j < 3 → j < k → ∃ d, ds[j]? = some d ∧ wordsL[j]? = some d.2.1
theorem words_inj (i j : Nat) (hi : i < 3) (hj : j < 3) (h : wordsL[i]? = wordsL[j]?) : i = j := by
  match i, j, hi, hj, h with
  | 0, 0, _, _, _ => rfl
  | 1, 1, _, _, _ => rfl
  | 2, 2, _, _, _ => rfl
  | 0, 1, _, _, h => exact absurd (Option.some.inj h) (by decide +kernel)
  | 0, 2, _, _, h => exact absurd (Option.some.inj h) (by decide +kernel)
  | 1, 0, _, _, h => exact absurd (Option.some.inj h) (by decide +kernel)
  | 1, 2, _, _, h => exact absurd (Option.some.inj h) (by decide +kernel)
  | 2, 0, _, _, h => exact absurd (Option.some.inj h) (by decide +kernel)
  | 2, 1, _, _, h => exact absurd (Option.some.inj h) (by decide +kernel)
theorem words_at : ∀ j : Nat, j < 6 → ∃ wd, wordsL[j]? = some wd ∧ (wd = ("call" : Str) ∨ wd ≠ ("call" : Str) ∧ (wd = ("return" : Str) ∨ wd = ("step" : Str))) := by
  intro j h
  match j, h with
  | 0, _ => exact ⟨_, rfl, .inl rfl⟩
  | 1, _ => exact ⟨_, rfl, .inr ⟨by decide +kernel, .inr rfl⟩⟩
  | 2, _ => exact ⟨_, rfl, .inr ⟨by decide +kernel, .inl rfl⟩⟩
  | 3, _ => exact ⟨_, rfl, .inr ⟨by decide +kernel, .inr rfl⟩⟩
  | 4, _ => exact ⟨_, rfl, .inl rfl⟩
  | 5, _ => exact ⟨_, rfl, .inr ⟨by decide +kernel, .inl rfl⟩⟩
theorem MnI.put {j : Nat} {ds : List Dd} {d : Dd} (h : MnI j ds) (hd : d ∉ ds) (gd : GoodDd d) (hw : j < 3 → wordsL[j]? = some d.2.1) : MnI (j + 1) (ds ++ [d]) := by
  have hl := h.hi
  refine ⟨?_, fun x hx => ?_, by rw [List.length_append, List.length_singleton]; omega, fun e => by rw [List.length_append, List.length_singleton, h.early (by omega)], fun e => ?_, fun i i3 ij => ?_⟩
  · rw [List.nodup_append]
    refine ⟨h.nd, by simp, fun a ha b hb => ?_⟩
    rw [List.mem_singleton.mp hb]
    exact fun z => hd (z ▸ ha)
  · rcases List.mem_append.mp hx with hx | hx
    · exact h.good x hx
    · rw [List.mem_singleton.mp hx]; exact gd
  · rw [List.length_append, List.length_singleton]
    by_cases e3 : 3 ≤ j
    · have := h.late e3; omega
    · have := h.early (by omega); omega
  · by_cases e : i < j
    · obtain ⟨x, ex, wx⟩ := h.word i i3 e
      exact ⟨x, by rw [List.getElem?_append_left (List.getElem?_eq_some_iff.mp ex).1]; exact ex, wx⟩
    · have : i = j := by omega
      subst this
      have := h.early (by omega)
      exact ⟨d, by rw [List.getElem?_append_right (by omega), show i - ds.length = 0 by omega]; rfl, hw i3⟩
theorem MnI.skip {j : Nat} {ds : List Dd} {d : Dd} (h : MnI j ds) (hd : d ∈ ds) (hw : j < 3 → wordsL[j]? = some d.2.1) : MnI (j + 1) ds := by
  have j3 : 3 ≤ j := by
    rcases Nat.lt_or_ge j 3 with j3 | j3
    · exfalso
      obtain ⟨i, hi, ei⟩ := List.mem_iff_getElem.mp hd
      have hl := h.early (by omega)
      obtain ⟨x, ex, wx⟩ := h.word i (by omega) (by omega)
      rw [List.getElem?_eq_getElem hi, ei] at ex
      cases ex
      have := words_inj i j (by omega) j3 (wx.trans (hw j3).symm)
      omega
    · exact j3
  have hl := h.hi
  exact ⟨h.nd, h.good, by omega, fun e => by omega, fun _ => h.late j3, fun i i3 ij => h.word i i3 (by omega)⟩
theorem ok_law_menu {f : Addr} {fd : FuncData} (D : Df K mg "_law_menu" s_law_menu ["_law_cell_here", "_law_many"] f fd) (T : BtG mg) {g1 : Addr} {gd1 : FuncData} (D_law_draws : Df K mg "_law_draws" s_law_draws ["_law_cell_here", "_law_spans"] g1 gd1) (G_law_draws : FnOk P w K mg base CX0 1 g1 gd1 ["_law_cell_here", "_law_spans"] (spDraws K)) : FnOk P w K mg base CX0 2 f fd ["_law_cell_here", "_law_many"] spMenu := by
  refine D.F.ok sc_law_menu (fun vs H Q E h => ?_) (fun cdv A outer s H vs Q E hr h => ?_)
  · obtain ⟨_, _, rfl, _⟩ := h
    rfl
  · obtain ⟨c, m, rfl, c0, m3, m8, q⟩ := h
    refine ⟨_, (pss_cons (ps_set (i := 2) sc_law_menu.nd rfl (Or.inr rfl) pe_str)
      (pss_cons (ps_set (i := 3) sc_law_menu.nd rfl (Or.inl rfl) (pe_lst (pa_cons pe_str (pa_cons pe_str (pa_cons pe_str (pa_cons pe_str (pa_cons pe_str (pa_cons pe_str pa_nil))))))))
      (pss_cons (ps_set (i := 4) sc_law_menu.nd rfl (Or.inl rfl) (pe_lst pa_nil))
      (pss_cons (ps_for PassesOwn.never rfl (pi_range1 rfl T.b_range (pa_cons (pv 1) pa_nil)) (pg_name (i := 5) sc_law_menu.nd rfl (Or.inl rfl)) (pss_one (ps_set (i := 4) sc_law_menu.nd rfl (Or.inl rfl) (pe_op op_cat (pv 4) (pe_lst (pa_cons pe_int (pa_cons pe_int (pa_cons pe_int pa_nil))))))))
      (pss_cons (ps_set (i := 6) sc_law_menu.nd rfl (Or.inl rfl) (pe_call G_law_draws (hr.mono (by decide)) rfl D_law_draws.g D_law_draws.F.kp D_law_draws.b .nil pass0 (pa_cons (pv 0) (pa_cons (pv 4) pa_nil))))
      (pss_cons (ps_set (i := 7) sc_law_menu.nd rfl (Or.inl rfl) (pe_lst pa_nil))
      (pss_cons (ps_for PassesOwn.never rfl (pi_range1 rfl T.b_range (pa_cons (pv 1) pa_nil)) (pg_name (i := 5) sc_law_menu.nd rfl (Or.inl rfl)) (pss_cons (ps_set (i := 8) sc_law_menu.nd rfl (Or.inl rfl) (pe_ix (r := rIxL K) ix_list (pv 6) (pe_op op_add (pe_op op_mul pe_int (pv 5)) pe_int) (fun _ _ => rfl)))
      (pss_cons (ps_if (pt_cmpR op_eq (pe_ix (r := rIxL K) ix_list (pv 3) (pe_op op_mod (pv 5) pe_int) (fun _ _ => rfl)) pe_str (nomark _)) (pss_cons (ps_set (i := 9) sc_law_menu.nd rfl (Or.inr rfl) (pe_ix (r := rIxL K) ix_list (pv 6) (pe_op op_add (pe_op op_mul pe_int (pv 5)) pe_int) (fun _ _ => rfl)))
      (pss_one (ps_set (i := 8) sc_law_menu.nd rfl (Or.inl rfl) (pe_join pe_str (pe_lc (own := [("_law_j", 10)]) (g := (gName 10)) (tt := tYes) rfl sc_law_menu.nd (pi_range1 rfl T.b_range (pa_cons (pe_op op_add pe_int (pe_op op_mod (pe_callTy (T := "int") (r := rInt1) call_int1 (by rfl) T.b_int (by decide +kernel) (pa_cons (pv 9) pa_nil)) pe_int)) pa_nil)) (blkOk_by (N := ["_law_cell_here", "_law_many", "_law_letters", "_law_words", "_law_spans", "_law_k", "_law_draws_here", "_law_menu_here", "_law_what", "_law_name", "_law_j", "_law_deed"]) (sc := defScope s_law_menu) (by decide +kernel)) (fun _ _ _ _ _ => (pg_name (i := 10) sc_law_menu.nd rfl (Or.inl rfl))) (fun _ _ _ _ _ => pts_nil) (fun _ _ _ _ _ => (pe_ix ix_str (pv 2) (pe_op op_mod (pe_callTy (T := "int") (r := rInt1) call_int1 (by rfl) T.b_int (by decide +kernel) (pa_cons (pe_op op_add (pe_op op_fdiv (pv 9) pe_int) (pe_op op_mul (pv 10) (pe_op op_fdiv (pv 9) pe_int))) pa_nil)) pe_int) (fun _ _ => rfl)))))))) pss_nil)
      (pss_cons (ps_set (i := 11) sc_law_menu.nd rfl (Or.inl rfl) (pe_tup (pa_cons (pe_ix (r := rIxL K) ix_list (pv 6) (pe_op op_mul pe_int (pv 5)) (fun _ _ => rfl)) (pa_cons (pe_ix (r := rIxL K) ix_list (pv 3) (pe_op op_mod (pv 5) pe_int) (fun _ _ => rfl)) (pa_cons (pv 8) pa_nil)))))
      (pss_one (ps_if (pt_cmpR (op_notInS (hu5 hr)) (pv 11) (pv 7) (by rfl)) (pss_one (ps_expr (pe_bm PySem.F.plainAttrs_list PySem.F.slot_list_append PySem.F.type_list_append mt_append (pv 7) (pa_cons (pv 11) pa_nil)))) pss_nil))))))
      (pss_one (ps_ret (pv 7)))))))))), ?_⟩
    try simp (maxSteps := 1000000) only [tSeq, tIfS, tTest, tOp, tUn, tCB, tCons, tNil, tVar, tC, rI0, rI, rU, rEq, rNe, tRet, tRetN, tAsg, gName, gSub, tBM, tBM0, tNext, tB, tNot, tAnd, tOr, tIf, tCall, tDrop, tBreak, tCont, L2.start, tDGet, sDPut, tTup, tLst, tDNewK, tRevL, rCat, rAppend, rPop, rSetL, tAndV, tOrV, tNotV, tSl, tPart, tNoPart, tM1, gTup, gCons, gNil, cxK, cxnK, List.map_cons, List.map_nil, List.length_cons, List.length_nil, List.replicate, List.cons_append, List.nil_append, List.append_nil, List.set_cons_zero, List.set_cons_succ, List.getElem?_cons_zero, List.getElem?_cons_succ, Option.some.injEq, V.ref.injEq, V.int.injEq, V.str.injEq, V.bl.injEq, V.ty.injEq, exists_eq_left', exists_eq_left, exists_and_left, List.cons.injEq, and_true, true_and, sc_ii, sc_ss, sc_bb, sc_ni, sc_in, sc_is, sc_si, sc_nn, decide_true, decide_false, reduceCtorEq, Bool.false_eq_true, if_true, if_false, ite_true, ite_false, exists_const, eq_self, false_and, and_false, or_false, false_or, exists_false, Evl.rLenS, rSum, wipe, tYes, exists_eq, exists_eq', rIxL, rIxT, rIxS, exists_and_right, gt_iff_lt, not_true_eq_false, not_false_eq_true, Bool.not_true, Bool.not_false, decide_eq_true_eq, Nat.reduceSub, Nat.reduceAdd, List.append_assoc, tChain, tDIn, tDNotIn, sDDel, tAug, ipI, rInt1_int, rInt1_bl]
    refine ⟨by rw [sizeLine_eq]; decide, fun wl nw => ⟨Nat.zero_le _, fun sl ns => ?_⟩⟩
    have kw : Kp [] H (upd H wl (.lst [V.str (Str.ofString "call"), V.str (Str.ofString "step"), V.str (Str.ofString "return"), V.str (Str.ofString "step"), V.str (Str.ofString "call"), V.str (Str.ofString "return")])) := Kp.new nw
    have hw : (upd H wl (.lst [V.str (Str.ofString "call"), V.str (Str.ofString "step"), V.str (Str.ofString "return"), V.str (Str.ofString "step"), V.str (Str.ofString "call"), V.str (Str.ofString "return")])) wl = some (.lst (wordsL.map V.str)) := upd_same
    generalize upd H wl (.lst [V.str (Str.ofString "call"), V.str (Str.ofString "step"), V.str (Str.ofString "return"), V.str (Str.ofString "step"), V.str (Str.ofString "call"), V.str (Str.ofString "return")]) = H1 at kw hw ns
    have ks := (Kp.new ns : Kp [] H1 (upd H1 sl (.lst [])))
    refine forN m (by omega) (fun j σ H' => ∃ (sp : Addr) (c5 : Option V), σ = [some (.int c), some (.int (m : Nat)), some (.str (Str.ofString "abcdefghijklmnopqrstuvwxyz")), some (.ref wl), some (.ref sp), c5, none, none, none, none, none, none] ∧ H' sp = some (.lst ((spansM j).map V.int)) ∧ Kp [] H1 H') (fun R r => ⟨_, rfl, r⟩) ⟨sl, none, rfl, upd_same, ks⟩ (fun j σ H' hj h => ?_) fun σ H' h => ?_
    · obtain ⟨sp, c5, rfl, hsp, kp⟩ := h
      try simp (maxSteps := 1000000) only [tSeq, tIfS, tTest, tOp, tUn, tCB, tCons, tNil, tVar, tC, rI0, rI, rU, rEq, rNe, tRet, tRetN, tAsg, gName, gSub, tBM, tBM0, tNext, tB, tNot, tAnd, tOr, tIf, tCall, tDrop, tBreak, tCont, L2.start, tDGet, sDPut, tTup, tLst, tDNewK, tRevL, rCat, rAppend, rPop, rSetL, tAndV, tOrV, tNotV, tSl, tPart, tNoPart, tM1, gTup, gCons, gNil, cxK, cxnK, List.map_cons, List.map_nil, List.length_cons, List.length_nil, List.replicate, List.cons_append, List.nil_append, List.append_nil, List.set_cons_zero, List.set_cons_succ, List.getElem?_cons_zero, List.getElem?_cons_succ, Option.some.injEq, V.ref.injEq, V.int.injEq, V.str.injEq, V.bl.injEq, V.ty.injEq, exists_eq_left', exists_eq_left, exists_and_left, List.cons.injEq, and_true, true_and, sc_ii, sc_ss, sc_bb, sc_ni, sc_in, sc_is, sc_si, sc_nn, decide_true, decide_false, reduceCtorEq, Bool.false_eq_true, if_true, if_false, ite_true, ite_false, exists_const, eq_self, false_and, and_false, or_false, false_or, exists_false, Evl.rLenS, rSum, wipe, tYes, exists_eq, exists_eq', rIxL, rIxT, rIxS, exists_and_right, gt_iff_lt, not_true_eq_false, not_false_eq_true, Bool.not_true, Bool.not_false, decide_eq_true_eq, Nat.reduceSub, Nat.reduceAdd, List.append_assoc, tChain, tDIn, tDNotIn, sDDel, tAug, ipI, rInt1_int, rInt1_bl]
      refine ⟨by rw [sizeLine_eq]; decide, fun p np => ?_⟩
      have k1 := (Kp.new np : Kp [] H' (upd H' p (.lst [.int 3, .int 10, .int 5408])))
      refine ⟨_, k1 _ _ not0 hsp, _, upd_same, ?_, fun r nr => ⟨?_, (kp.trans k1).trans (Kp.new nr)⟩⟩
      · rw [List.length_map, spansM_len, sizeLine_eq]
        show 3 * j + 3 ≤ _
        omega
      · rw [upd_same, show spansM (j + 1) = spansM j ++ [3, 10, 5408] from rfl, List.map_append]; rfl
    · obtain ⟨sp, c5, rfl, hsp, kp⟩ := h
      try simp (maxSteps := 1000000) only [tSeq, tIfS, tTest, tOp, tUn, tCB, tCons, tNil, tVar, tC, rI0, rI, rU, rEq, rNe, tRet, tRetN, tAsg, gName, gSub, tBM, tBM0, tNext, tB, tNot, tAnd, tOr, tIf, tCall, tDrop, tBreak, tCont, L2.start, tDGet, sDPut, tTup, tLst, tDNewK, tRevL, rCat, rAppend, rPop, rSetL, tAndV, tOrV, tNotV, tSl, tPart, tNoPart, tM1, gTup, gCons, gNil, cxK, cxnK, List.map_cons, List.map_nil, List.length_cons, List.length_nil, List.replicate, List.cons_append, List.nil_append, List.append_nil, List.set_cons_zero, List.set_cons_succ, List.getElem?_cons_zero, List.getElem?_cons_succ, Option.some.injEq, V.ref.injEq, V.int.injEq, V.str.injEq, V.bl.injEq, V.ty.injEq, exists_eq_left', exists_eq_left, exists_and_left, List.cons.injEq, and_true, true_and, sc_ii, sc_ss, sc_bb, sc_ni, sc_in, sc_is, sc_si, sc_nn, decide_true, decide_false, reduceCtorEq, Bool.false_eq_true, if_true, if_false, ite_true, ite_false, exists_const, eq_self, false_and, and_false, or_false, false_or, exists_false, Evl.rLenS, rSum, wipe, tYes, exists_eq, exists_eq', rIxL, rIxT, rIxS, exists_and_right, gt_iff_lt, not_true_eq_false, not_false_eq_true, Bool.not_true, Bool.not_false, decide_eq_true_eq, Nat.reduceSub, Nat.reduceAdd, List.append_assoc, tChain, tDIn, tDNotIn, sDDel, tAug, ipI, rInt1_int, rInt1_bl]
      refine ⟨c, sp, spansM m, rfl, c0, sq_l hsp, by rw [spansM_len]; omega, spansM_pos, fun dr dl H2 nd hdl dlen hdr k2 => ⟨Nat.zero_le _, fun ml nm => ?_⟩⟩
      have kd := kp.trans k2
      have hw2 := kd _ _ not0 hw
      refine forN m (by omega) (fun j σ H' => ∃ (us : List V) (ds : List Dd) (c5 c8 c9 c11 : Option V), σ = [some (.int c), some (.int (m : Nat)), some (.str (Str.ofString "abcdefghijklmnopqrstuvwxyz")), some (.ref wl), some (.ref sp), c5, some (.ref dl), some (.ref ml), c8, c9, none, c11] ∧ H' ml = some (.lst us) ∧ Rw (TDv H') us ds ∧ MnI j ds ∧ Kp [] H2 H') (fun R r => ⟨_, rfl, r⟩) ⟨[], [], _, _, _, _, rfl, upd_same, .nil, ⟨List.nodup_nil, fun d h => (nomatch h), Nat.le_refl _, fun _ => rfl, fun h => absurd h (by decide), fun j _ h => absurd h (Nat.not_lt_zero j)⟩, Kp.new nm⟩ (fun j σ H' hj h => ?_) fun σ H' h => ?_
      · obtain ⟨us, ds, c5, c8, c9, c11, rfl, hml, hus, hI, k3⟩ := h
        have hw3 := k3 _ _ not0 hw2
        have hdl3 := k3 _ _ not0 hdl
        obtain ⟨s1, s2, s3⟩ := spansM_at (k := m) hj
        have at_ : ∀ (i : Nat) (s : Int), (spansM m)[i]? = some s → ∃ z : Int, atI (dr.map V.int) ((i : Nat) : Int) = some (.int z) ∧ 0 ≤ z ∧ z < s := fun i s e => by
          have li : i < dr.length := by
            rw [dlen]; exact (List.getElem?_eq_some_iff.mp e).1
          have ez : dr[i]? = some dr[i] := List.getElem?_eq_getElem li
          exact ⟨dr[i], atI_of (by omega) (by rw [List.getElem?_map, Int.toNat_natCast, ez]; rfl), hdr i _ s ez e⟩
        obtain ⟨d0, e0, d00, d03⟩ := at_ _ _ s1
        obtain ⟨d1, e1, d10, d1x⟩ := at_ _ _ s2
        obtain ⟨d2, e2, d20, d2x⟩ := at_ _ _ s3
        rw [show ((3 * j : Nat) : Int) = 3 * (j : Int) by omega] at e0
        rw [show ((3 * j + 1 : Nat) : Int) = 3 * (j : Int) + 1 by omega] at e1
        rw [show ((3 * j + 2 : Nat) : Int) = 3 * (j : Int) + 2 by omega] at e2
        obtain ⟨wd, ew, hwd⟩ := words_at (j % 6) (by omega)
        have ewA : atI (wordsL.map V.str) ((j : Int) % 6) = some (.str wd) := by
          rw [show (j : Int) % 6 = ((j % 6 : Nat) : Int) by omega]
          exact atI_of (by omega) (by rw [List.getElem?_map, Int.toNat_natCast, ew]; rfl)
        have hw : j < 3 → wordsL[j]? = some wd := fun h => by rw [show j % 6 = j by omega] at ew; exact ew
        have c3 : CMul 3 (j : Int) := .inl ⟨by decide, by decide⟩
        have tail : ∀ (x : Key) (H3 : Hp), Kp [] H' H3 → GoodDd (d0, wd, x) → ∀ p, H3 p = none → rInS K true (V.ref p) (V.ref ml) (upd H3 p (.tup [.int d0, .str wd, kV x])) (fun y G => ∃ k, y = V.bl k ∧ if k = true then tyV K "list" (.ref ml) G ∧ ∃ x, G ml = some (.lst x) ∧ x.length < sizeLine ∧ ∃ us, upd G ml (.lst (x ++ [.ref p])) ml = some (.lst us) ∧ ∃ x5, Rw (TDv (upd G ml (.lst (x ++ [.ref p])))) us x5 ∧ MnI (j + 1) x5 ∧ Kp [] H2 (upd G ml (.lst (x ++ [.ref p]))) else ∃ us, G ml = some (.lst us) ∧ ∃ x, Rw (TDv G) us x ∧ MnI (j + 1) x ∧ Kp [] H2 G) := by
          intro x H3 k4 gd p np
          have kp2 : Kp [] H3 (upd H3 p (.tup [.int d0, .str wd, kV x])) := Kp.new np
          have hp : TD (upd H3 p (.tup [.int d0, .str wd, kV x])) p (d0, wd, x) := upd_same
          generalize upd H3 p (.tup [.int d0, .str wd, kV x]) = G at kp2 hp
          have kG := k4.trans kp2
          have hml2 := kG _ _ not0 hml
          have hus2 : Rw (TDv G) us ds := hus.mono fun _ _ z => z.tp kG.tps
          have pv : TDv G (.ref p) (d0, wd, x) := ⟨p, rfl, hp⟩
          refine ⟨_, _, ml, us, rfl, .inl (sq_l hml2), rwDp hus2, pv.dp, (shDd gd).1, shDds hI.good, _, rfl, ?_⟩
          rw [if_pos rfl, anyDd]
          cases hh : hasD ds (d0, wd, x) with
          | true =>
            simp only [Bool.not_true, Bool.false_eq_true, if_false]
            exact ⟨us, hml2, ds, hus2, hI.skip (hasD_iff.mp hh) hw, k3.trans kG⟩
          | false =>
            simp only [Bool.not_false, if_true]
            have nin : (d0, wd, x) ∉ ds := fun z => by rw [hasD_iff.mpr z] at hh; cases hh
            refine ⟨.inl ⟨rfl, _, sq_l hml2⟩, us, hml2, by rw [hus2.len]; have := hI.hi; rw [sizeLine_eq]; omega, _, upd_same, ds ++ [(d0, wd, x)], ?_, hI.put nin gd hw, (k3.trans kG).wr nm⟩
            have tp : Tp G (upd G ml (.lst (us ++ [.ref p]))) := (Tp.refl G).putL hml2
            exact (hus2.mono fun _ _ z => z.tp tp).snoc (pv.tp tp)
        try simp (maxSteps := 1000000) only [tSeq, tIfS, tTest, tOp, tUn, tCB, tCons, tNil, tVar, tC, rI0, rI, rU, rEq, rNe, tRet, tRetN, tAsg, gName, gSub, tBM, tBM0, tNext, tB, tNot, tAnd, tOr, tIf, tCall, tDrop, tBreak, tCont, L2.start, tDGet, sDPut, tTup, tLst, tDNewK, tRevL, rCat, rAppend, rPop, rSetL, tAndV, tOrV, tNotV, tSl, tPart, tNoPart, tM1, gTup, gCons, gNil, cxK, cxnK, List.map_cons, List.map_nil, List.length_cons, List.length_nil, List.replicate, List.cons_append, List.nil_append, List.append_nil, List.set_cons_zero, List.set_cons_succ, List.getElem?_cons_zero, List.getElem?_cons_succ, Option.some.injEq, V.ref.injEq, V.int.injEq, V.str.injEq, V.bl.injEq, V.ty.injEq, exists_eq_left', exists_eq_left, exists_and_left, List.cons.injEq, and_true, true_and, sc_ii, sc_ss, sc_bb, sc_ni, sc_in, sc_is, sc_si, sc_nn, decide_true, decide_false, reduceCtorEq, Bool.false_eq_true, if_true, if_false, ite_true, ite_false, exists_const, eq_self, false_and, and_false, or_false, false_or, exists_false, Evl.rLenS, rSum, wipe, tYes, exists_eq, exists_eq', rIxL, rIxT, rIxS, exists_and_right, gt_iff_lt, not_true_eq_false, not_false_eq_true, Bool.not_true, Bool.not_false, decide_eq_true_eq, Nat.reduceSub, Nat.reduceAdd, List.append_assoc, tChain, tDIn, tDNotIn, sDDel, tAug, ipI, rInt1_int, rInt1_bl]
        refine ⟨c3, _, sq_l hdl3, _, e1, by decide, _, sq_l hw3, _, ewA, rfl, ?_⟩
        refine ite2 (fun h1 => ?_) (fun h1 => ?_)
        · have h1 : wd = ("call" : Str) := V.str.inj h1
          refine ⟨c3, _, sq_l hdl3, _, e2, ?_⟩
          have q8a := Int.emod_nonneg d2 (show (8 : Int) ≠ 0 by decide)
          have q8b := Int.emod_lt_of_pos d2 (show (0 : Int) < 8 by decide)
          obtain ⟨q8, e8⟩ := Int.eq_ofNat_of_zero_le q8a
          rw [e8] at q8b
          refine lcRgE (1 + q8) (by omega) (fun _ v cc => v = V.str (tx [cc])) (fun cc => lowC cc = true) (fun _ _ _ _ _ h => h) (show 10 < 12 by decide) (fun R r => ?_) (fun i H3 Q3 hi k4 q3 => ?_) (fun D us' cs H3 nD hD hR hl hG k4 => ?_)
          · try simp (maxSteps := 1000000) only [tSeq, tIfS, tTest, tOp, tUn, tCB, tCons, tNil, tVar, tC, rI0, rI, rU, rEq, rNe, tRet, tRetN, tAsg, gName, gSub, tBM, tBM0, tNext, tB, tNot, tAnd, tOr, tIf, tCall, tDrop, tBreak, tCont, L2.start, tDGet, sDPut, tTup, tLst, tDNewK, tRevL, rCat, rAppend, rPop, rSetL, tAndV, tOrV, tNotV, tSl, tPart, tNoPart, tM1, gTup, gCons, gNil, cxK, cxnK, List.map_cons, List.map_nil, List.length_cons, List.length_nil, List.replicate, List.cons_append, List.nil_append, List.append_nil, List.set_cons_zero, List.set_cons_succ, List.getElem?_cons_zero, List.getElem?_cons_succ, Option.some.injEq, V.ref.injEq, V.int.injEq, V.str.injEq, V.bl.injEq, V.ty.injEq, exists_eq_left', exists_eq_left, exists_and_left, List.cons.injEq, and_true, true_and, sc_ii, sc_ss, sc_bb, sc_ni, sc_in, sc_is, sc_si, sc_nn, decide_true, decide_false, reduceCtorEq, Bool.false_eq_true, if_true, if_false, ite_true, ite_false, exists_const, eq_self, false_and, and_false, or_false, false_or, exists_false, Evl.rLenS, rSum, wipe, tYes, exists_eq, exists_eq', rIxL, rIxT, rIxS, exists_and_right, gt_iff_lt, not_true_eq_false, not_false_eq_true, Bool.not_true, Bool.not_false, decide_eq_true_eq, Nat.reduceSub, Nat.reduceAdd, List.append_assoc, tChain, tDIn, tDNotIn, sDDel, tAug, ipI, rInt1_int, rInt1_bl]
            refine ⟨by decide, ?_⟩
            rw [e8, show (1 : Int) + (q8 : Nat) = ((1 + q8 : Nat) : Int) by omega]
            exact r
          · try simp (maxSteps := 1000000) only [tSeq, tIfS, tTest, tOp, tUn, tCB, tCons, tNil, tVar, tC, rI0, rI, rU, rEq, rNe, tRet, tRetN, tAsg, gName, gSub, tBM, tBM0, tNext, tB, tNot, tAnd, tOr, tIf, tCall, tDrop, tBreak, tCont, L2.start, tDGet, sDPut, tTup, tLst, tDNewK, tRevL, rCat, rAppend, rPop, rSetL, tAndV, tOrV, tNotV, tSl, tPart, tNoPart, tM1, gTup, gCons, gNil, cxK, cxnK, List.map_cons, List.map_nil, List.length_cons, List.length_nil, List.replicate, List.cons_append, List.nil_append, List.append_nil, List.set_cons_zero, List.set_cons_succ, List.getElem?_cons_zero, List.getElem?_cons_succ, Option.some.injEq, V.ref.injEq, V.int.injEq, V.str.injEq, V.bl.injEq, V.ty.injEq, exists_eq_left', exists_eq_left, exists_and_left, List.cons.injEq, and_true, true_and, sc_ii, sc_ss, sc_bb, sc_ni, sc_in, sc_is, sc_si, sc_nn, decide_true, decide_false, reduceCtorEq, Bool.false_eq_true, if_true, if_false, ite_true, ite_false, exists_const, eq_self, false_and, and_false, or_false, false_or, exists_false, Evl.rLenS, rSum, wipe, tYes, exists_eq, exists_eq', rIxL, rIxT, rIxS, exists_and_right, gt_iff_lt, not_true_eq_false, not_false_eq_true, Bool.not_true, Bool.not_false, decide_eq_true_eq, Nat.reduceSub, Nat.reduceAdd, List.append_assoc, tChain, tDIn, tDNotIn, sDDel, tAug, ipI, rInt1_int, rInt1_bl]
            have z0 := Int.emod_nonneg (d2 / 8 + (i : Int) * (d2 / 208)) (show (26 : Int) ≠ 0 by decide)
            have z1 := Int.emod_lt_of_pos (d2 / 8 + (i : Int) * (d2 / 208)) (show (0 : Int) < 26 by decide)
            generalize (d2 / 8 + (i : Int) * (d2 / 208)) % 26 = z at z0 z1 ⊢
            refine ⟨⟨by decide, by decide⟩, ⟨by decide, by decide⟩, .inl ⟨by omega, by omega⟩, by decide, ?_, 97 + z.toNat, atI_of z0 (lets_at z.toNat (by omega)), q3 _ (97 + z.toNat) H3 rfl ?_ (Kp.refl _ _)⟩
            · rw [sizeLine_eq]; decide +kernel
            · unfold lowC
              rw [Bool.and_eq_true, decide_eq_true_eq, decide_eq_true_eq]
              omega
          · have eu := rwTx hR
            have hdl4 := k4 _ _ not0 hdl3
            have hw4 := k4 _ _ not0 hw3
            rw [eu] at hD
            refine ⟨D, rfl, cs.map fun c => tx [c], .inl (sq_l hD), ?_, c3, _, sq_l hdl4, _, e0, by decide, _, sq_l hw4, _, ewA, by rw [sizeLine_eq]; decide, fun p np => ?_⟩
            · rw [sum_ones]
              show _ + _ * 0 ≤ _
              omega
            rw [show Txt.join (Str.ofString "") (cs.map fun c => tx [c]) = tx cs from join_ones cs]
            exact tail (.inr (tx cs)) H3 k4 ⟨d00, d03, .inl ⟨h1, tx cs, rfl, name_tx (by omega) (by omega) hG⟩⟩ p np
        · have h1 : ¬ wd = ("call" : Str) := fun z => h1 (congrArg V.str z)
          have hw2' : wd = ("return" : Str) ∨ wd = ("step" : Str) := by
            rcases hwd with h | h
            · exact absurd h h1
            · exact h.2
          exact ⟨c3, _, sq_l hdl3, _, e0, by decide, _, sq_l hw3, _, ewA, by rw [sizeLine_eq]; decide, fun p np => tail (.inl d1) H' (Kp.refl _ _) ⟨d00, d03, .inr ⟨hw2', d1, rfl, d10, d1x⟩⟩ p np⟩
      · obtain ⟨us, ds, c5, c8, c9, c11, rfl, hml, hus, hI, k3⟩ := h
        try simp (maxSteps := 1000000) only [tSeq, tIfS, tTest, tOp, tUn, tCB, tCons, tNil, tVar, tC, rI0, rI, rU, rEq, rNe, tRet, tRetN, tAsg, gName, gSub, tBM, tBM0, tNext, tB, tNot, tAnd, tOr, tIf, tCall, tDrop, tBreak, tCont, L2.start, tDGet, sDPut, tTup, tLst, tDNewK, tRevL, rCat, rAppend, rPop, rSetL, tAndV, tOrV, tNotV, tSl, tPart, tNoPart, tM1, gTup, gCons, gNil, cxK, cxnK, List.map_cons, List.map_nil, List.length_cons, List.length_nil, List.replicate, List.cons_append, List.nil_append, List.append_nil, List.set_cons_zero, List.set_cons_succ, List.getElem?_cons_zero, List.getElem?_cons_succ, Option.some.injEq, V.ref.injEq, V.int.injEq, V.str.injEq, V.bl.injEq, V.ty.injEq, exists_eq_left', exists_eq_left, exists_and_left, List.cons.injEq, and_true, true_and, sc_ii, sc_ss, sc_bb, sc_ni, sc_in, sc_is, sc_si, sc_nn, decide_true, decide_false, reduceCtorEq, Bool.false_eq_true, if_true, if_false, ite_true, ite_false, exists_const, eq_self, false_and, and_false, or_false, false_or, exists_false, Evl.rLenS, rSum, wipe, tYes, exists_eq, exists_eq', rIxL, rIxT, rIxS, exists_and_right, gt_iff_lt, not_true_eq_false, not_false_eq_true, Bool.not_true, Bool.not_false, decide_eq_true_eq, Nat.reduceSub, Nat.reduceAdd, List.append_assoc, tChain, tDIn, tDNotIn, sDDel, tAug, ipI, rInt1_int, rInt1_bl]
        refine q ml us ds H' (((kw.trans kd)).free0 nm) hml hus ⟨hI.nd, hI.good, hI.late m3, by have := hI.hi; omega, ?_, ?_⟩ ((kw.trans kd).trans k3)
        · obtain ⟨d, ed, ew⟩ := hI.word 0 (by decide) (by omega)
          exact ⟨d, ed, (Option.some.inj ew).symm⟩
        · obtain ⟨d, ed, ew⟩ := hI.word 2 (by decide) (by omega)
          exact ⟨d, ed, (Option.some.inj ew).symm⟩
end
end My

set_option Elab.async false
set_option linter.all false
set_option maxRecDepth 100000
set_option maxHeartbeats 4000000
namespace My
open PySem L2 NdefX
abbrev s_law_free : Stmt := top 25
theorem sc_law_free : FnScope ["_law_cell_here", "_law_menu_here", "_law_most", "_law_size", "_law_spans", "_law_k", "_law_draws_here", "_law_rows", "_law_moves", "_law_j", "_law_deed", "_law_move"] ["_law_cell_here", "_law_menu_here", "_law_most"] (defScope s_law_free) := ⟨rfl, rfl, rfl, by decide +kernel, rfl, by decide +kernel, by decide +kernel⟩
def spansF (m n b : Int) : Nat → List Int
  | 0 => [m]
  | k + 1 => spansF m n b k ++ [6, n, b, n, b, n, b]
theorem spansF_len {m n b : Int} : ∀ k, (spansF m n b k).length = 1 + 7 * k
  | 0 => rfl
  | k + 1 => by unfold spansF; rw [List.length_append, spansF_len k]; show 1 + 7 * k + 7 = _; omega
theorem spansF_at {m n b : Int} : ∀ {k j o : Nat}, j < k → o < 7 → (spansF m n b k)[1 + 7 * j + o]? = [6, n, b, n, b, n, b][o]?
  | k + 1, j, o, h, ho => by
    have l := spansF_len (m := m) (n := n) (b := b) k
    unfold spansF
    by_cases e : j = k
    · subst e
      rw [List.getElem?_append_right (by omega), show 1 + 7 * j + o - (spansF m n b j).length = o by omega]
    · rw [List.getElem?_append_left (by omega)]
      exact spansF_at (k := k) (j := j) (by omega) ho
theorem spansF_pos {m n b : Int} (hm : 0 < m ∧ m < 1000000) (hn : 0 < n ∧ n < 1000000) (hb : 0 < b ∧ b < 1000000) : ∀ {k : Nat}, ∀ x ∈ spansF m n b k, 0 < x ∧ x < 1000000
  | 0, x, h => by
    rw [List.mem_singleton.mp h]; exact hm
  | k + 1, x, h => by
    unfold spansF at h
    rcases List.mem_append.mp h with h | h
    · exact spansF_pos hm hn hb x h
    · simp at h
      rcases h with rfl | rfl | rfl | rfl | rfl | rfl | rfl
      · decide
      all_goals first | exact hn | exact hb
theorem forN1 {ta : TA} {g : TG} {tb : TS} {D : Ends} {σ : L2.St} {H : Hp} (m : Nat) (hm : m ≤ 100000) (Pv : Nat → L2.St → Hp → Prop) (ht : ∀ R : List V → Hp → Prop, (∀ H1, Kp [] H H1 → R [.int (m : Nat)] H1) → ta σ H R) (h0 : ∀ H1, Kp [] H H1 → Pv 0 σ H1)
    (step : ∀ j σ H, j < m → Pv j σ H → g (.int (j : Nat)) σ H fun σ2 H2 => tb { D with nx := Pv (j + 1), ct := Pv (j + 1), bk := D.nx } σ2 H2) (fin : ∀ σ H, Pv m σ H → D.nx σ H) : tFor (iRng1 ta) g tb D σ H :=
  ht _ fun H1 k1 => ⟨(m : Nat), rfl, by omega, by omega, for_range (n := ((m : Nat) : Int).toNat) Pv (h0 H1 k1) (fun j σ H hj p => by rw [Int.zero_add]; exact step j σ H (by omega) p) fun σ H p => fin σ H (by rw [Int.toNat_natCast] at p; exact p)⟩
def cntL : List Int := [2, 1, 3, 2, 3, 0]
theorem cnt_at : ∀ i : Nat, i < 6 → ∃ n : Nat, n ≤ 3 ∧ cntL[i]? = some (n : Int) := by
  intro i h
  match i, h with
  | 0, _ => exact ⟨2, by decide, rfl⟩
  | 1, _ => exact ⟨1, by decide, rfl⟩
  | 2, _ => exact ⟨3, by decide, rfl⟩
  | 3, _ => exact ⟨2, by decide, rfl⟩
  | 4, _ => exact ⟨3, by decide, rfl⟩
  | 5, _ => exact ⟨0, by decide, rfl⟩
theorem dr_at {dr ss : List Int} (dlen : dr.length = ss.length) (hdr : ∀ (i : Nat) (d s : Int), dr[i]? = some d → ss[i]? = some s → 0 ≤ d ∧ d < s) {i : Nat} {s : Int} (e : ss[i]? = some s) : ∃ z : Int, atI (dr.map V.int) ((i : Nat) : Int) = some (.int z) ∧ 0 ≤ z ∧ z < s := by
  have li : i < dr.length := by
    rw [dlen]; exact (List.getElem?_eq_some_iff.mp e).1
  have ez : dr[i]? = some dr[i] := List.getElem?_eq_getElem li
  exact ⟨dr[i], atI_of (by omega) (by rw [List.getElem?_map, Int.toNat_natCast, ez]; rfl), hdr i _ s ez e⟩
/-- a row that stands elsewhere than D -/
def RwN (D : Addr) (H : Hp) (v : V) (ms : List Mv) : Prop := ∃ a us, v = .ref a ∧ a ≠ D ∧ H a = some (.lst us) ∧ Rw (TM H) us ms
theorem RwN.kp {D : Addr} {H H' : Hp} {v : V} {ms : List Mv} {ys : List V} (h : RwN D H v ms) (hD : H D = some (.lst ys)) (k : Kp [D] H H') : RwN D H' v ms := by
  obtain ⟨a, us, e, n, h, r⟩ := h
  exact ⟨a, us, e, n, k _ _ (not1 n) h, rwTM r (k.tpsL hD)⟩
theorem RwN.kp0 {D : Addr} {H H' : Hp} {v : V} {ms : List Mv} (h : RwN D H v ms) (k : Kp [] H H') : RwN D H' v ms := by
  obtain ⟨a, us, e, n, h, r⟩ := h
  exact ⟨a, us, e, n, k _ _ not0 h, rwTM r k.tps⟩
theorem RwN.rw_ {D : Addr} {H : Hp} {v : V} {ms : List Mv} (h : RwN D H v ms) : RwAt H v ms := by
  obtain ⟨a, us, e, n, h, r⟩ := h
  exact ⟨a, us, e, h, r⟩
structure MsI (b : Nat) (j : Nat) (ms : List Mv) : Prop where
  deed : ∀ m ∈ ms, GoodDd m.1
  goal : ∀ m ∈ ms, 0 ≤ m.2 ∧ m.2 < b
  uniq : (ms.map (·.1)).Nodup
  len : ms.length ≤ j
theorem MsI.put {b j : Nat} {ms : List Mv} {d : Dd} {g : Int} (h : MsI b j ms) (gd : GoodDd d) (hd : d ∉ ms.map (·.1)) (g0 : 0 ≤ g) (g1 : g < b) : MsI b (j + 1) (ms ++ [(d, g)]) := by
  refine ⟨fun x hx => ?_, fun x hx => ?_, ?_, by rw [List.length_append, List.length_singleton]; have := h.len; omega⟩
  · rcases List.mem_append.mp hx with hx | hx
    · exact h.deed x hx
    · rw [List.mem_singleton.mp hx]; exact gd
  · rcases List.mem_append.mp hx with hx | hx
    · exact h.goal x hx
    · rw [List.mem_singleton.mp hx]; exact ⟨g0, g1⟩
  · rw [List.map_append, List.nodup_append]
    refine ⟨h.uniq, by simp, fun a ha c hc => ?_⟩
    rw [show c = d by simpa using hc]
    exact fun z => hd (z ▸ ha)
section
variable {P : Program} {w : World} {K : PySem.W.Frag} {mg : Str → Option Value} {base : Heap}
def spFree : Sp := fun vs H Q _ => ∃ (c : Int) (a : Addr) (us : List V) (ds : List Dd), vs = [.int c, .ref a, .int 6] ∧ 0 ≤ c ∧ H a = some (.lst us) ∧ Rw (TDv H) us ds ∧ MenuOk ds ∧ ∀ (l : Addr) (rs : List V) (rows : List (List Mv)) H', H l = none → H' l = some (.lst rs) → Rw (RwN l H') rs rows → 1 ≤ rows.length → rows.length ≤ 6 → (∀ r ∈ rows, GoodRw rows.length r ∧ r.length ≤ 50) → Kp [] H H' → Q (.ref l) H'
theorem ok_law_free {f : Addr} {fd : FuncData} (D : Df K mg "_law_free" s_law_free ["_law_cell_here", "_law_menu_here", "_law_most"] f fd) (T : BtG mg) {g1 : Addr} {gd1 : FuncData} (D_law_draws : Df K mg "_law_draws" s_law_draws ["_law_cell_here", "_law_spans"] g1 gd1) (G_law_draws : FnOk P w K mg base CX0 1 g1 gd1 ["_law_cell_here", "_law_spans"] (spDraws K)) : FnOk P w K mg base CX0 2 f fd ["_law_cell_here", "_law_menu_here", "_law_most"] spFree := by
  refine D.F.ok sc_law_free (fun vs H Q E h => ?_) (fun cdv A outer s H vs Q E hr h => ?_)
  · obtain ⟨_, _, _, _, rfl, _⟩ := h
    rfl
  · obtain ⟨c, a, us, ds, rfl, c0, ha, hus, hm, q⟩ := h
    refine ⟨_, (pss_cons (ps_set (i := 3) sc_law_free.nd rfl (Or.inl rfl) (pe_op op_add pe_int (pe_ix (r := rIxL K) ix_list (pe_call G_law_draws (hr.mono (by decide)) rfl D_law_draws.g D_law_draws.F.kp D_law_draws.b .nil pass0 (pa_cons (pv 0) (pa_cons (pe_lst (pa_cons (pv 2) pa_nil)) pa_nil))) pe_int (fun _ _ => rfl))))
      (pss_cons (ps_set (i := 4) sc_law_free.nd rfl (Or.inl rfl) (pe_lst (pa_cons (pv 2) pa_nil)))
      (pss_cons (ps_for PassesOwn.never rfl (pi_range1 rfl T.b_range (pa_cons (pv 3) pa_nil)) (pg_name (i := 5) sc_law_free.nd rfl (Or.inl rfl)) (pss_one (ps_set (i := 4) sc_law_free.nd rfl (Or.inl rfl) (pe_op op_cat (pv 4) (pe_lst (pa_cons pe_int (pa_cons (pe_callB (id := "len") (r := Evl.rLenS K) call_len_seq (by rfl) T.b_len PySem.boot_len (pa_cons (pv 1) pa_nil)) (pa_cons (pv 3) (pa_cons (pe_callB (id := "len") (r := Evl.rLenS K) call_len_seq (by rfl) T.b_len PySem.boot_len (pa_cons (pv 1) pa_nil)) (pa_cons (pv 3) (pa_cons (pe_callB (id := "len") (r := Evl.rLenS K) call_len_seq (by rfl) T.b_len PySem.boot_len (pa_cons (pv 1) pa_nil)) (pa_cons (pv 3) pa_nil))))))))))))
      (pss_cons (ps_set (i := 6) sc_law_free.nd rfl (Or.inl rfl) (pe_call G_law_draws (hr.mono (by decide)) rfl D_law_draws.g D_law_draws.F.kp D_law_draws.b .nil pass0 (pa_cons (pv 0) (pa_cons (pv 4) pa_nil))))
      (pss_cons (ps_set (i := 7) sc_law_free.nd rfl (Or.inl rfl) (pe_lst pa_nil))
      (pss_cons (ps_for PassesOwn.never rfl (pi_range1 rfl T.b_range (pa_cons (pv 3) pa_nil)) (pg_name (i := 5) sc_law_free.nd rfl (Or.inl rfl)) (pss_cons (ps_set (i := 8) sc_law_free.nd rfl (Or.inl rfl) (pe_lst pa_nil))
      (pss_cons (ps_for PassesOwn.never rfl (pi_range1 rfl T.b_range (pa_cons (pe_ix (r := rIxL K) ix_list (pe_lst (pa_cons pe_int (pa_cons pe_int (pa_cons pe_int (pa_cons pe_int (pa_cons pe_int (pa_cons pe_int pa_nil))))))) (pe_ix (r := rIxL K) ix_list (pv 6) (pe_op op_add pe_int (pe_op op_mul pe_int (pv 5))) (fun _ _ => rfl)) (fun _ _ => rfl)) pa_nil)) (pg_name (i := 9) sc_law_free.nd rfl (Or.inl rfl)) (pss_cons (ps_set (i := 10) sc_law_free.nd rfl (Or.inl rfl) (pe_ix (r := rIxL K) ix_list (pv 1) (pe_ix (r := rIxL K) ix_list (pv 6) (pe_op op_add (pe_op op_add pe_int (pe_op op_mul pe_int (pv 5))) (pe_op op_mul pe_int (pv 9))) (fun _ _ => rfl)) (fun _ _ => rfl)))
      (pss_one (ps_if (pt_cmpR (op_notInS (hu5 hr)) (pv 10) (pe_lc (own := [("_law_move", 11)]) (g := (gName 11)) (tt := tYes) rfl sc_law_free.nd (pi_list (pv 8)) (blkOk_by (N := ["_law_cell_here", "_law_menu_here", "_law_most", "_law_size", "_law_spans", "_law_k", "_law_draws_here", "_law_rows", "_law_moves", "_law_j", "_law_deed", "_law_move"]) (sc := defScope s_law_free) (by decide +kernel)) (fun _ _ _ _ _ => (pg_name (i := 11) sc_law_free.nd rfl (Or.inl rfl))) (fun _ _ _ _ _ => pts_nil) (fun _ _ _ _ _ => (pe_ix (r := rIxT K) ix_tup (pv 11) pe_int (fun _ _ => rfl)))) (by rfl)) (pss_one (ps_expr (pe_bm PySem.F.plainAttrs_list PySem.F.slot_list_append PySem.F.type_list_append mt_append (pv 8) (pa_cons (pe_tup (pa_cons (pv 10) (pa_cons (pe_ix (r := rIxL K) ix_list (pv 6) (pe_op op_add (pe_op op_add pe_int (pe_op op_mul pe_int (pv 5))) (pe_op op_mul pe_int (pv 9))) (fun _ _ => rfl)) pa_nil))) pa_nil)))) pss_nil))))
      (pss_one (ps_expr (pe_bm PySem.F.plainAttrs_list PySem.F.slot_list_append PySem.F.type_list_append mt_append (pv 7) (pa_cons (pv 8) pa_nil)))))))
      (pss_one (ps_ret (pv 7))))))))), ?_⟩
    try simp (maxSteps := 1000000) only [tSeq, tIfS, tTest, tOp, tUn, tCB, tCons, tNil, tVar, tC, rI0, rI, rU, rEq, rNe, tRet, tRetN, tAsg, gName, gSub, tBM, tBM0, tNext, tB, tNot, tAnd, tOr, tIf, tCall, tDrop, tBreak, tCont, L2.start, tDGet, sDPut, tTup, tLst, tDNewK, tRevL, rCat, rAppend, rPop, rSetL, tAndV, tOrV, tNotV, tSl, tPart, tNoPart, tM1, gTup, gCons, gNil, cxK, cxnK, List.map_cons, List.map_nil, List.length_cons, List.length_nil, List.replicate, List.cons_append, List.nil_append, List.append_nil, List.set_cons_zero, List.set_cons_succ, List.getElem?_cons_zero, List.getElem?_cons_succ, Option.some.injEq, V.ref.injEq, V.int.injEq, V.str.injEq, V.bl.injEq, V.ty.injEq, exists_eq_left', exists_eq_left, exists_and_left, List.cons.injEq, and_true, true_and, sc_ii, sc_ss, sc_bb, sc_ni, sc_in, sc_is, sc_si, sc_nn, decide_true, decide_false, reduceCtorEq, Bool.false_eq_true, if_true, if_false, ite_true, ite_false, exists_const, eq_self, false_and, and_false, or_false, false_or, exists_false, Evl.rLenS, rSum, wipe, tYes, exists_eq, exists_eq', rIxL, rIxT, rIxS, exists_and_right, gt_iff_lt, not_true_eq_false, not_false_eq_true, Bool.not_true, Bool.not_false, decide_eq_true_eq, Nat.reduceSub, Nat.reduceAdd, List.append_assoc, tChain, tDIn, tDNotIn, sDDel, tAug, ipI, rInt1_int, rInt1_bl]
    refine ⟨by rw [sizeLine_eq]; decide, fun p np => ?_⟩
    have kp := (Kp.new np : Kp [] H (upd H p (.lst [.int 6])))
    refine ⟨c, p, [6], rfl, c0, sq_l upd_same, by decide, fun x hx => by rw [List.mem_singleton.mp hx]; decide, fun d1 l1 H1 n1 h1 dl1 hd1 k1 => ?_⟩
    obtain ⟨z, rfl⟩ : ∃ z, d1 = [z] := by
      match d1, dl1 with
      | [z], _ => exact ⟨z, rfl⟩
    obtain ⟨z0, z6⟩ := hd1 0 z 6 rfl rfl
    have k01 := kp.trans k1
    obtain ⟨b, eb, b1, b6⟩ : ∃ b : Nat, 1 + z = (b : Nat) ∧ 1 ≤ b ∧ b ≤ 6 := ⟨(1 + z).toNat, by omega, by omega, by omega⟩
    refine ⟨l1, rfl, _, sq_l h1, _, rfl, z, rfl, by rw [sizeLine_eq]; decide, fun p2 np2 => ?_⟩
    rw [eb]
    have lus : us.length = ds.length := hus.len
    refine forN b (by omega) (fun j σ H' => ∃ (sp : Addr) (c5 : Option V), σ = [some (.int c), some (.ref a), some (.int 6), some (.int (b : Nat)), some (.ref sp), c5, none, none, none, none, none, none] ∧ H' sp = some (.lst ((spansF 6 (ds.length : Nat) (b : Nat) j).map V.int)) ∧ Kp [] H1 H') (fun R r => ⟨_, rfl, r⟩) ⟨p2, none, rfl, upd_same, Kp.new np2⟩ (fun j σ H' hj h => ?_) fun σ H' h => ?_
    · obtain ⟨sp, c5, rfl, hsp, k2⟩ := h
      have ha2 := k2 _ _ not0 (k01 _ _ not0 ha)
      have hhi := hm.hi
      try simp (maxSteps := 1000000) only [tSeq, tIfS, tTest, tOp, tUn, tCB, tCons, tNil, tVar, tC, rI0, rI, rU, rEq, rNe, tRet, tRetN, tAsg, gName, gSub, tBM, tBM0, tNext, tB, tNot, tAnd, tOr, tIf, tCall, tDrop, tBreak, tCont, L2.start, tDGet, sDPut, tTup, tLst, tDNewK, tRevL, rCat, rAppend, rPop, rSetL, tAndV, tOrV, tNotV, tSl, tPart, tNoPart, tM1, gTup, gCons, gNil, cxK, cxnK, List.map_cons, List.map_nil, List.length_cons, List.length_nil, List.replicate, List.cons_append, List.nil_append, List.append_nil, List.set_cons_zero, List.set_cons_succ, List.getElem?_cons_zero, List.getElem?_cons_succ, Option.some.injEq, V.ref.injEq, V.int.injEq, V.str.injEq, V.bl.injEq, V.ty.injEq, exists_eq_left', exists_eq_left, exists_and_left, List.cons.injEq, and_true, true_and, sc_ii, sc_ss, sc_bb, sc_ni, sc_in, sc_is, sc_si, sc_nn, decide_true, decide_false, reduceCtorEq, Bool.false_eq_true, if_true, if_false, ite_true, ite_false, exists_const, eq_self, false_and, and_false, or_false, false_or, exists_false, Evl.rLenS, rSum, wipe, tYes, exists_eq, exists_eq', rIxL, rIxT, rIxS, exists_and_right, gt_iff_lt, not_true_eq_false, not_false_eq_true, Bool.not_true, Bool.not_false, decide_eq_true_eq, Nat.reduceSub, Nat.reduceAdd, List.append_assoc, tChain, tDIn, tDNotIn, sDDel, tAug, ipI, rInt1_int, rInt1_bl]
      refine ⟨_, .inl (sq_l ha2), _, .inl (sq_l ha2), _, .inl (sq_l ha2), by rw [sizeLine_eq]; decide, fun p np => ?_⟩
      rw [lus]
      have kq := (Kp.new np : Kp [] H' (upd H' p (.lst [.int 6, .int (ds.length : Nat), .int (b : Nat), .int (ds.length : Nat), .int (b : Nat), .int (ds.length : Nat), .int (b : Nat)])))
      refine ⟨_, kq _ _ not0 hsp, _, upd_same, ?_, fun r nr => ⟨?_, (k2.trans kq).trans (Kp.new nr)⟩⟩
      · rw [List.length_map, spansF_len, sizeLine_eq]
        show 1 + 7 * j + 7 ≤ _
        omega
      · rw [upd_same, show spansF 6 (ds.length : Nat) (b : Nat) (j + 1) = spansF 6 (ds.length : Nat) (b : Nat) j ++ ([6, (ds.length : Nat), (b : Nat), (ds.length : Nat), (b : Nat), (ds.length : Nat), (b : Nat)] : List Int) from rfl, List.map_append]; rfl
    · obtain ⟨sp, c5, rfl, hsp, k2⟩ := h
      have hlo := hm.lo
      have hhi := hm.hi
      try simp (maxSteps := 1000000) only [tSeq, tIfS, tTest, tOp, tUn, tCB, tCons, tNil, tVar, tC, rI0, rI, rU, rEq, rNe, tRet, tRetN, tAsg, gName, gSub, tBM, tBM0, tNext, tB, tNot, tAnd, tOr, tIf, tCall, tDrop, tBreak, tCont, L2.start, tDGet, sDPut, tTup, tLst, tDNewK, tRevL, rCat, rAppend, rPop, rSetL, tAndV, tOrV, tNotV, tSl, tPart, tNoPart, tM1, gTup, gCons, gNil, cxK, cxnK, List.map_cons, List.map_nil, List.length_cons, List.length_nil, List.replicate, List.cons_append, List.nil_append, List.append_nil, List.set_cons_zero, List.set_cons_succ, List.getElem?_cons_zero, List.getElem?_cons_succ, Option.some.injEq, V.ref.injEq, V.int.injEq, V.str.injEq, V.bl.injEq, V.ty.injEq, exists_eq_left', exists_eq_left, exists_and_left, List.cons.injEq, and_true, true_and, sc_ii, sc_ss, sc_bb, sc_ni, sc_in, sc_is, sc_si, sc_nn, decide_true, decide_false, reduceCtorEq, Bool.false_eq_true, if_true, if_false, ite_true, ite_false, exists_const, eq_self, false_and, and_false, or_false, false_or, exists_false, Evl.rLenS, rSum, wipe, tYes, exists_eq, exists_eq', rIxL, rIxT, rIxS, exists_and_right, gt_iff_lt, not_true_eq_false, not_false_eq_true, Bool.not_true, Bool.not_false, decide_eq_true_eq, Nat.reduceSub, Nat.reduceAdd, List.append_assoc, tChain, tDIn, tDNotIn, sDDel, tAug, ipI, rInt1_int, rInt1_bl]
      refine ⟨c, sp, spansF 6 (ds.length : Nat) (b : Nat) b, rfl, c0, sq_l hsp, by rw [spansF_len]; omega, spansF_pos (by decide) ⟨by omega, by omega⟩ ⟨by omega, by omega⟩, fun dr dl H2 nd hdl dlen hdr k3 => ⟨Nat.zero_le _, fun rl nr => ?_⟩⟩
      have k03 := (k01.trans k2).trans k3
      have ha3 := k03 _ _ not0 ha
      have hus3 : Rw (TDv H2) us ds := hus.mono fun _ _ z => z.tp k03.tps
      refine forN b (by omega) (fun j σ H' => ∃ (rs : List V) (rows : List (List Mv)) (c5 c8 c9 c10 : Option V), σ = [some (.int c), some (.ref a), some (.int 6), some (.int (b : Nat)), some (.ref sp), c5, some (.ref dl), some (.ref rl), c8, c9, c10, none] ∧ H' rl = some (.lst rs) ∧ Rw (RwN rl H') rs rows ∧ rows.length = j ∧ (∀ r ∈ rows, MsI b 3 r) ∧ Kp [] H2 H') (fun R r => ⟨_, rfl, r⟩) ⟨[], [], _, _, _, _, rfl, upd_same, .nil, rfl, fun r h => (nomatch h), Kp.new nr⟩ (fun j σ H' hj h => ?_) fun σ H' h => ?_
      · obtain ⟨rs, rows, c5, c8, c9, c10, rfl, hrl, hrs, rlen, hrows, k4⟩ := h
        have hdl4 := k4 _ _ not0 hdl
        have at_ : ∀ (o : Nat) (s : Int), o < 7 → [6, ((ds.length : Nat) : Int), (b : Nat), (ds.length : Nat), (b : Nat), (ds.length : Nat), (b : Nat)][o]? = some s → ∃ z : Int, atI (dr.map V.int) ((1 + 7 * j + o : Nat) : Int) = some (.int z) ∧ 0 ≤ z ∧ z < s := fun o s ho e => dr_at dlen hdr (by rw [spansF_at hj ho]; exact e)
        obtain ⟨x6, ex6, x60, x66⟩ := at_ 0 6 (by decide) rfl
        obtain ⟨xn, exn⟩ := Int.eq_ofNat_of_zero_le x60
        obtain ⟨cn, cn3, ecn⟩ := cnt_at xn (by omega)
        try simp (maxSteps := 1000000) only [tSeq, tIfS, tTest, tOp, tUn, tCB, tCons, tNil, tVar, tC, rI0, rI, rU, rEq, rNe, tRet, tRetN, tAsg, gName, gSub, tBM, tBM0, tNext, tB, tNot, tAnd, tOr, tIf, tCall, tDrop, tBreak, tCont, L2.start, tDGet, sDPut, tTup, tLst, tDNewK, tRevL, rCat, rAppend, rPop, rSetL, tAndV, tOrV, tNotV, tSl, tPart, tNoPart, tM1, gTup, gCons, gNil, cxK, cxnK, List.map_cons, List.map_nil, List.length_cons, List.length_nil, List.replicate, List.cons_append, List.nil_append, List.append_nil, List.set_cons_zero, List.set_cons_succ, List.getElem?_cons_zero, List.getElem?_cons_succ, Option.some.injEq, V.ref.injEq, V.int.injEq, V.str.injEq, V.bl.injEq, V.ty.injEq, exists_eq_left', exists_eq_left, exists_and_left, List.cons.injEq, and_true, true_and, sc_ii, sc_ss, sc_bb, sc_ni, sc_in, sc_is, sc_si, sc_nn, decide_true, decide_false, reduceCtorEq, Bool.false_eq_true, if_true, if_false, ite_true, ite_false, exists_const, eq_self, false_and, and_false, or_false, false_or, exists_false, Evl.rLenS, rSum, wipe, tYes, exists_eq, exists_eq', rIxL, rIxT, rIxS, exists_and_right, gt_iff_lt, not_true_eq_false, not_false_eq_true, Bool.not_true, Bool.not_false, decide_eq_true_eq, Nat.reduceSub, Nat.reduceAdd, List.append_assoc, tChain, tDIn, tDNotIn, sDDel, tAug, ipI, rInt1_int, rInt1_bl]
        refine ⟨Nat.zero_le _, fun mv nmv => ?_⟩
        have kmv := (Kp.new nmv : Kp [] H' (upd H' mv (.lst [])))
        have hmv : (upd H' mv (.lst [])) mv = some (.lst []) := upd_same
        have nrl : mv ≠ rl := fun z => by rw [z, hrl] at nmv; cases nmv
        have k05 := k4.trans kmv
        generalize upd H' mv (.lst []) = H3 at kmv hmv k05
        have hdl5 := kmv _ _ not0 hdl4
        refine forN1 cn (by omega) (fun i σ G => ∃ (ms : List Mv) (vs : List V) (c9 c10 : Option V), σ = [some (.int c), some (.ref a), some (.int 6), some (.int (b : Nat)), some (.ref sp), some (.int (j : Nat)), some (.ref dl), some (.ref rl), some (.ref mv), c9, c10, none] ∧ G mv = some (.lst vs) ∧ Rw (TM G) vs ms ∧ MsI b i ms ∧ Kp [] H' G) (fun R r => ?_) (fun G kG => ⟨[], [], _, _, rfl, kG _ _ not0 hmv, .nil, ⟨fun x h => (nomatch h), fun x h => (nomatch h), List.nodup_nil, Nat.le_refl _⟩, kmv.trans kG⟩) (fun i σ G hi h => ?_) fun σ G h => ?_
        · try simp (maxSteps := 1000000) only [tSeq, tIfS, tTest, tOp, tUn, tCB, tCons, tNil, tVar, tC, rI0, rI, rU, rEq, rNe, tRet, tRetN, tAsg, gName, gSub, tBM, tBM0, tNext, tB, tNot, tAnd, tOr, tIf, tCall, tDrop, tBreak, tCont, L2.start, tDGet, sDPut, tTup, tLst, tDNewK, tRevL, rCat, rAppend, rPop, rSetL, tAndV, tOrV, tNotV, tSl, tPart, tNoPart, tM1, gTup, gCons, gNil, cxK, cxnK, List.map_cons, List.map_nil, List.length_cons, List.length_nil, List.replicate, List.cons_append, List.nil_append, List.append_nil, List.set_cons_zero, List.set_cons_succ, List.getElem?_cons_zero, List.getElem?_cons_succ, Option.some.injEq, V.ref.injEq, V.int.injEq, V.str.injEq, V.bl.injEq, V.ty.injEq, exists_eq_left', exists_eq_left, exists_and_left, List.cons.injEq, and_true, true_and, sc_ii, sc_ss, sc_bb, sc_ni, sc_in, sc_is, sc_si, sc_nn, decide_true, decide_false, reduceCtorEq, Bool.false_eq_true, if_true, if_false, ite_true, ite_false, exists_const, eq_self, false_and, and_false, or_false, false_or, exists_false, Evl.rLenS, rSum, wipe, tYes, exists_eq, exists_eq', rIxL, rIxT, rIxS, exists_and_right, gt_iff_lt, not_true_eq_false, not_false_eq_true, Bool.not_true, Bool.not_false, decide_eq_true_eq, Nat.reduceSub, Nat.reduceAdd, List.append_assoc, tChain, tDIn, tDNotIn, sDDel, tAug, ipI, rInt1_int, rInt1_bl]
          refine ⟨by rw [sizeLine_eq]; decide, fun pc npc => ?_⟩
          have kpc := (Kp.new npc : Kp [] H3 (upd H3 pc (.lst [.int 2, .int 1, .int 3, .int 2, .int 3, .int 0])))
          have ex6' : atI (dr.map V.int) (1 + 7 * (j : Int)) = some (.int (xn : Nat)) := by
            rw [← exn, ← ex6]; congr 1
          exact ⟨.inl ⟨by decide, by decide⟩, _, sq_l (kpc _ _ not0 hdl5), _, ex6', _, _, rfl, sq_l upd_same, _, atI_of (xs := cntL.map V.int) (by omega) (by rw [List.getElem?_map, Int.toNat_natCast, ecn]; rfl), r _ kpc⟩
        · obtain ⟨ms, vs, c9, c10, rfl, hv, hms, hI, kG⟩ := h
          have i3 : i < 3 := by omega
          have o1 : [6, ((ds.length : Nat) : Int), (b : Nat), (ds.length : Nat), (b : Nat), (ds.length : Nat), (b : Nat)][1 + 2 * i]? = some ((ds.length : Nat) : Int) := by
            match i, i3 with
            | 0, _ => rfl
            | 1, _ => rfl
            | 2, _ => rfl
          have o2 : [6, ((ds.length : Nat) : Int), (b : Nat), (ds.length : Nat), (b : Nat), (ds.length : Nat), (b : Nat)][2 + 2 * i]? = some ((b : Nat) : Int) := by
            match i, i3 with
            | 0, _ => rfl
            | 1, _ => rfl
            | 2, _ => rfl
          obtain ⟨xd, exd, xd0, xd1⟩ := at_ (1 + 2 * i) _ (by omega) o1
          obtain ⟨xg, exg, xg0, xg1⟩ := at_ (2 + 2 * i) _ (by omega) o2
          have exd' : atI (dr.map V.int) (2 + 7 * (j : Int) + 2 * (i : Int)) = some (.int xd) := by
            rw [← exd]; congr 1; omega
          have exg' : atI (dr.map V.int) (3 + 7 * (j : Int) + 2 * (i : Int)) = some (.int xg) := by
            rw [← exg]; congr 1; omega
          have c7 : CMul 7 (j : Int) := .inl ⟨by decide, by decide⟩
          have c2 : CMul 2 (i : Int) := .inl ⟨by decide, by decide⟩
          have kG2 := k4.trans kG
          have hdlG := kG _ _ not0 hdl4
          have haG := kG2 _ _ not0 ha3
          have ed : ds[xd.toNat]? = some (ds[xd.toNat]'(by omega)) := List.getElem?_eq_getElem _
          generalize ds[xd.toNat]'(by omega) = d at ed
          obtain ⟨u, eu, hu⟩ := hus3.at ed
          have gd := hm.good d (List.mem_of_getElem? ed)
          have huG := hu.tp kG2.tps
          try simp (maxSteps := 1000000) only [tSeq, tIfS, tTest, tOp, tUn, tCB, tCons, tNil, tVar, tC, rI0, rI, rU, rEq, rNe, tRet, tRetN, tAsg, gName, gSub, tBM, tBM0, tNext, tB, tNot, tAnd, tOr, tIf, tCall, tDrop, tBreak, tCont, L2.start, tDGet, sDPut, tTup, tLst, tDNewK, tRevL, rCat, rAppend, rPop, rSetL, tAndV, tOrV, tNotV, tSl, tPart, tNoPart, tM1, gTup, gCons, gNil, cxK, cxnK, List.map_cons, List.map_nil, List.length_cons, List.length_nil, List.replicate, List.cons_append, List.nil_append, List.append_nil, List.set_cons_zero, List.set_cons_succ, List.getElem?_cons_zero, List.getElem?_cons_succ, Option.some.injEq, V.ref.injEq, V.int.injEq, V.str.injEq, V.bl.injEq, V.ty.injEq, exists_eq_left', exists_eq_left, exists_and_left, List.cons.injEq, and_true, true_and, sc_ii, sc_ss, sc_bb, sc_ni, sc_in, sc_is, sc_si, sc_nn, decide_true, decide_false, reduceCtorEq, Bool.false_eq_true, if_true, if_false, ite_true, ite_false, exists_const, eq_self, false_and, and_false, or_false, false_or, exists_false, Evl.rLenS, rSum, wipe, tYes, exists_eq, exists_eq', rIxL, rIxT, rIxS, exists_and_right, gt_iff_lt, not_true_eq_false, not_false_eq_true, Bool.not_true, Bool.not_false, decide_eq_true_eq, Nat.reduceSub, Nat.reduceAdd, List.append_assoc, tChain, tDIn, tDNotIn, sDDel, tAug, ipI, rInt1_int, rInt1_bl]
          refine ⟨c7, c2, _, sq_l hdlG, _, exd', _, xd, rfl, sq_l haG, u, atI_of xd0 eu, ?_⟩
          refine lcRelL (R := TM) (R2 := TDv) (fun _ _ _ _ t h => h.tp t) (fun _ _ _ _ t h => h.tp t) (fun m => m.1) (fun R r => ⟨.ref mv, rfl, r⟩) (sq_l hv) hms (by have := hI.len; omega) (show 11 < 12 by decide) (fun v m H5 Q5 hmm hvm k5 q5 => ?_) (fun D ws H5 nD hD hw k5 => ?_)
          · obtain ⟨ta, tt, rfl, h1, h2⟩ := hvm
            try simp (maxSteps := 1000000) only [tSeq, tIfS, tTest, tOp, tUn, tCB, tCons, tNil, tVar, tC, rI0, rI, rU, rEq, rNe, tRet, tRetN, tAsg, gName, gSub, tBM, tBM0, tNext, tB, tNot, tAnd, tOr, tIf, tCall, tDrop, tBreak, tCont, L2.start, tDGet, sDPut, tTup, tLst, tDNewK, tRevL, rCat, rAppend, rPop, rSetL, tAndV, tOrV, tNotV, tSl, tPart, tNoPart, tM1, gTup, gCons, gNil, cxK, cxnK, List.map_cons, List.map_nil, List.length_cons, List.length_nil, List.replicate, List.cons_append, List.nil_append, List.append_nil, List.set_cons_zero, List.set_cons_succ, List.getElem?_cons_zero, List.getElem?_cons_succ, Option.some.injEq, V.ref.injEq, V.int.injEq, V.str.injEq, V.bl.injEq, V.ty.injEq, exists_eq_left', exists_eq_left, exists_and_left, List.cons.injEq, and_true, true_and, sc_ii, sc_ss, sc_bb, sc_ni, sc_in, sc_is, sc_si, sc_nn, decide_true, decide_false, reduceCtorEq, Bool.false_eq_true, if_true, if_false, ite_true, ite_false, exists_const, eq_self, false_and, and_false, or_false, false_or, exists_false, Evl.rLenS, rSum, wipe, tYes, exists_eq, exists_eq', rIxL, rIxT, rIxS, exists_and_right, gt_iff_lt, not_true_eq_false, not_false_eq_true, Bool.not_true, Bool.not_false, decide_eq_true_eq, Nat.reduceSub, Nat.reduceAdd, List.append_assoc, tChain, tDIn, tDNotIn, sDDel, tAug, ipI, rInt1_int, rInt1_bl]
            exact ⟨_, sq_t h1, _, rfl, q5 _ _ ⟨tt, rfl, h2⟩ (Kp.refl _ _)⟩
          have huH := huG.tp k5.tps
          have hv5 := k5 _ _ not0 hv
          have hms5 := rwTM hms k5.tps
          have hl := hI.len
          refine ⟨_, _, D, ws, rfl, .inl (sq_l hD), rwDp hw, huH.dp, (shDd gd).1, shDds (fun x hx => by
            obtain ⟨m, hm2, rfl⟩ := List.mem_map.mp hx
            exact hI.deed m hm2), _, rfl, ?_⟩
          rw [if_pos rfl, anyDd]
          cases hh : hasD (ms.map fun m => m.1) d with
          | true =>
            simp only [Bool.not_true, Bool.false_eq_true, if_false]
            exact ⟨ms, vs, hv5, hms5, ⟨hI.deed, hI.goal, hI.uniq, by omega⟩, kG.trans k5⟩
          | false =>
            simp only [Bool.not_false, if_true]
            have nin : d ∉ ms.map (·.1) := fun z => by rw [hasD_iff.mpr z] at hh; cases hh
            refine ⟨.inl ⟨rfl, _, sq_l hv5⟩, c7, c2, _, sq_l (k5 _ _ not0 hdlG), _, exg', by rw [sizeLine_eq]; decide, fun p np => ?_⟩
            have kp2 := (Kp.new np : Kp [] H5 (upd H5 p (.tup [u, .int xg])))
            have hp : (upd H5 p (.tup [u, .int xg])) p = some (.tup [u, .int xg]) := upd_same
            generalize upd H5 p (.tup [u, .int xg]) = H6 at kp2 hp
            have hv6 := kp2 _ _ not0 hv5
            obtain ⟨t, rfl, ht⟩ := huH
            have tp : Tp H6 (upd H6 mv (.lst (vs ++ [.ref p]))) := (Tp.refl H6).putL hv6
            have nw : TM H6 (.ref p) (d, xg) := ⟨p, t, rfl, hp, kp2.tps _ _ ht⟩
            exact ⟨vs, hv6, by rw [hms.len, sizeLine_eq]; omega, ms ++ [(d, xg)], _, upd_same, (rwTM (rwTM hms5 kp2.tps) tp).snoc (nw.tp tp), hI.put gd nin xg0 xg1, ((kG.trans k5).trans kp2).wr nmv⟩
        · obtain ⟨ms, vs, c9, c10, rfl, hv, hms, hI, kG⟩ := h
          try simp (maxSteps := 1000000) only [tSeq, tIfS, tTest, tOp, tUn, tCB, tCons, tNil, tVar, tC, rI0, rI, rU, rEq, rNe, tRet, tRetN, tAsg, gName, gSub, tBM, tBM0, tNext, tB, tNot, tAnd, tOr, tIf, tCall, tDrop, tBreak, tCont, L2.start, tDGet, sDPut, tTup, tLst, tDNewK, tRevL, rCat, rAppend, rPop, rSetL, tAndV, tOrV, tNotV, tSl, tPart, tNoPart, tM1, gTup, gCons, gNil, cxK, cxnK, List.map_cons, List.map_nil, List.length_cons, List.length_nil, List.replicate, List.cons_append, List.nil_append, List.append_nil, List.set_cons_zero, List.set_cons_succ, List.getElem?_cons_zero, List.getElem?_cons_succ, Option.some.injEq, V.ref.injEq, V.int.injEq, V.str.injEq, V.bl.injEq, V.ty.injEq, exists_eq_left', exists_eq_left, exists_and_left, List.cons.injEq, and_true, true_and, sc_ii, sc_ss, sc_bb, sc_ni, sc_in, sc_is, sc_si, sc_nn, decide_true, decide_false, reduceCtorEq, Bool.false_eq_true, if_true, if_false, ite_true, ite_false, exists_const, eq_self, false_and, and_false, or_false, false_or, exists_false, Evl.rLenS, rSum, wipe, tYes, exists_eq, exists_eq', rIxL, rIxT, rIxS, exists_and_right, gt_iff_lt, not_true_eq_false, not_false_eq_true, Bool.not_true, Bool.not_false, decide_eq_true_eq, Nat.reduceSub, Nat.reduceAdd, List.append_assoc, tChain, tDIn, tDNotIn, sDDel, tAug, ipI, rInt1_int, rInt1_bl]
          have hrl2 := kG _ _ not0 hrl
          have kR : Kp [rl] G (upd G rl (.lst (rs ++ [.ref mv]))) := (Kp.refl [rl] G).put (by simp)
          refine ⟨.inl ⟨rfl, _, sq_l hrl2⟩, rs, hrl2, by rw [hrs.len, sizeLine_eq]; omega, _, upd_same, rows ++ [ms], ?_, by simp [rlen], fun r hr2 => ?_, (k4.trans kG).wr nr⟩
          · refine (hrs.mono fun u g h => (h.kp0 kG).kp hrl2 kR).snoc ?_
            exact RwN.kp ⟨mv, vs, rfl, nrl, hv, hms⟩ hrl2 kR
          · rcases List.mem_append.mp hr2 with h | h
            · exact hrows r h
            · rw [List.mem_singleton.mp h]
              exact ⟨hI.deed, hI.goal, hI.uniq, by have := hI.len; omega⟩
      · obtain ⟨rs, rows, c5, c8, c9, c10, rfl, hrl, hrs, rlen, hrows, k4⟩ := h
        try simp (maxSteps := 1000000) only [tSeq, tIfS, tTest, tOp, tUn, tCB, tCons, tNil, tVar, tC, rI0, rI, rU, rEq, rNe, tRet, tRetN, tAsg, gName, gSub, tBM, tBM0, tNext, tB, tNot, tAnd, tOr, tIf, tCall, tDrop, tBreak, tCont, L2.start, tDGet, sDPut, tTup, tLst, tDNewK, tRevL, rCat, rAppend, rPop, rSetL, tAndV, tOrV, tNotV, tSl, tPart, tNoPart, tM1, gTup, gCons, gNil, cxK, cxnK, List.map_cons, List.map_nil, List.length_cons, List.length_nil, List.replicate, List.cons_append, List.nil_append, List.append_nil, List.set_cons_zero, List.set_cons_succ, List.getElem?_cons_zero, List.getElem?_cons_succ, Option.some.injEq, V.ref.injEq, V.int.injEq, V.str.injEq, V.bl.injEq, V.ty.injEq, exists_eq_left', exists_eq_left, exists_and_left, List.cons.injEq, and_true, true_and, sc_ii, sc_ss, sc_bb, sc_ni, sc_in, sc_is, sc_si, sc_nn, decide_true, decide_false, reduceCtorEq, Bool.false_eq_true, if_true, if_false, ite_true, ite_false, exists_const, eq_self, false_and, and_false, or_false, false_or, exists_false, Evl.rLenS, rSum, wipe, tYes, exists_eq, exists_eq', rIxL, rIxT, rIxS, exists_and_right, gt_iff_lt, not_true_eq_false, not_false_eq_true, Bool.not_true, Bool.not_false, decide_eq_true_eq, Nat.reduceSub, Nat.reduceAdd, List.append_assoc, tChain, tDIn, tDNotIn, sDDel, tAug, ipI, rInt1_int, rInt1_bl]
        refine q rl rs rows H' (k03.free0 nr) hrl hrs (by omega) (by omega) (fun r hr2 => ?_) (k03.trans k4)
        have := hrows r hr2
        exact ⟨⟨this.deed, by rw [rlen]; exact this.goal, this.uniq, by have := this.len; omega⟩, by have := this.len; omega⟩
end
end My

set_option Elab.async false
set_option linter.all false
set_option maxRecDepth 100000
set_option maxHeartbeats 4000000
namespace My
open PySem L2 NdefX
abbrev s_law_copy : Stmt := top 27
theorem sc_law_copy : FnScope ["_law_rows", "_law_moves"] ["_law_rows"] (defScope s_law_copy) := ⟨rfl, rfl, rfl, by decide +kernel, rfl, by decide +kernel, by decide +kernel⟩
abbrev s_law_turned : Stmt := top 28
theorem sc_law_turned : FnScope ["_law_rows", "_law_moves"] ["_law_rows"] (defScope s_law_turned) := ⟨rfl, rfl, rfl, by decide +kernel, rfl, by decide +kernel, by decide +kernel⟩
theorem ifs_both {c : TT} {t u : TS} {D : Ends} {σ : L2.St} {H : Hp} (Pv : L2.St → Hp → Prop) (h : ∀ Dn : Ends, (∀ σ' H', Pv σ' H' → Dn.nx σ' H') → tIfS c t u Dn σ H) (h2 : ∀ σ' H', Pv σ' H' → D.nx σ' H') : tIfS c t u D σ H := h D h2
theorem Rw.map {α β : Type} {R : V → β → Prop} {f : α → β} {us : List V} {gs : List α} (h : Rw (fun v x => R v (f x)) us gs) : Rw R us (gs.map f) := ⟨by simp [h.len], fun {i u} e => by
  obtain ⟨g, eg, hg⟩ := h.get e
  exact ⟨f g, by rw [List.getElem?_map, eg]; rfl, hg⟩⟩
section
variable {P : Program} {w : World} {K : PySem.W.Frag} {mg : Str → Option Value} {base : Heap} {t1 : Tok}
def spCopy : Sp := fun vs H Q _ => ∃ (a : Addr) (rs : List V) (rows : List (List Mv)), vs = [.ref a] ∧ H a = some (.lst rs) ∧ Rw (RwAt H) rs rows ∧ rows.length ≤ 100 ∧ ∀ (l : Addr) (rs' : List V) H', H l = none → H' l = some (.lst rs') → Rw (RwN l H') rs' rows → Kp [] H H' → Q (.ref l) H'
theorem ok_law_copy {f : Addr} {fd : FuncData} (D : Df K mg "_law_copy" s_law_copy ["_law_rows"] f fd) (T : BtW mg t1) : FnOk P w K mg base CX0 1 f fd ["_law_rows"] spCopy := by
  refine D.F.ok sc_law_copy (fun vs H Q E h => ?_) (fun cdv A outer s H vs Q E hr h => ?_)
  · obtain ⟨_, _, _, rfl, _⟩ := h
    rfl
  · obtain ⟨a, rs, rows, rfl, ha, hrs, rl, q⟩ := h
    refine ⟨_, (pss_one (ps_ret (pe_lc (own := [("_law_moves", 1)]) (g := (gName 1)) (tt := tYes) rfl sc_law_copy.nd (pi_list (pv 0)) (blkOk_by (N := ["_law_rows", "_law_moves"]) (sc := defScope s_law_copy) (by decide +kernel)) (fun _ _ _ _ _ => (pg_name (i := 1) sc_law_copy.nd rfl (Or.inl rfl))) (fun _ _ _ _ _ => pts_nil) (fun _ _ _ _ _ => (pe_callTy (T := "list") (r := rLstOf K) call_list_of (by rfl) T.b_list (by decide +kernel) (pa_cons (pv 1) pa_nil)))))), ?_⟩
    try simp (maxSteps := 1000000) only [tSeq, tIfS, tTest, tOp, tUn, tCB, tCons, tNil, tVar, tC, rI0, rI, rU, rEq, rNe, tRet, tRetN, tAsg, gName, gSub, tBM, tBM0, tNext, tB, tNot, tAnd, tOr, tIf, tCall, tDrop, tBreak, tCont, L2.start, tDGet, sDPut, tTup, tLst, tDNewK, tRevL, rCat, rAppend, rPop, rSetL, tAndV, tOrV, tNotV, tSl, tPart, tNoPart, tM1, gTup, gCons, gNil, cxK, cxnK, List.map_cons, List.map_nil, List.length_cons, List.length_nil, List.replicate, List.cons_append, List.nil_append, List.append_nil, List.set_cons_zero, List.set_cons_succ, List.getElem?_cons_zero, List.getElem?_cons_succ, Option.some.injEq, V.ref.injEq, V.int.injEq, V.str.injEq, V.bl.injEq, V.ty.injEq, exists_eq_left', exists_eq_left, exists_and_left, List.cons.injEq, and_true, true_and, sc_ii, sc_ss, sc_bb, sc_ni, sc_in, sc_is, sc_si, sc_nn, decide_true, decide_false, reduceCtorEq, Bool.false_eq_true, if_true, if_false, ite_true, ite_false, exists_const, eq_self, false_and, and_false, or_false, false_or, exists_false, Evl.rLenS, rSum, wipe, tYes, exists_eq, exists_eq', rIxL, rIxT, rIxS, exists_and_right, gt_iff_lt, not_true_eq_false, not_false_eq_true, Bool.not_true, Bool.not_false, decide_eq_true_eq, Nat.reduceSub, Nat.reduceAdd, List.append_assoc, tChain, tDIn, tDNotIn, sDDel, tAug, ipI, rInt1_int, rInt1_bl]
    refine lcK (R := RwAt) (R2 := RwN) (fun _ _ _ _ k z => z.kd k.kd) (fun _ _ _ _ _ _ hD k z => z.kp hD k) (fun R r => ⟨.ref a, rfl, r⟩) (sq_l ha) hrs (by omega) (show 1 < 2 by decide) (fun D v x H' Q' hx hv k' hD q' => ?_) fun D ws H' nD hD hw k => q D ws H' nD hD hw k
    obtain ⟨r, us, rfl, hr2, hm⟩ := hv
    obtain ⟨ys, hD⟩ := hD
    try simp (maxSteps := 1000000) only [tSeq, tIfS, tTest, tOp, tUn, tCB, tCons, tNil, tVar, tC, rI0, rI, rU, rEq, rNe, tRet, tRetN, tAsg, gName, gSub, tBM, tBM0, tNext, tB, tNot, tAnd, tOr, tIf, tCall, tDrop, tBreak, tCont, L2.start, tDGet, sDPut, tTup, tLst, tDNewK, tRevL, rCat, rAppend, rPop, rSetL, tAndV, tOrV, tNotV, tSl, tPart, tNoPart, tM1, gTup, gCons, gNil, cxK, cxnK, List.map_cons, List.map_nil, List.length_cons, List.length_nil, List.replicate, List.cons_append, List.nil_append, List.append_nil, List.set_cons_zero, List.set_cons_succ, List.getElem?_cons_zero, List.getElem?_cons_succ, Option.some.injEq, V.ref.injEq, V.int.injEq, V.str.injEq, V.bl.injEq, V.ty.injEq, exists_eq_left', exists_eq_left, exists_and_left, List.cons.injEq, and_true, true_and, sc_ii, sc_ss, sc_bb, sc_ni, sc_in, sc_is, sc_si, sc_nn, decide_true, decide_false, reduceCtorEq, Bool.false_eq_true, if_true, if_false, ite_true, ite_false, exists_const, eq_self, false_and, and_false, or_false, false_or, exists_false, Evl.rLenS, rSum, wipe, tYes, exists_eq, exists_eq', rIxL, rIxT, rIxS, exists_and_right, gt_iff_lt, not_true_eq_false, not_false_eq_true, Bool.not_true, Bool.not_false, decide_eq_true_eq, Nat.reduceSub, Nat.reduceAdd, List.append_assoc, tChain, tDIn, tDNotIn, sDDel, tAug, ipI, rInt1_int, rInt1_bl]
    refine ⟨r, us, rfl, .inl (sq_l hr2), fun l nl => ?_⟩
    exact q' _ _ ⟨l, us, rfl, (fun z => by rw [z, hD] at nl; cases nl), upd_same, rwTM hm (Kp.new nl).tps⟩ (Kp.new nl)
def spTurned : Sp := fun vs H Q _ => ∃ (a : Addr) (rs : List V) (rows : List (List Mv)), vs = [.ref a] ∧ H a = some (.lst rs) ∧ Rw (RwAt H) rs rows ∧ rows.length ≤ 100 ∧ ∀ (l : Addr) (rs' : List V) H', H l = none → H' l = some (.lst rs') → Rw (RwAt H') rs' (rows.map List.reverse) → Kp [] H H' → Q (.ref l) H'
theorem rwRev {R : V → Mv → Prop} {us : List V} {ms : List Mv} (h : Rw R us ms) : Rw R us.reverse ms.reverse := by
  refine ⟨by simp [h.len], fun {i u} e => ?_⟩
  have li : i < us.length := by
    have := (List.getElem?_eq_some_iff.mp e).1
    simpa using this
  rw [List.getElem?_reverse li] at e
  obtain ⟨g, eg, hg⟩ := h.get e
  rw [List.getElem?_reverse (by rw [← h.len]; exact li), ← h.len]
  exact ⟨g, eg, hg⟩
theorem ok_law_turned {f : Addr} {fd : FuncData} (D : Df K mg "_law_turned" s_law_turned ["_law_rows"] f fd) : FnOk P w K mg base CX0 1 f fd ["_law_rows"] spTurned := by
  refine D.F.ok sc_law_turned (fun vs H Q E h => ?_) (fun cdv A outer s H vs Q E hr h => ?_)
  · obtain ⟨_, _, _, rfl, _⟩ := h
    rfl
  · obtain ⟨a, rs, rows, rfl, ha, hrs, rl, q⟩ := h
    refine ⟨_, (pss_one (ps_ret (pe_lc (own := [("_law_moves", 1)]) (g := (gName 1)) (tt := tYes) rfl sc_law_turned.nd (pi_list (pv 0)) (blkOk_by (N := ["_law_rows", "_law_moves"]) (sc := defScope s_law_turned) (by decide +kernel)) (fun _ _ _ _ _ => (pg_name (i := 1) sc_law_turned.nd rfl (Or.inl rfl))) (fun _ _ _ _ _ => pts_nil) (fun _ _ _ _ _ => (pe_revL (pv 1) : PE _ _ (tRevL K _)))))), ?_⟩
    try simp (maxSteps := 1000000) only [tSeq, tIfS, tTest, tOp, tUn, tCB, tCons, tNil, tVar, tC, rI0, rI, rU, rEq, rNe, tRet, tRetN, tAsg, gName, gSub, tBM, tBM0, tNext, tB, tNot, tAnd, tOr, tIf, tCall, tDrop, tBreak, tCont, L2.start, tDGet, sDPut, tTup, tLst, tDNewK, tRevL, rCat, rAppend, rPop, rSetL, tAndV, tOrV, tNotV, tSl, tPart, tNoPart, tM1, gTup, gCons, gNil, cxK, cxnK, List.map_cons, List.map_nil, List.length_cons, List.length_nil, List.replicate, List.cons_append, List.nil_append, List.append_nil, List.set_cons_zero, List.set_cons_succ, List.getElem?_cons_zero, List.getElem?_cons_succ, Option.some.injEq, V.ref.injEq, V.int.injEq, V.str.injEq, V.bl.injEq, V.ty.injEq, exists_eq_left', exists_eq_left, exists_and_left, List.cons.injEq, and_true, true_and, sc_ii, sc_ss, sc_bb, sc_ni, sc_in, sc_is, sc_si, sc_nn, decide_true, decide_false, reduceCtorEq, Bool.false_eq_true, if_true, if_false, ite_true, ite_false, exists_const, eq_self, false_and, and_false, or_false, false_or, exists_false, Evl.rLenS, rSum, wipe, tYes, exists_eq, exists_eq', rIxL, rIxT, rIxS, exists_and_right, gt_iff_lt, not_true_eq_false, not_false_eq_true, Bool.not_true, Bool.not_false, decide_eq_true_eq, Nat.reduceSub, Nat.reduceAdd, List.append_assoc, tChain, tDIn, tDNotIn, sDDel, tAug, ipI, rInt1_int, rInt1_bl]
    refine lcK (R := RwAt) (R2 := fun D H v x => RwN D H v x.reverse) (fun _ _ _ _ k z => z.kd k.kd) (fun _ _ _ _ _ _ hD k z => z.kp hD k) (fun R r => ⟨.ref a, rfl, r⟩) (sq_l ha) hrs (by omega) (show 1 < 2 by decide) (fun D v x H' Q' hx hv k' hD q' => ?_) fun D ws H' nD hD hw k => q D ws H' nD hD (hw.mono fun _ _ z => z.rw_).map k
    obtain ⟨r, us, rfl, hr2, hm⟩ := hv
    obtain ⟨ys, hD⟩ := hD
    try simp (maxSteps := 1000000) only [tSeq, tIfS, tTest, tOp, tUn, tCB, tCons, tNil, tVar, tC, rI0, rI, rU, rEq, rNe, tRet, tRetN, tAsg, gName, gSub, tBM, tBM0, tNext, tB, tNot, tAnd, tOr, tIf, tCall, tDrop, tBreak, tCont, L2.start, tDGet, sDPut, tTup, tLst, tDNewK, tRevL, rCat, rAppend, rPop, rSetL, tAndV, tOrV, tNotV, tSl, tPart, tNoPart, tM1, gTup, gCons, gNil, cxK, cxnK, List.map_cons, List.map_nil, List.length_cons, List.length_nil, List.replicate, List.cons_append, List.nil_append, List.append_nil, List.set_cons_zero, List.set_cons_succ, List.getElem?_cons_zero, List.getElem?_cons_succ, Option.some.injEq, V.ref.injEq, V.int.injEq, V.str.injEq, V.bl.injEq, V.ty.injEq, exists_eq_left', exists_eq_left, exists_and_left, List.cons.injEq, and_true, true_and, sc_ii, sc_ss, sc_bb, sc_ni, sc_in, sc_is, sc_si, sc_nn, decide_true, decide_false, reduceCtorEq, Bool.false_eq_true, if_true, if_false, ite_true, ite_false, exists_const, eq_self, false_and, and_false, or_false, false_or, exists_false, Evl.rLenS, rSum, wipe, tYes, exists_eq, exists_eq', rIxL, rIxT, rIxS, exists_and_right, gt_iff_lt, not_true_eq_false, not_false_eq_true, Bool.not_true, Bool.not_false, decide_eq_true_eq, Nat.reduceSub, Nat.reduceAdd, List.append_assoc, tChain, tDIn, tDNotIn, sDDel, tAug, ipI, rInt1_int, rInt1_bl, tRevL]
    refine ⟨us, sq_l hr2, fun l nl => ?_⟩
    exact q' _ _ ⟨l, us.reverse, rfl, (fun z => by rw [z, hD] at nl; cases nl), upd_same, rwTM (rwRev hm) (Kp.new nl).tps⟩ (Kp.new nl)
end
end My

set_option Elab.async false
set_option linter.all false
set_option maxRecDepth 100000
set_option maxHeartbeats 4000000
/-! ### x op y of own instances within a try -/
namespace My
open PySem PySem.Spec PyProof.Rows L2
def tOpS (C : Addr) (sp : Sp) (E : L2.St → XK) (ta tb : TE) : TE := fun σ H Q => ta σ H fun x H1 => tb σ H1 fun y H2 => rBinO C sp (E σ) x y H2 Q
section
variable {X : Cx} {CX : CXT} {C g : Addr} {fd : FuncData} {ps : List Str} {sp : Sp} {E : L2.St → XK} {k : Nat} {a b : Expr} {ta tb : TE} {pos : Pos}
theorem pe_opS {op : Operator} (c : BinC X.K C g op) (F : FnOk X.prog X.w X.K X.mg X.base CX k g fd ps sp) (hb : Binds X.K fd ps []) (hr : Room k X.A) (hx : ∀ σ, PassesAt CX X σ (E σ)) (h1 : PE X a ta) (h2 : PE X b tb) : PE X (.BinOp a op b pos) (tOpS C sp E ta tb) := by
  refine ⟨fun pins s σ H Q I h => ?_⟩
  refine wpAny_BinOp (binT h1 h2 I h fun v u s2 x y H2 I2 rx ry q => ?_)
  obtain ⟨p, dx, fs, r, dy, gs, rfl, rfl, hp, hr', q⟩ := q
  cases rx
  cases ry
  obtain ⟨ox, od, J⟩ := inst_of I2 hp
  obtain ⟨oy, ody, J'⟩ := inst_of I2 hr'
  obtain ⟨m, hF⟩ := I2.fr
  refine PySem.W.binop_K hF I2.ok.mod.kin J J'.type c.one c.at_ c.fn ?_
  refine thn (run_fnS (us := [.ref p, .ref r]) (vs := [.ref p, .ref r]) F hr hb (hx σ) I2 (.cons rfl (.cons rfl .nil)) q) ?_
  rintro w s' ⟨z, H', I', rz, qz⟩
  exact SlX.cmpback rz ⟨z, H', I', rz, qz⟩
end
end My

set_option Elab.async false
set_option linter.all false
set_option maxRecDepth 100000
set_option maxHeartbeats 4000000
namespace My
open PySem L2 NdefX
abbrev s_OtherWeb_init : Stmt := mtop 6 0
theorem sc_OtherWeb_init : NScope ["self", "__class__"] ["self"] ["__class__"] (defScope s_OtherWeb_init) := nscope_by (by decide +kernel)
theorem ok_OtherWeb_init {P : Program} {w : World} {K : PySem.W.Frag} {mg : Str → Option Value} {base : Heap} {CX : CXT} {f cc cda C : Addr} {fd : FuncData} (F : FunX K "__init__" "OtherWeb.__init__" s_OtherWeb_init f fd cc cda C) (T : ErrC K C) (G : CodeF K P cda) (hsup : mg "super" = none) :
    FnOk P w K mg base CX 1 f fd ["self"] (spErr0 C) := by
  have F0 := F
  obtain ⟨oc, od, kV, doc, pm, an, ct, osl, hfd, lk, hcd⟩ := F0.ex
  obtain ⟨cl, cld, csl, hcc⟩ := F0.cell
  refine F.ok sc_OtherWeb_init (fun vs H Q E h => ?_) (fun A outer s H vs Q E hr h => ?_)
  · obtain ⟨a, rfl, _⟩ := h
    rfl
  · obtain ⟨a, rfl, ha, q⟩ := h
    refine ⟨_, psat_cons (psat_sup T G lk (by rw [hfd]; rfl) hcc hsup rfl rfl rfl rfl rfl rfl rfl (pa_cons pe_str pa_nil) rfl rfl rfl rfl rfl) pss_nil, ?_⟩
    try simp (maxSteps := 1000000) only [tSeq, tIfS, tTest, tOp, tUn, tCB, tCons, tNil, tVar, tC, rI0, rI, rU, rEq, rNe, tRet, tRetN, tAsg, gName, gSub, tBM, tBM0, tNext, tB, tNot, tAnd, tOr, tIf, tCall, tDrop, tBreak, tCont, L2.start, tDGet, sDPut, tTup, tLst, tDNewK, tRevL, rCat, rAppend, rPop, rSetL, tAndV, tOrV, tNotV, tSl, tPart, tNoPart, tM1, gTup, gCons, gNil, cxK, cxnK, List.map_cons, List.map_nil, List.length_cons, List.length_nil, List.replicate, List.cons_append, List.nil_append, List.append_nil, List.set_cons_zero, List.set_cons_succ, List.getElem?_cons_zero, List.getElem?_cons_succ, Option.some.injEq, V.ref.injEq, V.int.injEq, V.str.injEq, V.bl.injEq, V.ty.injEq, exists_eq_left', exists_eq_left, exists_and_left, List.cons.injEq, and_true, true_and, sc_ii, sc_ss, sc_bb, sc_ni, sc_in, sc_is, sc_si, sc_nn, decide_true, decide_false, reduceCtorEq, Bool.false_eq_true, if_true, if_false, ite_true, ite_false, exists_const, eq_self, false_and, and_false, or_false, false_or, exists_false, Evl.rLenS, rSum, wipe, tYes, exists_eq, exists_eq', rIxL, rIxT, rIxS, exists_and_right, gt_iff_lt, not_true_eq_false, not_false_eq_true, Bool.not_true, Bool.not_false, decide_eq_true_eq, Nat.reduceSub, Nat.reduceAdd, List.append_assoc, tChain, tDIn, tDNotIn, sDDel, tAug, ipI, rInt1_int, rInt1_bl, startF, tSupI]
    exact ⟨ha, by decide, ha, q⟩
abbrev s_check_pairs : Stmt := top 16
theorem sc_check_pairs : FnScope ["low", "high", "pairs", "at", "high_at"] ["low", "high", "pairs"] (defScope s_check_pairs) := ⟨rfl, rfl, rfl, by decide +kernel, rfl, by decide +kernel, by decide +kernel⟩
abbrev s_Paper_init : Stmt := mtop 15 0
theorem sc_Paper_init : FnScope ["self", "low", "high", "pairs", "at", "high_at", "pair"] ["self", "low", "high", "pairs"] (defScope s_Paper_init) := ⟨rfl, rfl, rfl, by decide +kernel, rfl, by decide +kernel, by decide +kernel⟩
abbrev s_Paper_len : Stmt := mtop 15 1
theorem sc_Paper_len : FnScope ["self"] ["self"] (defScope s_Paper_len) := ⟨rfl, rfl, rfl, by decide +kernel, rfl, by decide +kernel, by decide +kernel⟩
abbrev s_Paper_contains : Stmt := mtop 15 2
theorem sc_Paper_contains : FnScope ["self", "x", "at", "high_at"] ["self", "x"] (defScope s_Paper_contains) := ⟨rfl, rfl, rfl, by decide +kernel, rfl, by decide +kernel, by decide +kernel⟩
abbrev s_Paper_iter : Stmt := mtop 15 3
theorem sc_Paper_iter : FnScope ["self"] ["self"] (defScope s_Paper_iter) := ⟨rfl, rfl, rfl, by decide +kernel, rfl, by decide +kernel, by decide +kernel⟩
theorem hu8 {A : Around} {k : Nat} (hr : Room k A) : A.units + 80 < cLine := by have := hr.un; omega
theorem scT_it {K : PySem.W.Frag} {P : Program} {w : World} {J : It} {n : Nat} {G : Hp → Prop} {Y : Nat → Hp → V → Hp → Prop} (wk : Walk J n G Y) {g : TG} {tt : TT} {te : TE} {vs : List Nat} {σ : L2.St} {H1 : Hp} {D : Addr} {Qd : Hp → Prop} (Inv : Nat → Hp → Prop) (begins : Inv 0 (upd H1 D (SetTO P w D []))) (may : ∀ i H, i ≤ n → Inv i H → G H)
    (turn : ∀ i x H H', i < n → Inv i H → Y i H x H' → g x (wipe σ vs) H' fun σ2 H2 => wipe σ2 vs = wipe σ vs ∧ tt σ2 H2 fun b H3 =>
      if b = true then te σ2 H3 fun y H4 => ∃ (x : Addr) (k : List Int) (L : List (Addr × List Int)), y = .ref x ∧ SqT K H4 x (k.map V.int) ∧ H4 D = some (SetTO P w D L) ∧ (∀ p ∈ L, SqT K H4 p.1 (p.2.map V.int)) ∧ L.length + 1 < 64 ∧
        ∀ L', (k ∈ L.map (·.2) → L' = L) → (k ∉ L.map (·.2) → L'.Perm ((x, k) :: L)) → Inv (i + 1) (upd H4 D (SetTO P w D L')) else Inv (i + 1) H3) (ends : ∀ H, Inv n H → Qd H) :
    ∃ W : Nat → Nat → Hp → Prop, (∃ m, W 0 m (upd H1 D (SetTO P w D []))) ∧ ∀ i m H, W i m H →
      (J.stop i H ∧ Qd H) ∨ (J.go i H ∧ ∃ Nx : Hp → Prop, (∀ H', Nx H' → ∃ m', m' < m ∧ W (i + 1) m' H') ∧ ∀ x H', J.yld i H x H' → g x (wipe σ vs) H' fun σ2 H2 => wipe σ2 vs = wipe σ vs ∧ tt σ2 H2 fun b H3 =>
        if b = true then te σ2 H3 fun y H4 => ∃ (x : Addr) (k : List Int) (L : List (Addr × List Int)), y = .ref x ∧ SqT K H4 x (k.map V.int) ∧ H4 D = some (SetTO P w D L) ∧ (∀ p ∈ L, SqT K H4 p.1 (p.2.map V.int)) ∧ L.length + 1 < 64 ∧
          ∀ L', (k ∈ L.map (·.2) → L' = L) → (k ∉ L.map (·.2) → L'.Perm ((x, k) :: L)) → Nx (upd H4 D (SetTO P w D L')) else Nx H3) := by
  refine ⟨fun i m H => m + i = n ∧ Inv i H, ⟨n, rfl, begins⟩, fun i m H h => ?_⟩
  obtain ⟨e, p⟩ := h
  have ok := may i H (by omega) p
  rcases Nat.lt_or_ge i n with lt | ge
  · exact .inr ⟨wk.goes i H lt ok, Inv (i + 1), fun H' p' => ⟨m - 1, by omega, by omega, p'⟩, fun x H' y => turn i x H H' lt p (wk.yields i H x H' lt ok y)⟩
  · have z : i = n := by omega
    subst z
    exact .inl ⟨wk.stops H ok, ends H p⟩
theorem cxP {CX : CXT} {P : Program} {w : World} {K : PySem.W.Frag} {mg : Str → Option Value} {base : Heap} {N : List Str} {q : Str} {sc : Scope} {f : Addr} {cdv : Value} {A : Around} {outer : List Env} {s : Shared} {H : Hp} {E : XK} : (cxOf CX P w K mg base N q sc f cdv A outer s H E).prog = P := rfl
theorem cxW {CX : CXT} {P : Program} {w : World} {K : PySem.W.Frag} {mg : Str → Option Value} {base : Heap} {N : List Str} {q : Str} {sc : Scope} {f : Addr} {cdv : Value} {A : Around} {outer : List Env} {s : Shared} {H : Hp} {E : XK} : (cxOf CX P w K mg base N q sc f cdv A outer s H E).w = w := rfl
abbrev Pr := Int × Int
def PrAt (H : Hp) (v : V) (p : Pr) : Prop := ∃ t, v = .ref t ∧ H t = some (.tup [.int p.1, .int p.2])
theorem PrAt.tp {H H' : Hp} {v : V} {p : Pr} (h : PrAt H v p) (k : Tp H H') : PrAt H' v p := by
  obtain ⟨t, e, h⟩ := h
  exact ⟨t, e, k _ _ h⟩
def cd (p : Pr) : Int := p.1 * 64 + p.2
/-- a number of 0 to n - 1 on the left, of 0 to m - 1 on the right -/
def InP (n m : Nat) (p : Pr) : Prop := 0 ≤ p.1 ∧ p.1 < n ∧ 0 ≤ p.2 ∧ p.2 < m
/-- each once, ascending -/
def SrtP (ps : List Pr) : Prop := ps.Pairwise fun p q => cd p < cd q
def entP (p : Pr) : List Key × V := ([.inl p.1, .inl p.2], .bl true)
structure PpC (K : PySem.W.Frag) (mg : Str → Option Value) (PC : Addr) : Prop where
  k : mg "Paper" = some (.ref PC)
  cl : Cls K PC
  n1 : NoAttr K PC "low"
  n2 : NoAttr K PC "high"
  n3 : NoAttr K PC "_pairs"
  n4 : NoAttr K PC "_has"
/-- at o a paper between the webs at lo and hi with these pairs -/
def PapAt (PC : Addr) (H : Hp) (o lo hi : Addr) (ps : List Pr) : Prop := ∃ (dx l d : Addr) (us : List V), H o = some (.ins PC dx [("low", .ref lo), ("high", .ref hi), ("_pairs", .ref l), ("_has", .ref d)]) ∧ H l = some (.lst us) ∧ Rw (PrAt H) us ps ∧ H d = some (.dT (ps.map entP)) ∧ SrtP ps
theorem PapAt.kp {PC : Addr} {H H' : Hp} {o lo hi : Addr} {ps : List Pr} (h : PapAt PC H o lo hi ps) (k : Kp [] H H') : PapAt PC H' o lo hi ps := by
  obtain ⟨dx, l, d, us, h1, h2, r, h3, s⟩ := h
  exact ⟨dx, l, d, us, k _ _ not0 h1, k _ _ not0 h2, r.mono fun _ _ z => z.tp k.tps, k _ _ not0 h3, s⟩
/-- a number or a truth value -/
abbrev Sc := Int ⊕ Bool
def scV : Sc → V
  | .inl i => .int i
  | .inr b => .bl b
def scD : Sc → PyData
  | .inl i => .int i
  | .inr b => .bool b
theorem sc_dq {H : Hp} (x : Sc) : Dq H (scV x) (scD x) := by
  cases x with
  | inl i => exact .int i
  | inr b => exact .bl b
def PvAt (H : Hp) (v : V) (p : Sc × Sc) : Prop := ∃ t, v = .ref t ∧ H t = some (.tup [scV p.1, scV p.2])
theorem PvAt.tp {H H' : Hp} {v : V} {p : Sc × Sc} (h : PvAt H v p) (k : Tp H H') : PvAt H' v p := by
  obtain ⟨t, e, h⟩ := h
  exact ⟨t, e, k _ _ h⟩
def okP (n m : Nat) (p : Sc × Sc) : Bool := belowD n (scD p.1) && belowD m (scD p.2)
def badP (n : Nat) (p : Sc × Sc) : V := if belowD n (scD p.1) = true then scV p.2 else scV p.1
def prS (p : Pr) : Sc × Sc := (.inl p.1, .inl p.2)
theorem okP_iff {n m : Nat} {p : Sc × Sc} : okP n m p = true ↔ ∃ q : Pr, p = prS q ∧ InP n m q := by
  unfold okP
  rw [Bool.and_eq_true]
  constructor
  · rintro ⟨h1, h2⟩
    obtain ⟨i, e1, i0, i1⟩ := below_iff.mp h1
    obtain ⟨j, e2, j0, j1⟩ := below_iff.mp h2
    match p, e1, e2 with
    | (.inl x, .inl y), e1, e2 =>
      cases e1; cases e2
      exact ⟨(i, j), rfl, i0, i1, j0, j1⟩
  · rintro ⟨q, rfl, a, b, c, d⟩
    exact ⟨below_iff.mpr ⟨_, rfl, a, b⟩, below_iff.mpr ⟨_, rfl, c, d⟩⟩
theorem all_okP {n m : Nat} : ∀ {ds : List (Sc × Sc)}, (∀ p ∈ ds, okP n m p = true) → ∃ gs : List Pr, ds = gs.map prS ∧ ∀ g ∈ gs, InP n m g
  | [], _ => ⟨[], rfl, fun _ h => nomatch h⟩
  | p :: ds, h => by
    obtain ⟨q, e, i⟩ := okP_iff.mp (h p (by simp))
    obtain ⟨gs, e2, i2⟩ := all_okP (ds := ds) fun x hx => h x (by simp [hx])
    refine ⟨q :: gs, by rw [e, e2]; rfl, fun x hx => ?_⟩
    rcases List.mem_cons.mp hx with rfl | hx
    · exact i
    · exact i2 x hx
def spChk (WC NS : Addr) : Sp := fun vs H Q E => ∃ (lo hi a : Addr) (us : List V) (s1 s2 : List (List Mv)) (ds : List (Sc × Sc)), vs = [.ref lo, .ref hi, .ref a] ∧ WebAt WC H lo s1 ∧ WebAt WC H hi s2 ∧ H a = some (.lst us) ∧ Rw (PvAt H) us ds ∧ s1.length ≤ 60 ∧ s2.length ≤ 60 ∧
  ((∀ p ∈ ds, okP s1.length s2.length p = true) → Q .non H) ∧
  (∀ (i : Nat) p, ds[i]? = some p → okP s1.length s2.length p = false → (∀ j y, j < i → ds[j]? = some y → okP s1.length s2.length y = true) → ∀ (e : Addr) (H' : Hp), H e = none → H' e = some (.xd [("at", badP s1.length p)]) → Kp [] H H' → E (.ref NS) (some e) H')
section
variable {P : Program} {w : World} {K : PySem.W.Frag} {mg : Str → Option Value} {base : Heap} {tL t1 t2 : Tok} {WC NS PC : Addr}
theorem ok_check_pairs {f : Addr} {fd : FuncData} (D : Df K mg "check_pairs" s_check_pairs ["low", "high", "pairs"] f fd) (T : BtW mg t1) {fN : Addr} {fdN : FuncData} (C : WbC K mg WC) (E_NoStanding : Er1 P w K mg base "NoStanding" "at" NS fN fdN ["self", "at"] (fun _ => True))
    {fb : Addr} {fdb : FuncData} (D_is_below : Df K mg "is_below" s_is_below ["value", "bound"] fb fdb) (G_is_below : FnOk P w K mg base CX0 1 fb fdb ["value", "bound"] spBelow)
    {fl : Addr} {fdl : FuncData} (LN_Web : LenC K WC fl) (b_Web_len : Binds K fdl ["self"] []) (G_Web_len : FnOk P w K mg base CX0 1 fl fdl ["self"] (spWLen WC)) : FnOk P w K mg base (L2.CX P w) 3 f fd ["low", "high", "pairs"] (spChk WC NS) := by
  refine D.F.okX sc_check_pairs (fun vs H Q E h => ?_) (fun cdv A outer s H vs Q E hr h => ?_)
  · obtain ⟨_, _, _, _, _, _, _, rfl, _⟩ := h
    rfl
  · obtain ⟨lo, hi, a, us, s1, s2, ds, rfl, hW1, hW2, ha, hus, l1, l2, qG, qB⟩ := h
    refine ⟨_, (pss_one (ps_for (passes_of rfl) rfl (pi_list (pv 2)) (pg_tup (n := 2) (by rfl) (pgs_cons (pg_name (i := 3) sc_check_pairs.nd rfl (Or.inl rfl)) (pgs_cons (pg_name (i := 4) sc_check_pairs.nd rfl (Or.inl rfl)) pgs_nil))) (pss_cons (ps_if (pt_not (pt_val (pe_call G_is_below (hr.mono (by decide)) rfl D_is_below.g D_is_below.F.kp D_is_below.b .nil pass0 (pa_cons (pv 3) (pa_cons (pe_callB (id := "len") (call_lenO LN_Web G_Web_len b_Web_len (hr.mono (by decide)) pass0) (by rfl) T.b_len PySem.boot_len (pa_cons (pv 0) pa_nil)) pa_nil))))) (pss_one (ps_raise rfl (takes_of rfl rfl rfl rfl) (pmk_oex E_NoStanding.ox E_NoStanding.ic E_NoStanding.ti E_NoStanding.G (hr.mono (by decide)) E_NoStanding.b .nil passL rfl E_NoStanding.k (pa_cons (pv 3) pa_nil)))) pss_nil)
      (pss_one (ps_if (pt_not (pt_val (pe_call G_is_below (hr.mono (by decide)) rfl D_is_below.g D_is_below.F.kp D_is_below.b .nil pass0 (pa_cons (pv 4) (pa_cons (pe_callB (id := "len") (call_lenO LN_Web G_Web_len b_Web_len (hr.mono (by decide)) pass0) (by rfl) T.b_len PySem.boot_len (pa_cons (pv 1) pa_nil)) pa_nil))))) (pss_one (ps_raise rfl (takes_of rfl rfl rfl rfl) (pmk_oex E_NoStanding.ox E_NoStanding.ic E_NoStanding.ti E_NoStanding.G (hr.mono (by decide)) E_NoStanding.b .nil passL rfl E_NoStanding.k (pa_cons (pv 4) pa_nil)))) pss_nil))))), ?_⟩
    try simp (maxSteps := 1000000) only [tSeq, tIfS, tTest, tOp, tUn, tCB, tCons, tNil, tVar, tC, rI0, rI, rU, rEq, rNe, tRet, tRetN, tAsg, gName, gSub, tBM, tBM0, tNext, tB, tNot, tAnd, tOr, tIf, tCall, tDrop, tBreak, tCont, L2.start, tDGet, sDPut, tTup, tLst, tDNewK, tRevL, rCat, rAppend, rPop, rSetL, tAndV, tOrV, tNotV, tSl, tPart, tNoPart, tM1, gTup, gCons, gNil, cxK, cxnK, List.map_cons, List.map_nil, List.length_cons, List.length_nil, List.replicate, List.cons_append, List.nil_append, List.append_nil, List.set_cons_zero, List.set_cons_succ, List.getElem?_cons_zero, List.getElem?_cons_succ, Option.some.injEq, V.ref.injEq, V.int.injEq, V.str.injEq, V.bl.injEq, V.ty.injEq, exists_eq_left', exists_eq_left, exists_and_left, List.cons.injEq, and_true, true_and, sc_ii, sc_ss, sc_bb, sc_ni, sc_in, sc_is, sc_si, sc_nn, decide_true, decide_false, reduceCtorEq, Bool.false_eq_true, if_true, if_false, ite_true, ite_false, exists_const, eq_self, false_and, and_false, or_false, false_or, exists_false, Evl.rLenS, rSum, wipe, tYes, exists_eq, exists_eq', rIxL, rIxT, rIxS, exists_and_right, gt_iff_lt, not_true_eq_false, not_false_eq_true, Bool.not_true, Bool.not_false, decide_eq_true_eq, Nat.reduceSub, Nat.reduceAdd, List.append_assoc, tChain, tDIn, tDNotIn, sDDel, tAug, ipI, rInt1_int, rInt1_bl, rLenO]
    refine forL (fun i σ G => ∃ c3 c4 : Option V, σ = [some (.ref lo), some (.ref hi), some (.ref a), c3, c4] ∧ G = H ∧ ∀ j y, j < i → ds[j]? = some y → okP s1.length s2.length y = true) rfl (sq_l ha) ⟨none, none, rfl, rfl, fun j y z => absurd z (Nat.not_lt_zero _)⟩ (fun j σ G _ h => by obtain ⟨_, _, _, rfl, _⟩ := h; exact sq_l ha) (fun i x σ G hx h => ?_) fun σ G h => ?_
    · obtain ⟨c3, c4, rfl, rfl, hok⟩ := h
      obtain ⟨p, ep, t, rfl, ht⟩ := hus.get hx
      obtain ⟨x, y⟩ := p
      have ht : G t = some (.tup [scV x, scV y]) := ht
      try simp (maxSteps := 1000000) only [tSeq, tIfS, tTest, tOp, tUn, tCB, tCons, tNil, tVar, tC, rI0, rI, rU, rEq, rNe, tRet, tRetN, tAsg, gName, gSub, tBM, tBM0, tNext, tB, tNot, tAnd, tOr, tIf, tCall, tDrop, tBreak, tCont, L2.start, tDGet, sDPut, tTup, tLst, tDNewK, tRevL, rCat, rAppend, rPop, rSetL, tAndV, tOrV, tNotV, tSl, tPart, tNoPart, tM1, gTup, gCons, gNil, cxK, cxnK, List.map_cons, List.map_nil, List.length_cons, List.length_nil, List.replicate, List.cons_append, List.nil_append, List.append_nil, List.set_cons_zero, List.set_cons_succ, List.getElem?_cons_zero, List.getElem?_cons_succ, Option.some.injEq, V.ref.injEq, V.int.injEq, V.str.injEq, V.bl.injEq, V.ty.injEq, exists_eq_left', exists_eq_left, exists_and_left, List.cons.injEq, and_true, true_and, sc_ii, sc_ss, sc_bb, sc_ni, sc_in, sc_is, sc_si, sc_nn, decide_true, decide_false, reduceCtorEq, Bool.false_eq_true, if_true, if_false, ite_true, ite_false, exists_const, eq_self, false_and, and_false, or_false, false_or, exists_false, Evl.rLenS, rSum, wipe, tYes, exists_eq, exists_eq', rIxL, rIxT, rIxS, exists_and_right, gt_iff_lt, not_true_eq_false, not_false_eq_true, Bool.not_true, Bool.not_false, decide_eq_true_eq, Nat.reduceSub, Nat.reduceAdd, List.append_assoc, tChain, tDIn, tDNotIn, sDDel, tAug, ipI, rInt1_int, rInt1_bl, rLenO]
      obtain ⟨dx1, _, _, _, _, _, _, ho1, _⟩ := id hW1
      obtain ⟨dx2, _, _, _, _, _, _, ho2, _⟩ := id hW2
      refine ⟨_, sq_t ht, rfl, _, _, rfl, _, _, rfl, rfl, ⟨dx1, _, ho1⟩, lo, s1, rfl, hW1, _, rfl, small (by omega), ?_⟩
      refine ⟨scV x, scD x, _, rfl, sc_dq x, _, rfl, ?_⟩
      cases hb1 : belowD (s1.length : Nat) (scD x) with
      | false =>
        rw [if_pos (show (!false) = true from rfl)]
        refine ⟨scV x, rfl, err1_made (P := fun _ => True) True.intro fun e H' ne he k => ?_⟩
        have := qB i (x, y) ep (by unfold okP; rw [hb1]; rfl) hok e H' ne
        unfold badP at this
        rw [hb1, if_neg Bool.false_ne_true] at this
        exact this he k
      | true =>
        rw [if_neg (by decide)]
        refine ⟨⟨dx2, _, ho2⟩, hi, s2, rfl, hW2, _, rfl, small (by omega), scV y, scD y, _, rfl, sc_dq y, _, rfl, ?_⟩
        cases hb2 : belowD (s2.length : Nat) (scD y) with
        | false =>
          rw [if_pos (show (!false) = true from rfl)]
          refine ⟨scV y, rfl, err1_made (P := fun _ => True) True.intro fun e H' ne he k => ?_⟩
          have := qB i (x, y) ep (by unfold okP; rw [hb1, hb2]; rfl) hok e H' ne
          unfold badP at this
          rw [hb1, if_pos rfl] at this
          exact this he k
        | true =>
          rw [if_neg (by decide)]
          refine ⟨rfl, fun j z hj ej => ?_⟩
          by_cases e : j = i
          · subst e
            rw [ep] at ej; cases ej
            unfold okP; rw [hb1, hb2]; rfl
          · exact hok j z (by omega) ej
    · obtain ⟨c3, c4, rfl, rfl, hok⟩ := h
      refine qG fun p hp => ?_
      obtain ⟨j, ej⟩ := List.getElem?_of_mem hp
      exact hok j p (by rw [hus.len]; exact (List.getElem?_eq_some_iff.mp ej).1) ej
end
end My

set_option Elab.async false
set_option linter.all false
set_option maxRecDepth 100000
set_option maxHeartbeats 4000000
namespace My
open PySem L2 NdefX
structure BtP (mg : Str → Option Value) : Prop where
  b_len : mg "len" = none
  b_iter : mg "iter" = none
  b_isinstance : mg "isinstance" = none
  b_tuple : mg "tuple" = none
  b_sorted : mg "sorted" = none
theorem has_ent {ps : List Pr} {p : Pr} : (valV (ps.map entP) [.inl p.1, .inl p.2]).isSome = decide (p ∈ ps) := by
  induction ps with
  | nil => rfl
  | cons q ps ih =>
    rw [List.map_cons]
    by_cases e : q = p
    · subst e
      rw [decide_eq_true (by simp)]
      unfold valV
      rw [List.find?_cons_of_pos (by simp [entP])]
      rfl
    · have ne : ¬ ((entP q).1 = [.inl p.1, .inl p.2]) := fun z => e (by
        have z : ([.inl q.1, .inl q.2] : List Key) = [.inl p.1, .inl p.2] := z
        injection z with z1 z2
        injection z2 with z2 _
        exact Prod.ext (Sum.inl.inj z1) (Sum.inl.inj z2))
      have : valV (entP q :: ps.map entP) [.inl p.1, .inl p.2] = valV (ps.map entP) [.inl p.1, .inl p.2] := by
        unfold valV
        rw [List.find?_cons_of_neg (by simpa using ne)]
      rw [this, ih]
      exact decide_eq_decide.mpr ⟨fun h => by simp [h], fun h => by
        rcases List.mem_cons.mp h with h | h
        · exact absurd h.symm e
        · exact h⟩
section
variable {P : Program} {w : World} {K : PySem.W.Frag} {mg : Str → Option Value} {base : Heap} {tL t1 t2 : Tok} {WC NS PC : Addr}
def spPLen (PC : Addr) : Sp := fun vs H Q _ => ∃ (o lo hi : Addr) (ps : List Pr), vs = [.ref o] ∧ PapAt PC H o lo hi ps ∧ Q (.int (ps.length : Nat)) H
theorem ok_Paper_len {f : Addr} {fd : FuncData} (F : Fun K "__len__" "Paper.__len__" s_Paper_len f fd) (T : BtP mg) (PP : PpC K mg PC) : FnOk P w K mg base CX0 1 f fd ["self"] (spPLen PC) := by
  refine F.ok sc_Paper_len (fun vs H Q E h => ?_) (fun cdv A outer s H vs Q E hr h => ?_)
  · obtain ⟨_, _, _, _, rfl, _⟩ := h
    rfl
  · obtain ⟨o, lo, hi, ps, rfl, ⟨dx, l, d, us, ho, hl, hus, hd, srt⟩, q⟩ := h
    refine ⟨_, (pss_one (ps_ret (pe_callB (id := "len") (r := Evl.rLenS K) call_len_seq (by rfl) T.b_len PySem.boot_len (pa_cons (pe_fld (pv 0) rfl) pa_nil)))), ?_⟩
    try simp (maxSteps := 1000000) only [tSeq, tIfS, tTest, tOp, tUn, tCB, tCons, tNil, tVar, tC, rI0, rI, rU, rEq, rNe, tRet, tRetN, tAsg, gName, gSub, tBM, tBM0, tNext, tB, tNot, tAnd, tOr, tIf, tCall, tDrop, tBreak, tCont, L2.start, tDGet, sDPut, tTup, tLst, tDNewK, tRevL, rCat, rAppend, rPop, rSetL, tAndV, tOrV, tNotV, tSl, tPart, tNoPart, tM1, gTup, gCons, gNil, cxK, cxnK, List.map_cons, List.map_nil, List.length_cons, List.length_nil, List.replicate, List.cons_append, List.nil_append, List.append_nil, List.set_cons_zero, List.set_cons_succ, List.getElem?_cons_zero, List.getElem?_cons_succ, Option.some.injEq, V.ref.injEq, V.int.injEq, V.str.injEq, V.bl.injEq, V.ty.injEq, exists_eq_left', exists_eq_left, exists_and_left, List.cons.injEq, and_true, true_and, sc_ii, sc_ss, sc_bb, sc_ni, sc_in, sc_is, sc_si, sc_nn, decide_true, decide_false, reduceCtorEq, Bool.false_eq_true, if_true, if_false, ite_true, ite_false, exists_const, eq_self, false_and, and_false, or_false, false_or, exists_false, Evl.rLenS, rSum, wipe, tYes, exists_eq, exists_eq', rIxL, rIxT, rIxS, exists_and_right, gt_iff_lt, not_true_eq_false, not_false_eq_true, Bool.not_true, Bool.not_false, decide_eq_true_eq, Nat.reduceSub, Nat.reduceAdd, List.append_assoc, tChain, tDIn, tDNotIn, sDDel, tAug, ipI, rInt1_int, rInt1_bl, tFld]
    refine ⟨PC, dx, _, ho, PP.cl, PP.n3, .ref l, rfl, l, rfl, us, .inl (sq_l hl), ?_⟩
    rw [hus.len]
    exact q
def spPIter (PC : Addr) : Nat → Sp := fun n vs H Q _ => ∃ (o lo hi : Addr) (ps : List Pr), vs = [.ref o] ∧ PapAt PC H o lo hi ps ∧ ∀ (l : Addr) (us : List V) it, H l = some (.lst us) → Rw (PrAt H) us ps → H it = none → n ≤ it → Q (.ref it) (upd H it (ItO l it 0))
theorem ok_Paper_iter {f : Addr} {fd : FuncData} (F : Fun K "__iter__" "Paper.__iter__" s_Paper_iter f fd) (T : BtP mg) (PP : PpC K mg PC) : FnNew P w K mg base 1 f fd ["self"] (spPIter PC) := by
  refine FnNew.ok F sc_Paper_iter (fun n vs H Q E h => ?_) (fun cdv A outer s H vs Q E hr h => ?_)
  · obtain ⟨_, _, _, _, rfl, _⟩ := h
    rfl
  · obtain ⟨o, lo, hi, ps, rfl, ⟨dx, l, d, us, ho, hl, hus, hd, srt⟩, q⟩ := h
    refine ⟨_, (pss_one (ps_ret (pe_callB (id := "iter") (r := ItX.rIterN K s.heap.objs.size) ItX.call_iterN (by rfl) T.b_iter (by decide +kernel) (pa_cons (pe_fld (pv 0) rfl) pa_nil)))), ?_⟩
    try simp (maxSteps := 1000000) only [tSeq, tIfS, tTest, tOp, tUn, tCB, tCons, tNil, tVar, tC, rI0, rI, rU, rEq, rNe, tRet, tRetN, tAsg, gName, gSub, tBM, tBM0, tNext, tB, tNot, tAnd, tOr, tIf, tCall, tDrop, tBreak, tCont, L2.start, tDGet, sDPut, tTup, tLst, tDNewK, tRevL, rCat, rAppend, rPop, rSetL, tAndV, tOrV, tNotV, tSl, tPart, tNoPart, tM1, gTup, gCons, gNil, cxK, cxnK, List.map_cons, List.map_nil, List.length_cons, List.length_nil, List.replicate, List.cons_append, List.nil_append, List.append_nil, List.set_cons_zero, List.set_cons_succ, List.getElem?_cons_zero, List.getElem?_cons_succ, Option.some.injEq, V.ref.injEq, V.int.injEq, V.str.injEq, V.bl.injEq, V.ty.injEq, exists_eq_left', exists_eq_left, exists_and_left, List.cons.injEq, and_true, true_and, sc_ii, sc_ss, sc_bb, sc_ni, sc_in, sc_is, sc_si, sc_nn, decide_true, decide_false, reduceCtorEq, Bool.false_eq_true, if_true, if_false, ite_true, ite_false, exists_const, eq_self, false_and, and_false, or_false, false_or, exists_false, Evl.rLenS, rSum, wipe, tYes, exists_eq, exists_eq', rIxL, rIxT, rIxS, exists_and_right, gt_iff_lt, not_true_eq_false, not_false_eq_true, Bool.not_true, Bool.not_false, decide_eq_true_eq, Nat.reduceSub, Nat.reduceAdd, List.append_assoc, tChain, tDIn, tDNotIn, sDDel, tAug, ipI, rInt1_int, rInt1_bl, tFld]
    exact ⟨PC, dx, _, ho, PP.cl, PP.n3, .ref l, rfl, l, us, rfl, sq_l hl, fun it nit hn => q l us it hl hus nit hn⟩
def spPIn (PC WC : Addr) : Sp := fun vs H Q _ => ∃ (o lo hi t : Addr) (s1 s2 : List (List Mv)) (ps : List Pr) (p : Pr), vs = [.ref o, .ref t] ∧ PapAt PC H o lo hi ps ∧ WebAt WC H lo s1 ∧ WebAt WC H hi s2 ∧ s1.length ≤ 60 ∧ s2.length ≤ 60 ∧ H t = some (.tup [.int p.1, .int p.2]) ∧ (∀ q ∈ ps, InP s1.length s2.length q) ∧ Q (.bl (decide (p ∈ ps))) H
theorem ok_Paper_contains {f : Addr} {fd : FuncData} (F : Fun K "__contains__" "Paper.__contains__" s_Paper_contains f fd) (T : BtP mg) (PP : PpC K mg PC)
    {fb : Addr} {fdb : FuncData} (D_is_below : Df K mg "is_below" s_is_below ["value", "bound"] fb fdb) (G_is_below : FnOk P w K mg base CX0 1 fb fdb ["value", "bound"] spBelow)
    {fl : Addr} {fdl : FuncData} (LN_Web : LenC K WC fl) (b_Web_len : Binds K fdl ["self"] []) (G_Web_len : FnOk P w K mg base CX0 1 fl fdl ["self"] (spWLen WC)) : FnOk P w K mg base CX0 3 f fd ["self", "x"] (spPIn PC WC) := by
  refine F.ok sc_Paper_contains (fun vs H Q E h => ?_) (fun cdv A outer s H vs Q E hr h => ?_)
  · obtain ⟨_, _, _, _, _, _, _, _, rfl, _⟩ := h
    rfl
  · obtain ⟨o, lo, hi, t, s1, s2, ps, p, rfl, hP, hW1, hW2, l1, l2, ht, hin, q⟩ := h
    have hu := hu_of hr
    refine ⟨_, (pss_cons (ps_if (PW.pt (pw_or (pt_not (pt_val (pe_callB (id := "isinstance") (r := rIsi K) call_isi (by rfl) T.b_isinstance (by decide +kernel) (pa_cons (pv 1) (pa_cons (pe_bltn (v := .ty "tuple") (by rfl) T.b_tuple (by decide +kernel) rfl) pa_nil))))) (pw_or1 (pt_cmpR op_ne (pe_callB (id := "len") (r := Evl.rLenS K) call_len_seq (by rfl) T.b_len PySem.boot_len (pa_cons (pv 1) pa_nil)) pe_int (nomark _))))) (pss_one (ps_ret pe_bl)) pss_nil)
      (pss_cons (ps_asg (pv 1) (pg_tup (n := 2) (by rfl) (pgs_cons (pg_name (i := 2) sc_Paper_contains.nd rfl (Or.inl rfl)) (pgs_cons (pg_name (i := 3) sc_Paper_contains.nd rfl (Or.inl rfl)) pgs_nil))))
      (pss_one (ps_ret (pe_and (pe_call G_is_below (hr.mono (by decide)) rfl D_is_below.g D_is_below.F.kp D_is_below.b .nil pass0 (pa_cons (pv 2) (pa_cons (pe_callB (id := "len") (call_lenO LN_Web G_Web_len b_Web_len (hr.mono (by decide)) pass0) (by rfl) T.b_len PySem.boot_len (pa_cons (pe_fld (pv 0) rfl) pa_nil)) pa_nil))) (pe_and (pe_call G_is_below (hr.mono (by decide)) rfl D_is_below.g D_is_below.F.kp D_is_below.b .nil pass0 (pa_cons (pv 3) (pa_cons (pe_callB (id := "len") (call_lenO LN_Web G_Web_len b_Web_len (hr.mono (by decide)) pass0) (by rfl) T.b_len PySem.boot_len (pa_cons (pe_fld (pv 0) rfl) pa_nil)) pa_nil))) (pe_one (pe_cmp (pc_din hu (pv 1) (pe_fld (pv 0) rfl)) rfl)))))))), ?_⟩
    try simp (maxSteps := 1000000) only [tSeq, tIfS, tTest, tOp, tUn, tCB, tCons, tNil, tVar, tC, rI0, rI, rU, rEq, rNe, tRet, tRetN, tAsg, gName, gSub, tBM, tBM0, tNext, tB, tNot, tAnd, tOr, tIf, tCall, tDrop, tBreak, tCont, L2.start, tDGet, sDPut, tTup, tLst, tDNewK, tRevL, rCat, rAppend, rPop, rSetL, tAndV, tOrV, tNotV, tSl, tPart, tNoPart, tM1, gTup, gCons, gNil, cxK, cxnK, List.map_cons, List.map_nil, List.length_cons, List.length_nil, List.replicate, List.cons_append, List.nil_append, List.append_nil, List.set_cons_zero, List.set_cons_succ, List.getElem?_cons_zero, List.getElem?_cons_succ, Option.some.injEq, V.ref.injEq, V.int.injEq, V.str.injEq, V.bl.injEq, V.ty.injEq, exists_eq_left', exists_eq_left, exists_and_left, List.cons.injEq, and_true, true_and, sc_ii, sc_ss, sc_bb, sc_ni, sc_in, sc_is, sc_si, sc_nn, decide_true, decide_false, reduceCtorEq, Bool.false_eq_true, if_true, if_false, ite_true, ite_false, exists_const, eq_self, false_and, and_false, or_false, false_or, exists_false, Evl.rLenS, rSum, wipe, tYes, exists_eq, exists_eq', rIxL, rIxT, rIxS, exists_and_right, gt_iff_lt, not_true_eq_false, not_false_eq_true, Bool.not_true, Bool.not_false, decide_eq_true_eq, Nat.reduceSub, Nat.reduceAdd, List.append_assoc, tChain, tDIn, tDNotIn, sDDel, tAug, ipI, rInt1_int, rInt1_bl, tFld, rLenO]
    obtain ⟨dx, l, d, us, ho, hl, hus, hd, srt⟩ := id hP
    obtain ⟨dx1, _, _, _, _, _, _, ho1, _⟩ := id hW1
    obtain ⟨dx2, _, _, _, _, _, _, ho2, _⟩ := id hW2
    refine isi_Dtup (d := .tuple [.int p.1, .int p.2]) (.tup ht (.cons (.int _) (.cons (.int _) .nil))) ?_
    refine ⟨_, rfl, ?_⟩
    rw [if_neg (by simp [isTupD])]
    refine ⟨_, .inr (sq_t ht), ?_⟩
    rw [if_neg (by simp)]
    refine ⟨_, sq_t ht, rfl, _, _, rfl, _, _, rfl, rfl, ?_⟩
    refine ⟨PC, dx, _, ho, PP.cl, PP.n1, .ref lo, rfl, lo, rfl, ⟨dx1, _, ho1⟩, lo, s1, rfl, hW1, _, rfl, small (by omega), ?_⟩
    refine ⟨.int p.1, .int p.1, _, rfl, .int _, _, rfl, ?_⟩
    cases hb1 : belowD (s1.length : Nat) (.int p.1) with
    | false =>
      rw [if_neg (by decide)]
      have : decide (p ∈ ps) = false := decide_eq_false fun z => by
        obtain ⟨a, b, _⟩ := hin p z
        rw [below_iff.mpr ⟨_, rfl, a, b⟩] at hb1; cases hb1
      rw [this] at q
      exact q
    | true =>
      rw [if_pos rfl]
      refine ⟨PC, dx, _, ho, PP.cl, PP.n2, .ref hi, rfl, hi, rfl, ⟨dx2, _, ho2⟩, hi, s2, rfl, hW2, _, rfl, small (by omega), ?_⟩
      refine ⟨.int p.2, .int p.2, _, rfl, .int _, _, rfl, ?_⟩
      cases hb2 : belowD (s2.length : Nat) (.int p.2) with
      | false =>
        rw [if_neg (by decide)]
        have : decide (p ∈ ps) = false := decide_eq_false fun z => by
          obtain ⟨_, _, a, b⟩ := hin p z
          rw [below_iff.mpr ⟨_, rfl, a, b⟩] at hb2; cases hb2
        rw [this] at q
        exact q
      | true =>
        rw [if_pos rfl]
        refine ⟨PC, dx, _, ho, PP.cl, PP.n4, .ref d, rfl, d, rfl, valV (ps.map entP) [.inl p.1, .inl p.2], DGet.t hd ht, ?_⟩
        rw [has_ent]
        exact q
end
end My

set_option Elab.async false
set_option linter.all false
set_option maxRecDepth 100000
set_option maxHeartbeats 4000000
namespace My
open PySem L2 NdefX
theorem cd_inj {p q : Pr} (hp : InP 64 64 p) (hq : InP 64 64 q) (h : cd p = cd q) : p = q := by
  obtain ⟨a, b, c, d⟩ := hp
  obtain ⟨a', b', c', d'⟩ := hq
  have h : p.1 * 64 + p.2 = q.1 * 64 + q.2 := h
  exact Prod.ext (by omega) (by omega)
def prL (g : Pr) : List Int := [g.1, g.2]
theorem prL_inj {p q : Pr} (h : prL p = prL q) : p = q := by
  unfold prL at h
  injection h with h1 h2
  injection h2 with h2 _
  exact Prod.ext h1 h2
theorem sorted_ps : ∀ {L : List (Addr × List Int)}, (∀ p ∈ L, ∃ g : Pr, p.2 = prL g ∧ InP 64 64 g) → (L.map (·.2)).Nodup → L.Pairwise (fun q r => TS.code 64 q.2 ≤ TS.code 64 r.2) → ∃ ps : List Pr, L.map (·.2) = ps.map prL ∧ SrtP ps
  | [], _, _, _ => ⟨[], rfl, .nil⟩
  | p :: L, hp, nd, pw => by
    obtain ⟨g, eg, ig⟩ := hp p (by simp)
    rw [List.map_cons, List.nodup_cons] at nd
    rw [List.pairwise_cons] at pw
    obtain ⟨ps, e, s⟩ := sorted_ps (L := L) (fun x hx => hp x (by simp [hx])) nd.2 pw.2
    refine ⟨g :: ps, by rw [List.map_cons, List.map_cons, eg, e], List.pairwise_cons.mpr ⟨fun q hq => ?_, s⟩⟩
    have hm : prL q ∈ L.map (·.2) := by rw [e]; exact List.mem_map_of_mem hq
    obtain ⟨r, hr, er⟩ := List.mem_map.mp hm
    have er : r.2 = prL q := er
    obtain ⟨q', eq', iq⟩ := hp r (by simp [hr])
    have : q' = q := prL_inj (eq'.symm.trans er)
    subst this
    have le := pw.1 r hr
    rw [eg, er] at le
    unfold prL at le
    rw [code_pair, code_pair] at le
    have ne : cd g ≠ cd q' := fun z => by
      have := cd_inj ig iq z
      subst this
      exact nd.1 (by rw [eg, ← er]; exact List.mem_map_of_mem hr)
    have le : cd g ≤ cd q' := le
    omega
theorem srt_take {ps : List Pr} (s : SrtP ps) {i : Nat} {g : Pr} (e : ps[i]? = some g) : g ∉ ps.take i := fun z => by
  obtain ⟨j, ej⟩ := List.getElem?_of_mem z
  rw [List.getElem?_take] at ej
  split at ej
  · rename_i lt
    have lj := (List.getElem?_eq_some_iff.mp ej).1
    have li := (List.getElem?_eq_some_iff.mp e).1
    have := List.pairwise_iff_getElem.mp s j i lj li lt
    rw [(List.getElem?_eq_some_iff.mp ej).2, (List.getElem?_eq_some_iff.mp e).2] at this
    omega
  · cases ej
section
variable {P : Program} {w : World} {K : PySem.W.Frag} {mg : Str → Option Value} {base : Heap} {tL t1 t2 : Tok} {WC NS PC : Addr}
def spPapI (PC WC NS : Addr) : Sp := fun vs H Q E => ∃ (o dx lo hi a : Addr) (us : List V) (s1 s2 : List (List Mv)) (ds : List (Sc × Sc)), vs = [.ref o, .ref lo, .ref hi, .ref a] ∧ H o = some (.ins PC dx []) ∧ WebAt WC H lo s1 ∧ WebAt WC H hi s2 ∧ H a = some (.lst us) ∧ Rw (PvAt H) us ds ∧ s1.length ≤ 60 ∧ s2.length ≤ 60 ∧ ds.length ≤ 60 ∧
  (∀ (gs ps : List Pr) H', ds = gs.map prS → (∀ g ∈ gs, InP s1.length s2.length g) → PapAt PC H' o lo hi ps → (∀ S H2, (∀ x ∈ S, ∃ ys, H x = some (.lst ys)) → Kp S H' H2 → PapAt PC H2 o lo hi ps) → (∀ p, p ∈ ps ↔ p ∈ gs) → Kp [o] H H' → Q .non H') ∧
  (∀ (i : Nat) p, ds[i]? = some p → okP s1.length s2.length p = false → (∀ j y, j < i → ds[j]? = some y → okP s1.length s2.length y = true) → ∀ (e : Addr) (H' : Hp), H e = none → H' e = some (.xd [("at", badP s1.length p)]) → Kp [] H H' → E (.ref NS) (some e) H')
theorem ok_Paper_init {f : Addr} {fd : FuncData} (F : Fun K "__init__" "Paper.__init__" s_Paper_init f fd) (T : BtP mg) (PP : PpC K mg PC)
    {fc : Addr} {fdc : FuncData} (D_check_pairs : Df K mg "check_pairs" s_check_pairs ["low", "high", "pairs"] fc fdc) (G_check_pairs : FnOk P w K mg base (L2.CX P w) 3 fc fdc ["low", "high", "pairs"] (spChk WC NS)) : FnOk P w K mg base (L2.CX P w) 4 f fd ["self", "low", "high", "pairs"] (spPapI PC WC NS) := by
  refine F.okX sc_Paper_init (fun vs H Q E h => ?_) (fun cdv A outer s H vs Q E hr h => ?_)
  · obtain ⟨_, _, _, _, _, _, _, _, _, rfl, _⟩ := h
    rfl
  · obtain ⟨o, dx, lo, hi, a, us, s1, s2, ds, rfl, ho, hW1, hW2, ha, hus, l1, l2, l3, qG, qB⟩ := h
    refine ⟨_, (pss_cons (ps_expr (pe_call G_check_pairs (hr.mono (by decide)) rfl D_check_pairs.g D_check_pairs.F.kp D_check_pairs.b .nil (passes_call (E := E) (takes_of rfl rfl rfl rfl) (fun _ _ _ _ h => h)) (pa_cons (pv 1) (pa_cons (pv 2) (pa_cons (pv 3) pa_nil)))))
      (pss_cons (ps_fld (pv 0) (pv 1) rfl)
      (pss_cons (ps_fld (pv 0) (pv 2) rfl)
      (pss_cons (ps_fld (pv 0) (pe_callB (id := "sorted") (r := rSortedT K P w) (cr_sortedT rfl) (by rfl) T.b_sorted (by decide +kernel) (pa_cons (pe_scT (own := [("at", 4), ("high_at", 5)]) (g := (gTup K 2 (gCons (gName 4) (gCons (gName 5) gNil)))) (tt := tYes) rfl (hu8 hr) sc_Paper_init.nd (pi_list (pv 3)) (blkOk_by (N := ["self", "low", "high", "pairs", "at", "high_at", "pair"]) (sc := defScope s_Paper_init) (by decide +kernel)) (fun _ _ _ _ _ => (pg_tup (n := 2) (by rfl) (pgs_cons (pg_name (i := 4) sc_Paper_init.nd rfl (Or.inl rfl)) (pgs_cons (pg_name (i := 5) sc_Paper_init.nd rfl (Or.inl rfl)) pgs_nil)))) (fun _ _ _ _ _ => pts_nil) (fun _ _ _ _ _ => (pe_tup (pa_cons (pv 4) (pa_cons (pv 5) pa_nil))))) pa_nil)) rfl)
      (pss_one (ps_fld (pv 0) (pe_dcT (own := [("pair", 6)]) (g := (gName 6)) (tt := tYes) (hu_of hr) rfl sc_Paper_init.nd (pi_list (pe_fld (pv 0) rfl)) (blkOk_by (N := ["self", "low", "high", "pairs", "at", "high_at", "pair"]) (sc := defScope s_Paper_init) (by decide +kernel)) (fun _ _ _ _ _ => (pg_name (i := 6) sc_Paper_init.nd rfl (Or.inl rfl))) (fun _ _ _ _ _ => pts_nil) (fun _ _ _ _ _ => (pv 6)) (fun _ _ _ _ _ => pe_bl)) rfl)))))), ?_⟩
    try simp (maxSteps := 1000000) only [tSeq, tIfS, tTest, tOp, tUn, tCB, tCons, tNil, tVar, tC, rI0, rI, rU, rEq, rNe, tRet, tRetN, tAsg, gName, gSub, tBM, tBM0, tNext, tB, tNot, tAnd, tOr, tIf, tCall, tDrop, tBreak, tCont, L2.start, tDGet, sDPut, tTup, tLst, tDNewK, tRevL, rCat, rAppend, rPop, rSetL, tAndV, tOrV, tNotV, tSl, tPart, tNoPart, tM1, gTup, gCons, gNil, cxK, cxnK, List.map_cons, List.map_nil, List.length_cons, List.length_nil, List.replicate, List.cons_append, List.nil_append, List.append_nil, List.set_cons_zero, List.set_cons_succ, List.getElem?_cons_zero, List.getElem?_cons_succ, Option.some.injEq, V.ref.injEq, V.int.injEq, V.str.injEq, V.bl.injEq, V.ty.injEq, exists_eq_left', exists_eq_left, exists_and_left, List.cons.injEq, and_true, true_and, sc_ii, sc_ss, sc_bb, sc_ni, sc_in, sc_is, sc_si, sc_nn, decide_true, decide_false, reduceCtorEq, Bool.false_eq_true, if_true, if_false, ite_true, ite_false, exists_const, eq_self, false_and, and_false, or_false, false_or, exists_false, Evl.rLenS, rSum, wipe, tYes, exists_eq, exists_eq', rIxL, rIxT, rIxS, exists_and_right, gt_iff_lt, not_true_eq_false, not_false_eq_true, Bool.not_true, Bool.not_false, decide_eq_true_eq, Nat.reduceSub, Nat.reduceAdd, List.append_assoc, tChain, tDIn, tDNotIn, sDDel, tAug, ipI, rInt1_int, rInt1_bl, sFld, cxP, cxW]
    refine ⟨lo, hi, a, us, s1, s2, ds, rfl, hW1, hW2, ha, hus, l1, l2, fun hok => ?_, qB⟩
    obtain ⟨gs, rfl, hin⟩ := all_okP hok
    have husP : Rw (PrAt H) us gs := ⟨by rw [hus.len, List.length_map], fun {i u} e => by
      obtain ⟨p, ep, t, et, ht⟩ := hus.get e
      rw [List.getElem?_map] at ep
      obtain ⟨g, eg, rfl⟩ := Option.map_eq_some_iff.mp ep
      exact ⟨g, eg, t, et, ht⟩⟩
    have lg : gs.length ≤ 60 := by rw [List.length_map] at l3; exact l3
    refine ⟨PC, dx, _, ho, PP.cl, PP.n1, by show 0 < 1000; decide, PC, dx, _, upd_same, PP.cl, PP.n2, by show 1 < 1000; decide, ?_⟩
    rw [upd_upd]
    have hao : a ≠ o := fun z => by rw [z, ho] at ha; cases ha
    have ho2 : (upd H o (.ins PC dx [("low", .ref lo), ("high", .ref hi)])) o = some (.ins PC dx [("low", .ref lo), ("high", .ref hi)]) := upd_same
    have k2 : Kp [o] H (upd H o (.ins PC dx [("low", .ref lo), ("high", .ref hi)])) := (Kp.refl [o] H).put (by simp)
    have ha2 : (upd H o (.ins PC dx [("low", .ref lo), ("high", .ref hi)])) a = some (.lst us) := by rw [upd_ne hao]; exact ha
    have tp2 : Tp H (upd H o (.ins PC dx [("low", .ref lo), ("high", .ref hi)])) := fun x xs e => by
      rw [upd_ne (fun z => by rw [z, ho] at e; cases e)]; exact e
    have go : ∀ H2 : Hp, H2 = upd H o (.ins PC dx [("low", .ref lo), ("high", .ref hi)]) → tScT K P w (iList K (tVar 3)) (gTup K 2 (gCons (gName 4) (gCons (gName 5) gNil))) tYes
                            (tTup (tCons (tVar 4) (tCons (tVar 5) tNil))) [4, 5]
                            [some (V.ref o), some (V.ref lo), some (V.ref hi), some (V.ref a), none, none, none]
                            H2 fun x H1 =>
                            rSortedT K P w [x] H1 fun y H1 =>
                              ∃ x x_6 x_7,
                                H1 o = some (HO.ins x x_6 x_7) ∧
                                  Cls K x ∧
                                    NoAttr K x (Str.ofString "_pairs") ∧
                                      x_7.length < 1000 ∧
                                        tDcT (iList K (tFld K (tVar 0) (Str.ofString "_pairs"))) (gName 6) tYes (tVar 6)
                                          (tC (V.bl true)) [6]
                                          [some (V.ref o), some (V.ref lo), some (V.ref hi), some (V.ref a), none, none,
                                            none]
                                          (upd H1 o (HO.ins x x_6 (putF (Str.ofString "_pairs") y x_7))) fun y H1 =>
                                          ∃ x x_8 x_9,
                                            H1 o = some (HO.ins x x_8 x_9) ∧
                                              Cls K x ∧
                                                NoAttr K x (Str.ofString "_has") ∧
                                                  x_9.length < 1000 ∧
                                                    Q V.non
                                                      (upd H1 o (HO.ins x x_8 (putF (Str.ofString "_has") y x_9))) := by
      intro H2 e2
      rw [← e2] at ho2 k2 ha2 tp2
      have hus2 : Rw (PrAt H2) us gs := husP.mono fun _ _ z => z.tp tp2
      unfold tScT iList
      refine ⟨.ref a, rfl, a, rfl, ⟨_, sq_l ha2⟩, fun D nD => scT_it (walk_list (K := K) (a := a) (xs := us)) (fun i G => ∃ L : List (Addr × List Int), G D = some (SetTO P w D L) ∧ (∀ p ∈ L, G p.1 = some (.tup (p.2.map V.int))) ∧ (∀ k, k ∈ L.map (·.2) ↔ k ∈ (gs.take i).map prL) ∧ L.length ≤ i ∧ Kp [] H2 G) ⟨[], upd_same, fun p hp => (nomatch hp), fun k => by simp, Nat.le_refl _, Kp.new nD⟩ (fun i G _ h => by obtain ⟨_, _, _, _, _, k⟩ := h; exact k.ls not0 (sq_l ha2)) ?_ ?_⟩
      · rintro i x G G' hi ⟨L, hD, hL, hm, ll, k⟩ ⟨rfl, hx⟩
        obtain ⟨g, eg, t, rfl, ht⟩ := hus2.get hx
        have ht' := k.tps _ _ ht
        try simp (maxSteps := 1000000) only [tSeq, tIfS, tTest, tOp, tUn, tCB, tCons, tNil, tVar, tC, rI0, rI, rU, rEq, rNe, tRet, tRetN, tAsg, gName, gSub, tBM, tBM0, tNext, tB, tNot, tAnd, tOr, tIf, tCall, tDrop, tBreak, tCont, L2.start, tDGet, sDPut, tTup, tLst, tDNewK, tRevL, rCat, rAppend, rPop, rSetL, tAndV, tOrV, tNotV, tSl, tPart, tNoPart, tM1, gTup, gCons, gNil, cxK, cxnK, List.map_cons, List.map_nil, List.length_cons, List.length_nil, List.replicate, List.cons_append, List.nil_append, List.append_nil, List.set_cons_zero, List.set_cons_succ, List.getElem?_cons_zero, List.getElem?_cons_succ, Option.some.injEq, V.ref.injEq, V.int.injEq, V.str.injEq, V.bl.injEq, V.ty.injEq, exists_eq_left', exists_eq_left, exists_and_left, List.cons.injEq, and_true, true_and, sc_ii, sc_ss, sc_bb, sc_ni, sc_in, sc_is, sc_si, sc_nn, decide_true, decide_false, reduceCtorEq, Bool.false_eq_true, if_true, if_false, ite_true, ite_false, exists_const, eq_self, false_and, and_false, or_false, false_or, exists_false, Evl.rLenS, rSum, wipe, tYes, exists_eq, exists_eq', rIxL, rIxT, rIxS, exists_and_right, gt_iff_lt, not_true_eq_false, not_false_eq_true, Bool.not_true, Bool.not_false, decide_eq_true_eq, Nat.reduceSub, Nat.reduceAdd, List.append_assoc, tChain, tDIn, tDNotIn, sDDel, tAug, ipI, rInt1_int, rInt1_bl]
        refine ⟨_, sq_t ht', rfl, _, _, rfl, _, _, rfl, rfl, ?_⟩
        refine ⟨by rw [sizeLine_eq]; decide, fun p np => ?_⟩
        have kp := (Kp.new np : Kp [] G' (upd G' p (.tup [.int g.1, .int g.2])))
        have hp : (upd G' p (.tup [.int g.1, .int g.2])) p = some (.tup [.int g.1, .int g.2]) := upd_same
        generalize upd G' p (.tup [.int g.1, .int g.2]) = G2 at kp hp ⊢
        have hD2 := kp _ _ not0 hD
        have lus : us.length = gs.length := hus2.len
        have hL2 : ∀ q ∈ L, G2 q.1 = some (.tup (q.2.map V.int)) := fun q hq => kp _ _ not0 (hL q hq)
        have et : gs.take (i + 1) = gs.take i ++ [g] := take_snoc eg
        refine ⟨prL g, sq_t hp, L, hD2, fun q hq => sq_t (hL2 q hq), by omega, fun L' c1 c2 => ⟨L', upd_same, fun q hq => ?_, fun kx => ?_, ?_, (k.trans kp).wr nD⟩⟩
        · have : (q ∈ L ∨ q = (p, prL g)) := by
            by_cases c : prL g ∈ L.map (·.2)
            · rw [c1 c] at hq; exact .inl hq
            · rcases List.mem_cons.mp ((c2 c).mem_iff.mp hq) with z | z
              · exact .inr z
              · exact .inl z
          rcases this with z | z
          · rw [upd_ne (fun y => by have := hL2 q z; rw [y, hD2] at this; cases this)]; exact hL2 q z
          · rw [z, upd_ne (fun y => by rw [← y, hp] at hD2; cases hD2)]; exact hp
        · rw [et, List.map_append, List.mem_append, ← hm kx]
          by_cases c : prL g ∈ L.map (·.2)
          · rw [c1 c]
            exact ⟨.inl, fun z => z.elim id fun z => by rw [List.mem_singleton.mp z]; exact c⟩
          · rw [((c2 c).map (·.2)).mem_iff, List.map_cons, List.mem_cons]
            exact ⟨fun z => z.elim (fun z => .inr (by rw [z]; simp)) .inl, fun z => z.elim .inr fun z => .inl (List.mem_singleton.mp z)⟩
        · by_cases c : prL g ∈ L.map (·.2)
          · rw [c1 c]; omega
          · rw [(c2 c).length_eq, List.length_cons]; omega
      · rintro G ⟨L, hD, hL, hm, ll, k⟩
        have lus : us.length = gs.length := hus2.len
        rw [lus, List.take_length] at hm
        have hLg : ∀ p ∈ L, ∃ g : Pr, p.2 = prL g ∧ InP 64 64 g := fun p hp => by
          obtain ⟨g, hg, e⟩ := List.mem_map.mp ((hm p.2).mp (List.mem_map_of_mem hp))
          obtain ⟨a0, a1, a2, a3⟩ := hin g hg
          exact ⟨g, e.symm, a0, by omega, a2, by omega⟩
        refine ⟨D, L, 2, 64, rfl, hD, fun p hp => sq_t (hL p hp), by decide, fun p hp => ?_, fun L' q perm nd l64 pw nq => ?_⟩
        · obtain ⟨g, e, a0, a1, a2, a3⟩ := hLg p hp
          rw [e]
          refine ⟨rfl, ?_⟩
          intro m hm2
          have hm2 : m ∈ [g.1, g.2] := hm2
          simp at hm2
          rcases hm2 with rfl | rfl <;> omega
        obtain ⟨ps, ep, srt⟩ := sorted_ps (fun p hp => hLg p (perm.mem_iff.mp hp)) nd pw
        have mem : ∀ p, p ∈ ps ↔ p ∈ gs := fun p => by
          have h1 : prL p ∈ L'.map (·.2) ↔ prL p ∈ gs.map prL := ((perm.map (·.2)).mem_iff).trans (hm (prL p))
          rw [ep] at h1
          have aux : ∀ l : List Pr, prL p ∈ l.map prL ↔ p ∈ l := fun l => ⟨fun z => by
            obtain ⟨x, hx, e⟩ := List.mem_map.mp z
            rw [← prL_inj e]; exact hx, fun z => List.mem_map_of_mem z⟩
          rw [aux, aux] at h1
          exact h1
        have llen : L'.length = ps.length := by
          have := congrArg List.length ep
          rw [List.length_map, List.length_map] at this
          exact this
        have kq := (Kp.new nq : Kp [] G (upd G q (.lst (L'.map fun q => V.ref q.1))))
        have hq : (upd G q (.lst (L'.map fun q => V.ref q.1))) q = some (.lst (L'.map fun q => V.ref q.1)) := upd_same
        generalize upd G q (.lst (L'.map fun q => V.ref q.1)) = G2 at kq hq ⊢
        have k22 := k.trans kq
        have hrw : Rw (PrAt G2) (L'.map fun q => V.ref q.1) ps := ⟨by rw [List.length_map]; exact llen, fun {i u} e => by
          rw [List.getElem?_map] at e
          obtain ⟨x, ex, rfl⟩ := Option.map_eq_some_iff.mp e
          have e3 : (L'.map (·.2))[i]? = some x.2 := by rw [List.getElem?_map, ex]; rfl
          rw [ep, List.getElem?_map] at e3
          obtain ⟨g, eg, e4⟩ := Option.map_eq_some_iff.mp e3
          refine ⟨g, eg, x.1, rfl, ?_⟩
          have := kq _ _ not0 (hL x (perm.mem_iff.mp (List.mem_of_getElem? ex)))
          rw [← e4] at this
          exact this⟩
        have ho3 := k22 _ _ not0 ho2
        refine ⟨PC, dx, _, ho3, PP.cl, PP.n3, by show 2 < 1000; decide, ?_⟩
        have qo : q ≠ o := fun z => by rw [z, ho3] at hq; cases hq
        have k3 : Kp [o] G2 (upd G2 o (.ins PC dx [("low", .ref lo), ("high", .ref hi), ("_pairs", .ref q)])) := (Kp.refl [o] G2).put (by simp)
        have ho4 : (upd G2 o (.ins PC dx [("low", .ref lo), ("high", .ref hi), ("_pairs", .ref q)])) o = some (.ins PC dx [("low", .ref lo), ("high", .ref hi), ("_pairs", .ref q)]) := upd_same
        have hq4 : (upd G2 o (.ins PC dx [("low", .ref lo), ("high", .ref hi), ("_pairs", .ref q)])) q = some (.lst (L'.map fun q => V.ref q.1)) := by rw [upd_ne qo]; exact hq
        have tp4 : Tp G2 (upd G2 o (.ins PC dx [("low", .ref lo), ("high", .ref hi), ("_pairs", .ref q)])) := fun x xs e => by
          rw [upd_ne (fun z => by rw [z, ho3] at e; cases e)]; exact e
        have hrw4 := hrw.mono fun _ _ z => z.tp tp4
        show tDcT _ _ _ _ _ _ _ (upd G2 o (.ins PC dx [("low", .ref lo), ("high", .ref hi), ("_pairs", .ref q)])) _
        generalize upd G2 o (.ins PC dx [("low", .ref lo), ("high", .ref hi), ("_pairs", .ref q)]) = G3 at k3 ho4 hq4 hrw4 ⊢
        unfold tDcT
        refine ⟨.ref o, rfl, o, PC, dx, _, .ref q, rfl, ho4, PP.cl, PP.n3, rfl, q, rfl, ⟨_, sq_l hq4⟩, fun D2 nD2 => dcT_it (walk_list (K := K) (a := q) (xs := L'.map fun q => V.ref q.1)) (fun i H2 => H2 D2 = some (.dT ((ps.take i).map entP)) ∧ Kp [] G3 H2) ⟨upd_same, Kp.new nD2⟩ (fun i H2 _ h => h.2.ls not0 (sq_l hq4)) ?_ ?_⟩
        · rintro i x H5 H6 hi ⟨hD5, kp5⟩ ⟨rfl, hx⟩
          obtain ⟨g, eg, t, rfl, ht⟩ := hrw4.get hx
          try simp (maxSteps := 1000000) only [tSeq, tIfS, tTest, tOp, tUn, tCB, tCons, tNil, tVar, tC, rI0, rI, rU, rEq, rNe, tRet, tRetN, tAsg, gName, gSub, tBM, tBM0, tNext, tB, tNot, tAnd, tOr, tIf, tCall, tDrop, tBreak, tCont, L2.start, tDGet, sDPut, tTup, tLst, tDNewK, tRevL, rCat, rAppend, rPop, rSetL, tAndV, tOrV, tNotV, tSl, tPart, tNoPart, tM1, gTup, gCons, gNil, cxK, cxnK, List.map_cons, List.map_nil, List.length_cons, List.length_nil, List.replicate, List.cons_append, List.nil_append, List.append_nil, List.set_cons_zero, List.set_cons_succ, List.getElem?_cons_zero, List.getElem?_cons_succ, Option.some.injEq, V.ref.injEq, V.int.injEq, V.str.injEq, V.bl.injEq, V.ty.injEq, exists_eq_left', exists_eq_left, exists_and_left, List.cons.injEq, and_true, true_and, sc_ii, sc_ss, sc_bb, sc_ni, sc_in, sc_is, sc_si, sc_nn, decide_true, decide_false, reduceCtorEq, Bool.false_eq_true, if_true, if_false, ite_true, ite_false, exists_const, eq_self, false_and, and_false, or_false, false_or, exists_false, Evl.rLenS, rSum, wipe, tYes, exists_eq, exists_eq', rIxL, rIxT, rIxS, exists_and_right, gt_iff_lt, not_true_eq_false, not_false_eq_true, Bool.not_true, Bool.not_false, decide_eq_true_eq, Nat.reduceSub, Nat.reduceAdd, List.append_assoc, tChain, tDIn, tDNotIn, sDDel, tAug, ipI, rInt1_int, rInt1_bl]
          have ln : ((ps.take i).map entP).length < sizeLine := by
            rw [List.length_map, List.length_take, sizeLine_eq]
            omega
          have vn : valV ((ps.take i).map entP) [.inl g.1, .inl g.2] = none := by
            have h1 := has_ent (ps := ps.take i) (p := g)
            rw [decide_eq_false (srt_take srt eg)] at h1
            exact Option.isNone_iff_eq_none.mp (by rw [← Option.not_isSome, h1]; rfl)
          refine ⟨_, [.inl g.1, .inl g.2], kp5.tps _ _ ht, hD5, ln, ?_, kp5.wr nD2⟩
          rw [upd_same, putK_new _ vn, take_snoc eg, List.map_append]; rfl
        · rintro H5 ⟨hD5, kp5⟩
          rw [List.length_map, llen, List.take_length] at hD5
          have ho5 := kp5 _ _ not0 ho4
          refine ⟨PC, dx, _, ho5, PP.cl, PP.n4, by show 3 < 1000; decide, ?_⟩
          have Do : D2 ≠ o := fun z => by rw [z, ho5] at hD5; cases hD5
          have qo5 := kp5 _ _ not0 hq4
          have kfin : Kp [o] H (upd H5 o (.ins PC dx [("low", .ref lo), ("high", .ref hi), ("_pairs", .ref q), ("_has", .ref D2)])) := ((((k2.trans k22.of0).trans k3).trans kp5.of0).put (by simp))
          have tpf : Tp G3 (upd H5 o (.ins PC dx [("low", .ref lo), ("high", .ref hi), ("_pairs", .ref q), ("_has", .ref D2)])) := fun x xs e => by
            have e5 := kp5 _ _ not0 e
            rw [upd_ne (fun z => by rw [z, ho5] at e5; cases e5)]; exact e5
          have fq : (upd H5 o (.ins PC dx [("low", .ref lo), ("high", .ref hi), ("_pairs", .ref q), ("_has", .ref D2)])) q = some (.lst (L'.map fun q => V.ref q.1)) := by rw [upd_ne qo]; exact qo5
          have fD : (upd H5 o (.ins PC dx [("low", .ref lo), ("high", .ref hi), ("_pairs", .ref q), ("_has", .ref D2)])) D2 = some (.dT (ps.map entP)) := by rw [upd_ne Do]; exact hD5
          have fo : (upd H5 o (.ins PC dx [("low", .ref lo), ("high", .ref hi), ("_pairs", .ref q), ("_has", .ref D2)])) o = some (.ins PC dx [("low", .ref lo), ("high", .ref hi), ("_pairs", .ref q), ("_has", .ref D2)]) := upd_same
          refine qG gs ps _ rfl hin ⟨dx, q, D2, _, fo, fq, hrw4.mono fun _ _ z => z.tp tpf, fD, srt⟩ (fun S H9 hS kS => ?_) mem kfin
          have no : o ∉ S := fun z => by
            obtain ⟨ys, e⟩ := hS o z
            rw [ho] at e; cases e
          have st : ∀ x ∈ S, ∃ ys, x ≠ o ∧ H x = some (.lst ys) := fun x z => by
            obtain ⟨ys, e⟩ := hS x z
            exact ⟨ys, fun y => no (y ▸ z), e⟩
          refine ⟨dx, q, D2, _, kS _ _ no fo, kS _ _ (fun z => ?_) fq, (hrw4.mono fun _ _ z => z.tp tpf).mono fun _ _ z => z.tp fun x xs e => kS _ _ (fun y => ?_) e, kS _ _ (fun z => ?_) fD, srt⟩
          · obtain ⟨ys, n, e⟩ := st q z
            have := (k2.trans k.of0) _ _ (not1 n) e
            rw [nq] at this; cases this
          · obtain ⟨ys, n, e2⟩ := st x y
            have := kfin _ _ (not1 n) e2
            rw [e] at this; cases this
          · obtain ⟨ys, n, e⟩ := st D2 z
            have := kfin _ _ (not1 n) e
            rw [fD] at this; cases this
    exact go _ rfl
end
end My

set_option Elab.async false
set_option linter.all false
set_option maxRecDepth 100000
set_option maxHeartbeats 4000000
namespace My
open PySem L2 NdefX
abbrev s_Web_same_moves : Stmt := mtop 19 14
theorem sc_Web_same_moves : FnScope ["self", "other"] ["self", "other"] (defScope s_Web_same_moves) := ⟨rfl, rfl, rfl, by decide +kernel, rfl, by decide +kernel, by decide +kernel⟩
abbrev s_Paper_or : Stmt := mtop 15 4
theorem sc_Paper_or : FnScope ["self", "other"] ["self", "other"] (defScope s_Paper_or) := ⟨rfl, rfl, rfl, by decide +kernel, rfl, by decide +kernel, by decide +kernel⟩
def rowD (ms : List Mv) : PyData := .list (ms.map mvD)
theorem eqvAll_map {α : Type} [DecidableEq α] {f : α → PyData} (hf : ∀ a b, PyData.eqv (f a) (f b) = decide (a = b)) : ∀ xs ys : List α, PyData.eqvAll (xs.map f) (ys.map f) = decide (xs = ys)
  | [], [] => by simp [PyData.eqvAll]
  | [], y :: ys => by simp [PyData.eqvAll]
  | x :: xs, [] => by simp [PyData.eqvAll]
  | x :: xs, y :: ys => by
    have e : PyData.eqvAll ((x :: xs).map f) ((y :: ys).map f) = (PyData.eqv (f x) (f y) && PyData.eqvAll (xs.map f) (ys.map f)) := by simp only [List.map_cons, PyData.eqvAll]
    rw [e, hf, eqvAll_map hf xs ys, Bool.eq_iff_iff, Bool.and_eq_true, decide_eq_true_eq, decide_eq_true_eq, decide_eq_true_eq, List.cons.injEq]
theorem eqvRow (a b : List Mv) : PyData.eqv (rowD a) (rowD b) = decide (a = b) := by
  have e : PyData.eqv (rowD a) (rowD b) = PyData.eqvAll (a.map mvD) (b.map mvD) := by simp only [rowD, PyData.eqv]
  rw [e, eqvAll_map eqvMv]
theorem eqvRows (a b : List (List Mv)) : PyData.eqv (.list (a.map rowD)) (.list (b.map rowD)) = decide (a = b) := by
  have e : PyData.eqv (.list (a.map rowD)) (.list (b.map rowD)) = PyData.eqvAll (a.map rowD) (b.map rowD) := by simp only [PyData.eqv]
  rw [e, eqvAll_map eqvRow]
theorem shMv {m : Mv} (h : GoodDd m.1) : SeqAt.shaped (mvD m) = true ∧ (mvD m).depth ≤ 2 := by
  have e : (mvD m).depth ≤ 2 := by
    obtain ⟨⟨a, b, k⟩, g⟩ := m
    cases k <;> exact Nat.le_refl _
  have c : PyData.canLay0 (mvD m) = true := by
    have c1 := (MvOk.of (m := (m.1, 0)) (n := 1) h ⟨Int.le_refl 0, Int.zero_lt_one⟩).2.2.2
    show (PyData.canLay0 (ddD m.1) && _) = true
    rw [show PyData.canLay0 (ddD m.1) = true from c1]; rfl
  refine ⟨?_, e⟩
  unfold SeqAt.shaped
  rw [c, decide_eq_true (by omega)]; rfl
theorem shRow {ms : List Mv} (h : ∀ m ∈ ms, GoodDd m.1) : SeqAt.shaped (rowD ms) = true ∧ (rowD ms).depth ≤ 60 := by
  refine ⟨(shapedL fun x hx => ?_).1, ?_⟩
  · obtain ⟨m, hm, rfl⟩ := List.mem_map.mp hx
    have := shMv (h m hm)
    exact ⟨this.1, by omega⟩
  · have : PyData.depthAll (ms.map mvD) ≤ 2 := by
      induction ms with
      | nil => exact Nat.zero_le _
      | cons m ms ih =>
        have h1 := (shMv (h m (by simp))).2
        have h2 := ih fun x hx => h x (by simp [hx])
        show max (mvD m).depth (PyData.depthAll (ms.map mvD)) ≤ 2
        omega
    show PyData.depthAll (ms.map mvD) + 1 ≤ 60
    omega
theorem shRows {rs : List (List Mv)} (h : ∀ r ∈ rs, ∀ m ∈ r, GoodDd m.1) : SeqAt.shaped (.list (rs.map rowD)) = true := (shapedL fun x hx => by
  obtain ⟨r, hr, rfl⟩ := List.mem_map.mp hx
  exact shRow (h r hr)).1
theorem mvsDp {K : PySem.W.Frag} {H : Hp} : ∀ {ms : List Mv} {us : List V}, Rw (TM H) us ms → DpAll K H us (ms.map mvD)
  | [], us, h => by rw [h.isNil]; exact .nil
  | m :: ms, us, h => by
    obtain ⟨u, us', rfl, hu, t⟩ := h.ex
    exact .cons hu.dp (mvsDp t)
theorem rowsDp {K : PySem.W.Frag} {H : Hp} : ∀ {rs : List (List Mv)} {us : List V}, Rw (RwAt H) us rs → DpAll K H us (rs.map rowD)
  | [], us, h => by rw [h.isNil]; exact .nil
  | r :: rs, us, h => by
    obtain ⟨u, us', rfl, ⟨a, vs, rfl, ha, hv⟩, t⟩ := h.ex
    exact .cons (.lst (sq_l ha) (mvsDp hv)) (rowsDp t)
section
variable {P : Program} {w : World} {K : PySem.W.Frag} {mg : Str → Option Value} {base : Heap} {tL t1 t2 : Tok} {WC NS PC OW : Addr}
def spSmv (WC : Addr) : Sp := fun vs H Q _ => ∃ (o1 o2 : Addr) (s1 s2 : List (List Mv)), vs = [.ref o1, .ref o2] ∧ WebAt WC H o1 s1 ∧ WebAt WC H o2 s2 ∧ (∀ r ∈ s1, ∀ m ∈ r, GoodDd m.1) ∧ (∀ r ∈ s2, ∀ m ∈ r, GoodDd m.1) ∧ Q (.bl (decide (s1 = s2))) H
theorem ok_Web_same {f : Addr} {fd : FuncData} (F : Fun K "same_moves" "Web.same_moves" s_Web_same_moves f fd) (C : WbC K mg WC) : FnOk P w K mg base CX0 1 f fd ["self", "other"] (spSmv WC) := by
  refine F.ok sc_Web_same_moves (fun vs H Q E h => ?_) (fun cdv A outer s H vs Q E hr h => ?_)
  · obtain ⟨_, _, _, _, rfl, _⟩ := h
    rfl
  · obtain ⟨o1, o2, s1, s2, rfl, ⟨dx1, a1, b1, c1, us1, gs1, hs1, ho1, ha1, hu1, _⟩, ⟨dx2, a2, b2, c2, us2, gs2, hs2, ho2, ha2, hu2, _⟩, g1, g2, q⟩ := h
    refine ⟨_, (pss_one (ps_ret (pe_cmpR (op_eqD hr.units) (pe_fld (pv 0) rfl) (pe_fld (pv 1) rfl) (nomark _)))), ?_⟩
    try simp (maxSteps := 1000000) only [tSeq, tIfS, tTest, tOp, tUn, tCB, tCons, tNil, tVar, tC, rI0, rI, rU, rEq, rNe, tRet, tRetN, tAsg, gName, gSub, tBM, tBM0, tNext, tB, tNot, tAnd, tOr, tIf, tCall, tDrop, tBreak, tCont, L2.start, tDGet, sDPut, tTup, tLst, tDNewK, tRevL, rCat, rAppend, rPop, rSetL, tAndV, tOrV, tNotV, tSl, tPart, tNoPart, tM1, gTup, gCons, gNil, cxK, cxnK, List.map_cons, List.map_nil, List.length_cons, List.length_nil, List.replicate, List.cons_append, List.nil_append, List.append_nil, List.set_cons_zero, List.set_cons_succ, List.getElem?_cons_zero, List.getElem?_cons_succ, Option.some.injEq, V.ref.injEq, V.int.injEq, V.str.injEq, V.bl.injEq, V.ty.injEq, exists_eq_left', exists_eq_left, exists_and_left, List.cons.injEq, and_true, true_and, sc_ii, sc_ss, sc_bb, sc_ni, sc_in, sc_is, sc_si, sc_nn, decide_true, decide_false, reduceCtorEq, Bool.false_eq_true, if_true, if_false, ite_true, ite_false, exists_const, eq_self, false_and, and_false, or_false, false_or, exists_false, Evl.rLenS, rSum, wipe, tYes, exists_eq, exists_eq', rIxL, rIxT, rIxS, exists_and_right, gt_iff_lt, not_true_eq_false, not_false_eq_true, Bool.not_true, Bool.not_false, decide_eq_true_eq, Nat.reduceSub, Nat.reduceAdd, List.append_assoc, tChain, tDIn, tDNotIn, sDDel, tAug, ipI, rInt1_int, rInt1_bl, tFld]
    refine ⟨WC, dx1, _, ho1, C.cl, C.n1, .ref a1, rfl, WC, dx2, _, ho2, C.cl, C.n1, .ref a2, rfl, _, _, .lst (sq_l ha1) (rowsDp hu1), .lst (sq_l ha2) (rowsDp hu2), shRows g1, shRows g2, ?_⟩
    rw [eqvRows]
    exact q
theorem Kp.own {H G H' : Hp} {o : Addr} (k : Kp [] H G) (k2 : Kp [o] G H') (no : H o = none) : Kp [] H H' := fun c u _ e => k2 c u (not1 (ne_of_none e no)) (k c u not0 e)
/-- Paper(lo, hi, a list of pairs of standings) -/
theorem mkPap {PC WC NS : Addr} {ta : TA} {σ : L2.St} {H : Hp} {Q : VK} {E : XK} (lo hi : Addr) (s1 s2 : List (List Mv)) (gs : List Pr) (hL : WebAt WC H lo s1) (hH : WebAt WC H hi s2) (l1 : s1.length ≤ 60) (l2 : s2.length ≤ 60) (l3 : gs.length ≤ 60) (hin : ∀ g ∈ gs, InP s1.length s2.length g)
    (ht : ∀ R : List V → Hp → Prop, (∀ a us H1, H1 a = some (.lst us) → Rw (PrAt H1) us gs → Kp [] H H1 → R [.ref lo, .ref hi, .ref a] H1) → ta σ H R)
    (q : ∀ o ps H1 H', PapAt PC H' o lo hi ps → (∀ S H2, (∀ x ∈ S, ∃ ys, H1 x = some (.lst ys)) → Kp S H' H2 → PapAt PC H2 o lo hi ps) → (∀ p, p ∈ ps ↔ p ∈ gs) → Kp [] H H1 → Kp [] H1 H' → Q (.ref o) H') : tMake PC (spPapI PC WC NS) [] E ta σ H Q :=
  ht _ fun a us H1 ha hus k x dx nx ndx ne => by
    have kk : Kp [] H1 (upd (upd H1 dx (.own x)) x (.ins PC dx [])) := (Kp.new ndx).wr nx
    have k2 := k.trans kk
    refine ⟨x, dx, lo, hi, a, us, s1, s2, gs.map prS, rfl, upd_same, hL.kp k2, hH.kp k2, kk _ _ not0 ha, ⟨by rw [hus.len, List.length_map], fun {i u} e => ?_⟩, l1, l2, by rw [List.length_map]; exact l3, fun gs' ps H' eg _ hP hS mem k3 => ⟨rfl, q x ps H1 H' hP (fun S H2 hSS kS => hS S H2 (fun y hy => by
      obtain ⟨ys, e⟩ := hSS y hy
      exact ⟨ys, kk _ _ not0 e⟩) kS) ?_ k (Kp.own kk k3 nx)⟩, fun i p ep hb => ?_⟩
    · obtain ⟨g, eg, t, et, h⟩ := hus.get e
      exact ⟨prS g, by rw [List.getElem?_map, eg]; rfl, t, et, kk _ _ not0 h⟩
    · have e : gs = gs' := by
        have inj : ∀ p q : Pr, prS p = prS q → p = q := fun p q h => by
          unfold prS at h
          injection h with h1 h2
          exact Prod.ext (Sum.inl.inj h1) (Sum.inl.inj h2)
        have go : ∀ a b : List Pr, a.map prS = b.map prS → a = b := by
          intro a
          induction a with
          | nil => intro b h; cases b with
            | nil => rfl
            | cons _ _ => cases h
          | cons x a ih => intro b h; cases b with
            | nil => cases h
            | cons y b =>
              rw [List.map_cons, List.map_cons] at h
              injection h with h1 h2
              rw [inj _ _ h1, ih b h2]
        exact go _ _ eg
      rw [e]; exact mem
    · rw [List.getElem?_map] at ep
      obtain ⟨g, eg, rfl⟩ := Option.map_eq_some_iff.mp ep
      rw [okP_iff.mpr ⟨g, rfl, hin g (List.mem_of_getElem? eg)⟩] at hb
      cases hb
def spPOr (PC WC OW : Addr) : Sp := fun vs H Q E => ∃ (o1 o2 lo1 hi1 lo2 hi2 : Addr) (s1 t1 s2 t2 : List (List Mv)) (ps qs : List Pr), vs = [.ref o1, .ref o2] ∧ PapAt PC H o1 lo1 hi1 ps ∧ PapAt PC H o2 lo2 hi2 qs ∧ WebAt WC H lo1 s1 ∧ WebAt WC H hi1 t1 ∧ WebAt WC H lo2 s2 ∧ WebAt WC H hi2 t2 ∧ (∀ r ∈ s1 ++ t1 ++ s2 ++ t2, ∀ m ∈ r, GoodDd m.1) ∧ s1.length ≤ 60 ∧ t1.length ≤ 60 ∧ ps.length + qs.length ≤ 60 ∧ (∀ p ∈ ps ++ qs, s1 = s2 → t1 = t2 → InP s1.length t1.length p) ∧
  (s1 = s2 → t1 = t2 → ∀ (o : Addr) (rs : List Pr) H', PapAt PC H' o lo1 hi1 rs → (∀ p, p ∈ rs ↔ p ∈ ps ∨ p ∈ qs) → Kp [] H H' → Q (.ref o) H') ∧
  (¬ (s1 = s2 ∧ t1 = t2) → ∀ H', Kp [] H H' → E (.ref OW) none H')
theorem ok_Paper_or {f fI fO : Addr} {fd fdI fdO : FuncData} (F : Fun K "__or__" "Paper.__or__" s_Paper_or f fd) (C : WbC K mg WC) (PP : PpC K mg PC) (E_OtherWeb : Er0 P w K mg base "OtherWeb" OW fO fdO ["self"])
    {fs : Addr} {fds : FuncData} (ME_Web_same_moves : Meth K WC "same_moves" fs) (bM_Web_same_moves : Binds K fds ["self", "other"] []) (G_Web_same_moves : FnOk P w K mg base CX0 1 fs fds ["self", "other"] (spSmv WC))
    (M_Paper : Mk K PC fI) (bI_Paper : Binds K fdI ["self", "low", "high", "pairs"] []) (G_Paper_init : FnOk P w K mg base (L2.CX P w) 4 fI fdI ["self", "low", "high", "pairs"] (spPapI PC WC NS)) : FnOk P w K mg base (L2.CX P w) 6 f fd ["self", "other"] (spPOr PC WC OW) := by
  refine F.okX sc_Paper_or (fun vs H Q E h => ?_) (fun cdv A outer s H vs Q E hr h => ?_)
  · obtain ⟨_, _, _, _, _, _, _, _, _, _, _, _, rfl, _⟩ := h
    rfl
  · obtain ⟨o1, o2, lo1, hi1, lo2, hi2, s1, t1, s2, t2, ps, qs, rfl, hP1, hP2, hL1, hH1, hL2, hH2, hg, l1, l2, l3, hin, qG, qB⟩ := h
    refine ⟨_, (pss_cons (ps_if (pt_not (PW.pt (pw_and (pt_val (pe_meth (pe_fld (pv 0) rfl) C.cl ME_Web_same_moves G_Web_same_moves (hr.mono (by decide)) bM_Web_same_moves .nil pass0 (pa_cons (pe_fld (pv 1) rfl) pa_nil))) (pw_and1 (pt_val (pe_meth (pe_fld (pv 0) rfl) C.cl ME_Web_same_moves G_Web_same_moves (hr.mono (by decide)) bM_Web_same_moves .nil pass0 (pa_cons (pe_fld (pv 1) rfl) pa_nil))))))) (pss_one (ps_raise rfl (takes_of rfl rfl rfl rfl) (pmk_oex0 E_OtherWeb.ox E_OtherWeb.ic E_OtherWeb.ti E_OtherWeb.G (hr.mono (by decide)) E_OtherWeb.b passL rfl E_OtherWeb.k))) pss_nil)
      (pss_one (ps_ret (pe_make M_Paper G_Paper_init (hr.mono (by decide)) rfl PP.k bI_Paper .nil (passes_call (E := E) (takes_of rfl rfl rfl rfl) (fun _ _ _ _ h => h)) (pa_cons (pe_fld (pv 0) rfl) (pa_cons (pe_fld (pv 0) rfl) (pa_cons (pe_op op_cat (pe_fld (pv 0) rfl) (pe_fld (pv 1) rfl)) pa_nil))))))), ?_⟩
    try simp (maxSteps := 1000000) only [tSeq, tIfS, tTest, tOp, tUn, tCB, tCons, tNil, tVar, tC, rI0, rI, rU, rEq, rNe, tRet, tRetN, tAsg, gName, gSub, tBM, tBM0, tNext, tB, tNot, tAnd, tOr, tIf, tCall, tDrop, tBreak, tCont, L2.start, tDGet, sDPut, tTup, tLst, tDNewK, tRevL, rCat, rAppend, rPop, rSetL, tAndV, tOrV, tNotV, tSl, tPart, tNoPart, tM1, gTup, gCons, gNil, cxK, cxnK, List.map_cons, List.map_nil, List.length_cons, List.length_nil, List.replicate, List.cons_append, List.nil_append, List.append_nil, List.set_cons_zero, List.set_cons_succ, List.getElem?_cons_zero, List.getElem?_cons_succ, Option.some.injEq, V.ref.injEq, V.int.injEq, V.str.injEq, V.bl.injEq, V.ty.injEq, exists_eq_left', exists_eq_left, exists_and_left, List.cons.injEq, and_true, true_and, sc_ii, sc_ss, sc_bb, sc_ni, sc_in, sc_is, sc_si, sc_nn, decide_true, decide_false, reduceCtorEq, Bool.false_eq_true, if_true, if_false, ite_true, ite_false, exists_const, eq_self, false_and, and_false, or_false, false_or, exists_false, Evl.rLenS, rSum, wipe, tYes, exists_eq, exists_eq', rIxL, rIxT, rIxS, exists_and_right, gt_iff_lt, not_true_eq_false, not_false_eq_true, Bool.not_true, Bool.not_false, decide_eq_true_eq, Nat.reduceSub, Nat.reduceAdd, List.append_assoc, tChain, tDIn, tDNotIn, sDDel, tAug, ipI, rInt1_int, rInt1_bl, tFld, tMeth]
    obtain ⟨dxa, la, da, usa, hoa, hla, husa, hda, srta⟩ := id hP1
    obtain ⟨dxb, lb, db, usb, hob, hlb, husb, hdb, srtb⟩ := id hP2
    obtain ⟨dx1, _, _, _, _, _, _, hw1, _⟩ := id hL1
    obtain ⟨dx2, _, _, _, _, _, _, hw2, _⟩ := id hH1
    have g1 : ∀ r ∈ s1, ∀ m ∈ r, GoodDd m.1 := fun r hr => hg r (by simp [hr])
    have g2 : ∀ r ∈ t1, ∀ m ∈ r, GoodDd m.1 := fun r hr => hg r (by simp [hr])
    have g3 : ∀ r ∈ s2, ∀ m ∈ r, GoodDd m.1 := fun r hr => hg r (by simp [hr])
    have g4 : ∀ r ∈ t2, ∀ m ∈ r, GoodDd m.1 := fun r hr => hg r (by simp [hr])
    refine ⟨PC, dxa, _, hoa, PP.cl, PP.n1, .ref lo1, rfl, lo1, rfl, dx1, _, hw1, rfl, PC, dxb, _, hob, PP.cl, PP.n1, .ref lo2, rfl, lo1, lo2, s1, s2, rfl, hL1, hL2, g1, g3, _, rfl, ?_⟩
    by_cases e1 : s1 = s2
    · rw [decide_eq_true e1, if_pos rfl]
      refine ⟨PC, dxa, _, hoa, PP.cl, PP.n2, .ref hi1, rfl, ?_⟩
      refine ⟨hi1, rfl, dx2, _, hw2, rfl, PC, dxb, _, hob, PP.cl, PP.n2, .ref hi2, rfl, hi1, hi2, t1, t2, rfl, hH1, hH2, g2, g4, _, rfl, ?_⟩
      by_cases e2 : t1 = t2
      · rw [decide_eq_true e2, if_neg (by decide)]
        refine mkPap lo1 hi1 s1 t1 (ps ++ qs) hL1 hH1 l1 l2 (by rw [List.length_append]; exact l3) (fun g hgm => hin g hgm e1 e2) (fun R r => ?_) fun o rs H1 H' hP _ mem k1 k2 => ?_
        · try simp (maxSteps := 1000000) only [tSeq, tIfS, tTest, tOp, tUn, tCB, tCons, tNil, tVar, tC, rI0, rI, rU, rEq, rNe, tRet, tRetN, tAsg, gName, gSub, tBM, tBM0, tNext, tB, tNot, tAnd, tOr, tIf, tCall, tDrop, tBreak, tCont, L2.start, tDGet, sDPut, tTup, tLst, tDNewK, tRevL, rCat, rAppend, rPop, rSetL, tAndV, tOrV, tNotV, tSl, tPart, tNoPart, tM1, gTup, gCons, gNil, cxK, cxnK, List.map_cons, List.map_nil, List.length_cons, List.length_nil, List.replicate, List.cons_append, List.nil_append, List.append_nil, List.set_cons_zero, List.set_cons_succ, List.getElem?_cons_zero, List.getElem?_cons_succ, Option.some.injEq, V.ref.injEq, V.int.injEq, V.str.injEq, V.bl.injEq, V.ty.injEq, exists_eq_left', exists_eq_left, exists_and_left, List.cons.injEq, and_true, true_and, sc_ii, sc_ss, sc_bb, sc_ni, sc_in, sc_is, sc_si, sc_nn, decide_true, decide_false, reduceCtorEq, Bool.false_eq_true, if_true, if_false, ite_true, ite_false, exists_const, eq_self, false_and, and_false, or_false, false_or, exists_false, Evl.rLenS, rSum, wipe, tYes, exists_eq, exists_eq', rIxL, rIxT, rIxS, exists_and_right, gt_iff_lt, not_true_eq_false, not_false_eq_true, Bool.not_true, Bool.not_false, decide_eq_true_eq, Nat.reduceSub, Nat.reduceAdd, List.append_assoc, tChain, tDIn, tDNotIn, sDDel, tAug, ipI, rInt1_int, rInt1_bl, tFld]
          refine ⟨PC, dxa, _, hoa, PP.cl, PP.n1, .ref lo1, rfl, PC, dxa, _, hoa, PP.cl, PP.n2, .ref hi1, rfl, PC, dxa, _, hoa, PP.cl, PP.n3, .ref la, rfl, PC, dxb, _, hob, PP.cl, PP.n3, .ref lb, rfl, la, rfl, lb, rfl, usa, hla, usb, hlb, by rw [husa.len, husb.len, sizeLine_eq]; omega, fun p np => ?_⟩
          have kp := (Kp.new np : Kp [] H (upd H p (.lst (usa ++ usb))))
          exact r p (usa ++ usb) _ upd_same ((husa.app husb).mono fun _ _ z => z.tp kp.tps) kp
        · exact qG e1 e2 o rs H' hP (fun p => by rw [mem, List.mem_append]) (k1.trans k2)
      · rw [decide_eq_false e2, if_pos (by rfl)]
        exact qB (fun z => e2 z.2) H (Kp.refl _ _)
    · rw [decide_eq_false e1, if_neg (by decide)]
      exact qB (fun z => e1 z.1) H (Kp.refl _ _)
end
end My

set_option Elab.async false
set_option linter.all false
set_option maxRecDepth 100000
set_option maxHeartbeats 4000000
namespace My
open PySem L2 NdefX

abbrev s_law_list : Stmt := top 29
theorem sc_law_list : FnScope ["_law_cell_here", "_law_size", "_law_width", "_law_draws_here", "_law_k"] ["_law_cell_here", "_law_size", "_law_width"] (defScope s_law_list) := ⟨rfl, rfl, rfl, by decide +kernel, rfl, by decide +kernel, by decide +kernel⟩
def spansL (n m : Int) : List Int := 13 :: (List.replicate 12 [n, m]).flatten
theorem spansL_at (n m : Int) : ∀ j : Nat, j < 12 → (spansL n m)[1 + 2 * j]? = some n ∧ (spansL n m)[2 + 2 * j]? = some m := by
  intro j h
  have : j = 0 ∨ j = 1 ∨ j = 2 ∨ j = 3 ∨ j = 4 ∨ j = 5 ∨ j = 6 ∨ j = 7 ∨ j = 8 ∨ j = 9 ∨ j = 10 ∨ j = 11 := by omega
  rcases this with rfl | rfl | rfl | rfl | rfl | rfl | rfl | rfl | rfl | rfl | rfl | rfl <;> exact ⟨rfl, rfl⟩
section
variable {P : Program} {w : World} {K : PySem.W.Frag} {mg : Str → Option Value} {base : Heap} {t1 : Tok}
def spList : Sp := fun vs H Q _ => ∃ (c : Int) (n m : Nat), vs = [.int c, .int (n : Nat), .int (m : Nat)] ∧ 0 ≤ c ∧ 1 ≤ n ∧ n ≤ 60 ∧ 1 ≤ m ∧ m ≤ 60 ∧ ∀ (l : Addr) (us : List V) (gs : List Pr) H', H l = none → H' l = some (.lst us) → Rw (PrAt H') us gs → gs.length ≤ 12 → (∀ g ∈ gs, InP n m g) → Kp [] H H' → Q (.ref l) H'
theorem ok_law_list {f : Addr} {fd : FuncData} (D : Df K mg "_law_list" s_law_list ["_law_cell_here", "_law_size", "_law_width"] f fd) (T : BtG mg) {g1 : Addr} {gd1 : FuncData} (D_law_draws : Df K mg "_law_draws" s_law_draws ["_law_cell_here", "_law_spans"] g1 gd1) (G_law_draws : FnOk P w K mg base CX0 1 g1 gd1 ["_law_cell_here", "_law_spans"] (spDraws K)) : FnOk P w K mg base CX0 2 f fd ["_law_cell_here", "_law_size", "_law_width"] spList := by
  refine D.F.ok sc_law_list (fun vs H Q E h => ?_) (fun cdv A outer s H vs Q E hr h => ?_)
  · obtain ⟨_, _, _, rfl, _⟩ := h
    rfl
  · obtain ⟨c, n, m, rfl, c0, n1, n2, m1, m2, q⟩ := h
    refine ⟨_, (pss_cons (ps_set (i := 3) sc_law_list.nd rfl (Or.inr rfl) (pe_call G_law_draws (hr.mono (by decide)) rfl D_law_draws.g D_law_draws.F.kp D_law_draws.b .nil pass0 (pa_cons (pv 0) (pa_cons (pe_op op_cat (pe_lst (pa_cons pe_int pa_nil)) (pe_op op_rep (pe_lst (pa_cons (pv 1) (pa_cons (pv 2) pa_nil))) pe_int)) pa_nil))))
      (pss_one (ps_ret (pe_lc (own := [("_law_k", 4)]) (g := (gName 4)) (tt := tYes) rfl sc_law_list.nd (pi_range1 rfl T.b_range (pa_cons (pe_ix (r := rIxL K) ix_list (pv 3) pe_int (fun _ _ => rfl)) pa_nil)) (blkOk_by (N := ["_law_cell_here", "_law_size", "_law_width", "_law_draws_here", "_law_k"]) (sc := defScope s_law_list) (by decide +kernel)) (fun _ _ _ _ _ => (pg_name (i := 4) sc_law_list.nd rfl (Or.inl rfl))) (fun _ _ _ _ _ => pts_nil) (fun _ _ _ _ _ => (pe_tup (pa_cons (pe_ix (r := rIxL K) ix_list (pv 3) (pe_op op_add pe_int (pe_op op_mul pe_int (pv 4))) (fun _ _ => rfl)) (pa_cons (pe_ix (r := rIxL K) ix_list (pv 3) (pe_op op_add pe_int (pe_op op_mul pe_int (pv 4))) (fun _ _ => rfl)) pa_nil)))))))), ?_⟩
    try simp (maxSteps := 1000000) only [tSeq, tIfS, tTest, tOp, tUn, tCB, tCons, tNil, tVar, tC, rI0, rI, rU, rEq, rNe, tRet, tRetN, tAsg, gName, gSub, tBM, tBM0, tNext, tB, tNot, tAnd, tOr, tIf, tCall, tDrop, tBreak, tCont, L2.start, tDGet, sDPut, tTup, tLst, tDNewK, tRevL, rCat, rAppend, rPop, rSetL, tAndV, tOrV, tNotV, tSl, tPart, tNoPart, tM1, gTup, gCons, gNil, cxK, cxnK, List.map_cons, List.map_nil, List.length_cons, List.length_nil, List.replicate, List.cons_append, List.nil_append, List.append_nil, List.set_cons_zero, List.set_cons_succ, List.getElem?_cons_zero, List.getElem?_cons_succ, Option.some.injEq, V.ref.injEq, V.int.injEq, V.str.injEq, V.bl.injEq, V.ty.injEq, exists_eq_left', exists_eq_left, exists_and_left, List.cons.injEq, and_true, true_and, sc_ii, sc_ss, sc_bb, sc_ni, sc_in, sc_is, sc_si, sc_nn, decide_true, decide_false, reduceCtorEq, Bool.false_eq_true, if_true, if_false, ite_true, ite_false, exists_const, eq_self, false_and, and_false, or_false, false_or, exists_false, Evl.rLenS, rSum, wipe, tYes, exists_eq, exists_eq', rIxL, rIxT, rIxS, exists_and_right, gt_iff_lt, not_true_eq_false, not_false_eq_true, Bool.not_true, Bool.not_false, decide_eq_true_eq, Nat.reduceSub, Nat.reduceAdd, List.append_assoc, tChain, tDIn, tDNotIn, sDDel, tAug, ipI, rInt1_int, rInt1_bl, rRep]
    refine ⟨by rw [sizeLine_eq]; decide, fun p np => ⟨by rw [sizeLine_eq]; decide, fun p1 np1 => ?_⟩⟩
    have kp := (Kp.new np : Kp [] H (upd H p (.lst [.int 13])))
    have hp : (upd H p (.lst [.int 13])) p = some (.lst [.int 13]) := upd_same
    generalize upd H p (.lst [.int 13]) = H1 at kp hp np1 ⊢
    have k1 := (Kp.new np1 : Kp [] H1 (upd H1 p1 (.lst [.int (n : Nat), .int (m : Nat)])))
    have hp1 : (upd H1 p1 (.lst [.int (n : Nat), .int (m : Nat)])) p1 = some (.lst [.int (n : Nat), .int (m : Nat)]) := upd_same
    generalize upd H1 p1 (.lst [.int (n : Nat), .int (m : Nat)]) = H2 at k1 hp1 ⊢
    refine ⟨_, hp1, by decide, by decide, by rw [sizeLine_eq]; exact (show 2 * 12 ≤ 16777216 by decide), fun p2 np2 => ?_⟩
    have k2 := (Kp.new np2 : Kp [] H2 (upd H2 p2 (.lst (List.replicate (12 : Int).toNat [V.int (n : Nat), V.int (m : Nat)]).flatten)))
    have hp2 : (upd H2 p2 (.lst (List.replicate (12 : Int).toNat [V.int (n : Nat), V.int (m : Nat)]).flatten)) p2 = some (.lst (List.replicate (12 : Int).toNat [V.int (n : Nat), V.int (m : Nat)]).flatten) := upd_same
    generalize upd H2 p2 (.lst (List.replicate (12 : Int).toNat [V.int (n : Nat), V.int (m : Nat)]).flatten) = H3 at k2 hp2 ⊢
    refine ⟨_, (k1.trans k2) _ _ not0 hp, _, hp2, by rw [sizeLine_eq]; exact (show 1 + 24 ≤ 16777216 by decide), fun p3 np3 => ?_⟩
    have k3 := (Kp.new np3 : Kp [] H3 (upd H3 p3 (.lst ([V.int 13] ++ (List.replicate (12 : Int).toNat [V.int (n : Nat), V.int (m : Nat)]).flatten))))
    have hp3 : (upd H3 p3 (.lst ([V.int 13] ++ (List.replicate (12 : Int).toNat [V.int (n : Nat), V.int (m : Nat)]).flatten))) p3 = some (.lst ((spansL (n : Nat) (m : Nat)).map V.int)) := upd_same
    generalize upd H3 p3 (.lst ([V.int 13] ++ (List.replicate (12 : Int).toNat [V.int (n : Nat), V.int (m : Nat)]).flatten)) = H4 at k3 hp3 ⊢
    have k04 := ((kp.trans k1).trans k2).trans k3
    refine ⟨c, p3, spansL (n : Nat) (m : Nat), rfl, c0, sq_l hp3, (show 25 ≤ 100 by decide), fun x hx => ?_, fun dr dl H5 nd hdl dlen hdr k5 => ?_⟩
    · rcases List.mem_cons.mp hx with rfl | hx
      · decide
      · obtain ⟨l, hl, hx⟩ := List.mem_flatten.mp hx
        rw [List.eq_of_mem_replicate hl] at hx
        simp at hx
        rcases hx with rfl | rfl <;> omega
    obtain ⟨z0, e0, z00, z01⟩ := dr_at dlen hdr (i := 0) (s := 13) rfl
    obtain ⟨k, rfl⟩ := Int.eq_ofNat_of_zero_le z00
    refine lcRgE k (by omega) PrAt (InP n m) (fun _ _ _ _ t h => h.tp t) (show 4 < 5 by decide) (fun R r => ?_) (fun i H' Q' hi k' q' => ?_) fun o us gs H' no ho hus lg hg k' => q o us gs H' ((k04.trans k5).free0 no) ho hus (by omega) hg ((k04.trans k5).trans k')
    · try simp (maxSteps := 1000000) only [tSeq, tIfS, tTest, tOp, tUn, tCB, tCons, tNil, tVar, tC, rI0, rI, rU, rEq, rNe, tRet, tRetN, tAsg, gName, gSub, tBM, tBM0, tNext, tB, tNot, tAnd, tOr, tIf, tCall, tDrop, tBreak, tCont, L2.start, tDGet, sDPut, tTup, tLst, tDNewK, tRevL, rCat, rAppend, rPop, rSetL, tAndV, tOrV, tNotV, tSl, tPart, tNoPart, tM1, gTup, gCons, gNil, cxK, cxnK, List.map_cons, List.map_nil, List.length_cons, List.length_nil, List.replicate, List.cons_append, List.nil_append, List.append_nil, List.set_cons_zero, List.set_cons_succ, List.getElem?_cons_zero, List.getElem?_cons_succ, Option.some.injEq, V.ref.injEq, V.int.injEq, V.str.injEq, V.bl.injEq, V.ty.injEq, exists_eq_left', exists_eq_left, exists_and_left, List.cons.injEq, and_true, true_and, sc_ii, sc_ss, sc_bb, sc_ni, sc_in, sc_is, sc_si, sc_nn, decide_true, decide_false, reduceCtorEq, Bool.false_eq_true, if_true, if_false, ite_true, ite_false, exists_const, eq_self, false_and, and_false, or_false, false_or, exists_false, Evl.rLenS, rSum, wipe, tYes, exists_eq, exists_eq', rIxL, rIxT, rIxS, exists_and_right, gt_iff_lt, not_true_eq_false, not_false_eq_true, Bool.not_true, Bool.not_false, decide_eq_true_eq, Nat.reduceSub, Nat.reduceAdd, List.append_assoc, tChain, tDIn, tDNotIn, sDDel, tAug, ipI, rInt1_int, rInt1_bl]
      exact ⟨_, sq_l hdl, _, e0, r⟩
    · obtain ⟨x1, x2⟩ := spansL_at (n : Nat) (m : Nat) i (by omega)
      obtain ⟨y1, ey1, y10, y11⟩ := dr_at dlen hdr x1
      obtain ⟨y2, ey2, y20, y21⟩ := dr_at dlen hdr x2
      rw [show ((1 + 2 * i : Nat) : Int) = 1 + 2 * (i : Int) by omega] at ey1
      rw [show ((2 + 2 * i : Nat) : Int) = 2 + 2 * (i : Int) by omega] at ey2
      have hdl' := k' _ _ not0 hdl
      have c2 : CMul 2 (i : Int) := .inl ⟨by decide, by decide⟩
      try simp (maxSteps := 1000000) only [tSeq, tIfS, tTest, tOp, tUn, tCB, tCons, tNil, tVar, tC, rI0, rI, rU, rEq, rNe, tRet, tRetN, tAsg, gName, gSub, tBM, tBM0, tNext, tB, tNot, tAnd, tOr, tIf, tCall, tDrop, tBreak, tCont, L2.start, tDGet, sDPut, tTup, tLst, tDNewK, tRevL, rCat, rAppend, rPop, rSetL, tAndV, tOrV, tNotV, tSl, tPart, tNoPart, tM1, gTup, gCons, gNil, cxK, cxnK, List.map_cons, List.map_nil, List.length_cons, List.length_nil, List.replicate, List.cons_append, List.nil_append, List.append_nil, List.set_cons_zero, List.set_cons_succ, List.getElem?_cons_zero, List.getElem?_cons_succ, Option.some.injEq, V.ref.injEq, V.int.injEq, V.str.injEq, V.bl.injEq, V.ty.injEq, exists_eq_left', exists_eq_left, exists_and_left, List.cons.injEq, and_true, true_and, sc_ii, sc_ss, sc_bb, sc_ni, sc_in, sc_is, sc_si, sc_nn, decide_true, decide_false, reduceCtorEq, Bool.false_eq_true, if_true, if_false, ite_true, ite_false, exists_const, eq_self, false_and, and_false, or_false, false_or, exists_false, Evl.rLenS, rSum, wipe, tYes, exists_eq, exists_eq', rIxL, rIxT, rIxS, exists_and_right, gt_iff_lt, not_true_eq_false, not_false_eq_true, Bool.not_true, Bool.not_false, decide_eq_true_eq, Nat.reduceSub, Nat.reduceAdd, List.append_assoc, tChain, tDIn, tDNotIn, sDDel, tAug, ipI, rInt1_int, rInt1_bl]
      refine ⟨c2, _, sq_l hdl', _, ey1, c2, _, sq_l hdl', _, ey2, by rw [sizeLine_eq]; decide, fun p np => ?_⟩
      exact q' _ (y1, y2) _ ⟨p, rfl, upd_same⟩ ⟨y10, y11, y20, y21⟩ (Kp.new np)
end
end My

set_option Elab.async false
set_option linter.all false
set_option maxRecDepth 100000
set_option maxHeartbeats 4000000
namespace My
open PySem L2 NdefX

abbrev s_law_between : Stmt := top 30
theorem sc_law_between : FnScope ["_law_paper", "_law_low", "_law_high", "_law_at"] ["_law_paper", "_law_low", "_law_high"] (defScope s_law_between) := ⟨rfl, rfl, rfl, by decide +kernel, rfl, by decide +kernel, by decide +kernel⟩
structure BtO (mg : Str → Option Value) : Prop where
  b_len : mg "len" = none
  b_range : mg "range" = none
  b_sorted : mg "sorted" = none
theorem mvK_inj {m n : Mv} (hm : MvOk m) (hn : MvOk n) (h : mvK m = mvK n) : m = n := by
  obtain ⟨d, g⟩ := m
  obtain ⟨d', g'⟩ := n
  have h : ddK d ++ [[g.toNat]] = ddK d' ++ [[g'.toNat]] := h
  have h1 := List.append_inj' h rfl
  have e := ddK_inj hm.1 hn.1 hm.2.2.1 hn.2.2.1 h1.1
  have e2 : g.toNat = g'.toNat := by simpa using h1.2
  have g0 : 0 ≤ g := hm.2.1
  have g0' : 0 ≤ g' := hn.2.1
  have e : d = d' := e
  have e3 : g = g' := by omega
  rw [e, e3]
theorem srt_uniq {n : Nat} {r s s' : List Mv} (hg : GoodRw n r) (h : SrM r s) (h' : SrM r s') : s = s' := by
  refine List.Perm.eq_of_pairwise (le := fun x y : Mv => mvLt y x = false) (fun a b ha hb h1 h2 => ?_) h.2 h'.2 (h.1.trans h'.1.symm)
  have ma := h.1.mem_iff.mp ha
  have mb := h'.1.mem_iff.mp hb
  have oa := MvOk.of (hg.deed a ma) (hg.goal a ma)
  have ob := MvOk.of (hg.deed b mb) (hg.goal b mb)
  refine mvK_inj oa ob ?_
  have h1 : decide (mvK b < mvK a) = false := h1
  have h2 : decide (mvK a < mvK b) = false := h2
  rw [decide_eq_false_iff_not] at h1 h2
  exact List.le_antisymm (List.not_lt.mp h1) (List.not_lt.mp h2)
section
variable {P : Program} {w : World} {K : PySem.W.Frag} {mg : Str → Option Value} {base : Heap} {t1 : Tok} {WC NS PC : Addr}
def spBtw (PC WC : Addr) : Sp := fun vs H Q _ => ∃ (o lo hi a b : Addr) (ps : List Pr) (s1 s2 rows1 rows2 : List (List Mv)) (rs1 rs2 : List V), vs = [.ref o, .ref a, .ref b] ∧ PapAt PC H o lo hi ps ∧ WebAt WC H lo s1 ∧ WebAt WC H hi s2 ∧ H a = some (.lst rs1) ∧ Rw (RwAt H) rs1 rows1 ∧ H b = some (.lst rs2) ∧ Rw (RwAt H) rs2 rows2 ∧ SrRel rows1 s1 ∧ SrRel rows2 s2 ∧ rows1.length ≤ 60 ∧ rows2.length ≤ 60 ∧ (∀ r ∈ rows1, GoodRw rows1.length r) ∧ (∀ r ∈ rows2, GoodRw rows2.length r) ∧ ∀ H', Kp [] H H' → Q (.bl true) H'
theorem ok_law_between {f : Addr} {fd : FuncData} (D : Df K mg "_law_between" s_law_between ["_law_paper", "_law_low", "_law_high"] f fd) (T : BtO mg) (C : WbC K mg WC) (PP : PpC K mg PC) {fl : Addr} {fdl : FuncData} (LN_Web : LenC K WC fl) (b_Web_len : Binds K fdl ["self"] []) (G_Web_len : FnOk P w K mg base CX0 1 fl fdl ["self"] (spWLen WC))
    {g2 : Addr} {gd2 : FuncData} (D_law_same : Df K mg "_law_same" s_law_same ["_law_told", "_law_due"] g2 gd2) (G_law_same : FnOk P w K mg base CX0 4 g2 gd2 ["_law_told", "_law_due"] (spSame 3))
    {fR : Addr} {fdR : FuncData} (ME_Web_moves : Meth K WC "moves" fR) (bM_Web_moves : Binds K fdR ["self", "at"] []) (G_Web_moves : FnOk P w K mg base (L2.CX P w) 4 fR fdR ["self", "at"] (spWMv WC NS)) : FnOk P w K mg base CX0 5 f fd ["_law_paper", "_law_low", "_law_high"] (spBtw PC WC) := by
  refine D.F.ok sc_law_between (fun vs H Q E h => ?_) (fun cdv A outer s H vs Q E hr h => ?_)
  · obtain ⟨_, _, _, _, _, _, _, _, _, _, _, _, rfl, _⟩ := h
    rfl
  · obtain ⟨o, lo, hi, a, b, ps, s1, s2, rows1, rows2, rs1, rs2, rfl, hP, hW1, hW2, ha, hrs1, hb, hrs2, hs1, hs2, l1, l2, hg1, hg2, q⟩ := h
    refine ⟨_, (pss_cons (ps_if (PW.pt (pw_or (pt_cmpR op_ne (pe_callB (id := "len") (call_lenO LN_Web G_Web_len b_Web_len (hr.mono (by decide)) pass0) (by rfl) T.b_len PySem.boot_len (pa_cons (pe_fld (pv 0) rfl) pa_nil)) (pe_callB (id := "len") (r := Evl.rLenS K) call_len_seq (by rfl) T.b_len PySem.boot_len (pa_cons (pv 1) pa_nil)) (nomark _)) (pw_or1 (pt_cmpR op_ne (pe_callB (id := "len") (call_lenO LN_Web G_Web_len b_Web_len (hr.mono (by decide)) pass0) (by rfl) T.b_len PySem.boot_len (pa_cons (pe_fld (pv 0) rfl) pa_nil)) (pe_callB (id := "len") (r := Evl.rLenS K) call_len_seq (by rfl) T.b_len PySem.boot_len (pa_cons (pv 2) pa_nil)) (nomark _))))) (pss_one (ps_ret pe_bl)) pss_nil)
      (pss_cons (ps_for PassesOwn.never rfl (pi_range1 rfl T.b_range (pa_cons (pe_callB (id := "len") (r := Evl.rLenS K) call_len_seq (by rfl) T.b_len PySem.boot_len (pa_cons (pv 1) pa_nil)) pa_nil)) (pg_name (i := 3) sc_law_between.nd rfl (Or.inl rfl)) (pss_one (ps_if (pt_not (pt_val (pe_call G_law_same (hr.mono (by decide)) rfl D_law_same.g D_law_same.F.kp D_law_same.b .nil pass0 (pa_cons (pe_meth (pe_fld (pv 0) rfl) C.cl ME_Web_moves G_Web_moves (hr.mono (by decide)) bM_Web_moves .nil passL (pa_cons (pv 3) pa_nil)) (pa_cons (pe_callB (id := "sorted") (r := rSortedM K) (cr_sortedM (hu6 hr)) (by rfl) T.b_sorted (by decide +kernel) (pa_cons (pe_ix (r := rIxL K) ix_list (pv 1) (pv 3) (fun _ _ => rfl)) pa_nil)) pa_nil))))) (pss_one (ps_ret pe_bl)) pss_nil)))
      (pss_cons (ps_for PassesOwn.never rfl (pi_range1 rfl T.b_range (pa_cons (pe_callB (id := "len") (r := Evl.rLenS K) call_len_seq (by rfl) T.b_len PySem.boot_len (pa_cons (pv 2) pa_nil)) pa_nil)) (pg_name (i := 3) sc_law_between.nd rfl (Or.inl rfl)) (pss_one (ps_if (pt_not (pt_val (pe_call G_law_same (hr.mono (by decide)) rfl D_law_same.g D_law_same.F.kp D_law_same.b .nil pass0 (pa_cons (pe_meth (pe_fld (pv 0) rfl) C.cl ME_Web_moves G_Web_moves (hr.mono (by decide)) bM_Web_moves .nil passL (pa_cons (pv 3) pa_nil)) (pa_cons (pe_callB (id := "sorted") (r := rSortedM K) (cr_sortedM (hu6 hr)) (by rfl) T.b_sorted (by decide +kernel) (pa_cons (pe_ix (r := rIxL K) ix_list (pv 2) (pv 3) (fun _ _ => rfl)) pa_nil)) pa_nil))))) (pss_one (ps_ret pe_bl)) pss_nil)))
      (pss_one (ps_ret pe_bl))))), ?_⟩
    try simp (maxSteps := 1000000) only [tSeq, tIfS, tTest, tOp, tUn, tCB, tCons, tNil, tVar, tC, rI0, rI, rU, rEq, rNe, tRet, tRetN, tAsg, gName, gSub, tBM, tBM0, tNext, tB, tNot, tAnd, tOr, tIf, tCall, tDrop, tBreak, tCont, L2.start, tDGet, sDPut, tTup, tLst, tDNewK, tRevL, rCat, rAppend, rPop, rSetL, tAndV, tOrV, tNotV, tSl, tPart, tNoPart, tM1, gTup, gCons, gNil, cxK, cxnK, List.map_cons, List.map_nil, List.length_cons, List.length_nil, List.replicate, List.cons_append, List.nil_append, List.append_nil, List.set_cons_zero, List.set_cons_succ, List.getElem?_cons_zero, List.getElem?_cons_succ, Option.some.injEq, V.ref.injEq, V.int.injEq, V.str.injEq, V.bl.injEq, V.ty.injEq, exists_eq_left', exists_eq_left, exists_and_left, List.cons.injEq, and_true, true_and, sc_ii, sc_ss, sc_bb, sc_ni, sc_in, sc_is, sc_si, sc_nn, decide_true, decide_false, reduceCtorEq, Bool.false_eq_true, if_true, if_false, ite_true, ite_false, exists_const, eq_self, false_and, and_false, or_false, false_or, exists_false, Evl.rLenS, rSum, wipe, tYes, exists_eq, exists_eq', rIxL, rIxT, rIxS, exists_and_right, gt_iff_lt, not_true_eq_false, not_false_eq_true, Bool.not_true, Bool.not_false, decide_eq_true_eq, Nat.reduceSub, Nat.reduceAdd, List.append_assoc, tChain, tDIn, tDNotIn, sDDel, tAug, ipI, rInt1_int, rInt1_bl, rLenO, tFld]
    obtain ⟨dx, la, da, usa, hoP, hla, husa, hda, srta⟩ := id hP
    obtain ⟨dx1, _, _, _, _, _, _, ho1, _⟩ := id hW1
    obtain ⟨dx2, _, _, _, _, _, _, ho2, _⟩ := id hW2
    have ls1 : s1.length = rows1.length := hs1.len
    have ls2 : s2.length = rows2.length := hs2.len
    have lr1 : rs1.length = rows1.length := hrs1.len
    have lr2 : rs2.length = rows2.length := hrs2.len
    refine ⟨PC, dx, _, hoP, PP.cl, PP.n1, .ref lo, rfl, lo, rfl, ⟨dx1, _, ho1⟩, lo, s1, rfl, hW1, s1.length, rfl, by rw [sizeLine_eq]; omega, _, .inl (sq_l ha), ?_⟩
    rw [if_neg (by rw [ls1, lr1]; simp)]
    refine ⟨PC, dx, _, hoP, PP.cl, PP.n2, .ref hi, rfl, hi, rfl, ⟨dx2, _, ho2⟩, hi, s2, rfl, hW2, s2.length, rfl, by rw [sizeLine_eq]; omega, _, .inl (sq_l hb), ?_⟩
    rw [if_neg (by rw [ls2, lr2]; simp)]
    refine forN rows1.length (by omega) (fun j σ G => ∃ c3 : Option V, σ = [some (.ref o), some (.ref a), some (.ref b), c3] ∧ Kp [] H G) (fun R r => ?_) ⟨none, rfl, Kp.refl _ _⟩ (fun j σ G hj h => ?_) fun σ G h => ?_
    · try simp (maxSteps := 1000000) only [tSeq, tIfS, tTest, tOp, tUn, tCB, tCons, tNil, tVar, tC, rI0, rI, rU, rEq, rNe, tRet, tRetN, tAsg, gName, gSub, tBM, tBM0, tNext, tB, tNot, tAnd, tOr, tIf, tCall, tDrop, tBreak, tCont, L2.start, tDGet, sDPut, tTup, tLst, tDNewK, tRevL, rCat, rAppend, rPop, rSetL, tAndV, tOrV, tNotV, tSl, tPart, tNoPart, tM1, gTup, gCons, gNil, cxK, cxnK, List.map_cons, List.map_nil, List.length_cons, List.length_nil, List.replicate, List.cons_append, List.nil_append, List.append_nil, List.set_cons_zero, List.set_cons_succ, List.getElem?_cons_zero, List.getElem?_cons_succ, Option.some.injEq, V.ref.injEq, V.int.injEq, V.str.injEq, V.bl.injEq, V.ty.injEq, exists_eq_left', exists_eq_left, exists_and_left, List.cons.injEq, and_true, true_and, sc_ii, sc_ss, sc_bb, sc_ni, sc_in, sc_is, sc_si, sc_nn, decide_true, decide_false, reduceCtorEq, Bool.false_eq_true, if_true, if_false, ite_true, ite_false, exists_const, eq_self, false_and, and_false, or_false, false_or, exists_false, Evl.rLenS, rSum, wipe, tYes, exists_eq, exists_eq', rIxL, rIxT, rIxS, exists_and_right, gt_iff_lt, not_true_eq_false, not_false_eq_true, Bool.not_true, Bool.not_false, decide_eq_true_eq, Nat.reduceSub, Nat.reduceAdd, List.append_assoc, tChain, tDIn, tDNotIn, sDDel, tAug, ipI, rInt1_int, rInt1_bl]
      exact ⟨_, .inl (sq_l ha), by rw [lr1]; exact r⟩
    · obtain ⟨c3, rfl, k⟩ := h
      have er : rows1[j]? = some rows1[j] := List.getElem?_eq_getElem hj
      have gr := hg1 _ (List.getElem_mem hj)
      generalize rows1[j] = r at er gr
      obtain ⟨s, es, hs⟩ := hs1.at_ er
      obtain ⟨v, ev, hv⟩ := hrs1.at er
      try simp (maxSteps := 1000000) only [tSeq, tIfS, tTest, tOp, tUn, tCB, tCons, tNil, tVar, tC, rI0, rI, rU, rEq, rNe, tRet, tRetN, tAsg, gName, gSub, tBM, tBM0, tNext, tB, tNot, tAnd, tOr, tIf, tCall, tDrop, tBreak, tCont, L2.start, tDGet, sDPut, tTup, tLst, tDNewK, tRevL, rCat, rAppend, rPop, rSetL, tAndV, tOrV, tNotV, tSl, tPart, tNoPart, tM1, gTup, gCons, gNil, cxK, cxnK, List.map_cons, List.map_nil, List.length_cons, List.length_nil, List.replicate, List.cons_append, List.nil_append, List.append_nil, List.set_cons_zero, List.set_cons_succ, List.getElem?_cons_zero, List.getElem?_cons_succ, Option.some.injEq, V.ref.injEq, V.int.injEq, V.str.injEq, V.bl.injEq, V.ty.injEq, exists_eq_left', exists_eq_left, exists_and_left, List.cons.injEq, and_true, true_and, sc_ii, sc_ss, sc_bb, sc_ni, sc_in, sc_is, sc_si, sc_nn, decide_true, decide_false, reduceCtorEq, Bool.false_eq_true, if_true, if_false, ite_true, ite_false, exists_const, eq_self, false_and, and_false, or_false, false_or, exists_false, Evl.rLenS, rSum, wipe, tYes, exists_eq, exists_eq', rIxL, rIxT, rIxS, exists_and_right, gt_iff_lt, not_true_eq_false, not_false_eq_true, Bool.not_true, Bool.not_false, decide_eq_true_eq, Nat.reduceSub, Nat.reduceAdd, List.append_assoc, tChain, tDIn, tDNotIn, sDDel, tAug, ipI, rInt1_int, rInt1_bl, tMeth, tFld]
      refine ⟨PC, dx, _, k _ _ not0 hoP, PP.cl, PP.n1, .ref lo, rfl, lo, rfl, dx1, _, k _ _ not0 ho1, rfl, lo, .int (j : Nat), .int (j : Nat), s1, rfl, hW1.kp k, .int _, fun k' ms e ems l us G1 nl hl hms k1 => ?_, fun hb => ?_⟩
      · have e : ((j : Nat) : Int) = ((k' : Nat) : Int) := V.int.inj e
        obtain rfl : j = k' := by omega
        rw [es] at ems
        cases ems
        try simp (maxSteps := 1000000) only [tSeq, tIfS, tTest, tOp, tUn, tCB, tCons, tNil, tVar, tC, rI0, rI, rU, rEq, rNe, tRet, tRetN, tAsg, gName, gSub, tBM, tBM0, tNext, tB, tNot, tAnd, tOr, tIf, tCall, tDrop, tBreak, tCont, L2.start, tDGet, sDPut, tTup, tLst, tDNewK, tRevL, rCat, rAppend, rPop, rSetL, tAndV, tOrV, tNotV, tSl, tPart, tNoPart, tM1, gTup, gCons, gNil, cxK, cxnK, List.map_cons, List.map_nil, List.length_cons, List.length_nil, List.replicate, List.cons_append, List.nil_append, List.append_nil, List.set_cons_zero, List.set_cons_succ, List.getElem?_cons_zero, List.getElem?_cons_succ, Option.some.injEq, V.ref.injEq, V.int.injEq, V.str.injEq, V.bl.injEq, V.ty.injEq, exists_eq_left', exists_eq_left, exists_and_left, List.cons.injEq, and_true, true_and, sc_ii, sc_ss, sc_bb, sc_ni, sc_in, sc_is, sc_si, sc_nn, decide_true, decide_false, reduceCtorEq, Bool.false_eq_true, if_true, if_false, ite_true, ite_false, exists_const, eq_self, false_and, and_false, or_false, false_or, exists_false, Evl.rLenS, rSum, wipe, tYes, exists_eq, exists_eq', rIxL, rIxT, rIxS, exists_and_right, gt_iff_lt, not_true_eq_false, not_false_eq_true, Bool.not_true, Bool.not_false, decide_eq_true_eq, Nat.reduceSub, Nat.reduceAdd, List.append_assoc, tChain, tDIn, tDNotIn, sDDel, tAug, ipI, rInt1_int, rInt1_bl]
        have kk := k.trans k1
        obtain ⟨ra, rus, rfl, hra, hrm⟩ := hv.kd kk.kd
        refine ⟨_, sq_l (kk _ _ not0 ha), _, atI_nat ev, ?_⟩
        have hx : ∀ x ∈ rus, ∃ m ∈ r, TM G1 x m := fun x hx => by
          obtain ⟨i, ei⟩ := List.getElem?_of_mem hx
          obtain ⟨m, em, hm⟩ := hrm.get ei
          exact ⟨m, List.mem_of_getElem? em, hm⟩
        refine ⟨ra, rus, kOf G1, rfl, sq_l hra, fun x hh => ?_, fun x hh y hy => ?_, fun ys p srt perm np => ?_⟩
        · obtain ⟨m, mm, hm⟩ := hx x hh
          rw [kOf_eq hm]
          exact ⟨hm.dp, MvOk.of (gr.deed m mm) (gr.goal m mm)⟩
        · obtain ⟨m, mm, hm⟩ := hx x hh
          obtain ⟨m', mm', hm'⟩ := hx y hy
          rw [kOf_eq hm, kOf_eq hm']
          exact MvCmp.of (gr.deed m mm) (gr.deed m' mm')
        · have kp := (Kp.new np : Kp [] G1 (upd G1 p (.lst ys)))
          have hs2 : SrM r (ys.map (kOf G1)) := ⟨by
            have := perm.map (kOf G1)
            rw [kOf_map hrm] at this
            exact this, List.pairwise_map.mpr srt⟩
          have e2 := srt_uniq gr hs hs2
          have hR := kOf_rw hrm perm
          rw [← e2] at hR
          have hl2 := kp _ _ not0 hl
          have ll : s.length ≤ 1000 := by rw [hs.1.length_eq]; have := gr.len; omega
          refine ⟨_, _, rfl, RwAt.same (ms := s) ⟨l, us, rfl, hl2, rwTM hms kp.tps⟩ ⟨p, ys, rfl, upd_same, rwTM hR kp.tps⟩ ll, true, rfl, ?_⟩
          rw [if_neg (by decide)]
          exact kk.trans kp
      · rw [show belowD (s1.length : Nat) (.int (j : Nat)) = true from below_iff.mpr ⟨_, rfl, by omega, by omega⟩] at hb
        cases hb
    obtain ⟨c3, rfl, k⟩ := h
    try simp (maxSteps := 1000000) only [tSeq, tIfS, tTest, tOp, tUn, tCB, tCons, tNil, tVar, tC, rI0, rI, rU, rEq, rNe, tRet, tRetN, tAsg, gName, gSub, tBM, tBM0, tNext, tB, tNot, tAnd, tOr, tIf, tCall, tDrop, tBreak, tCont, L2.start, tDGet, sDPut, tTup, tLst, tDNewK, tRevL, rCat, rAppend, rPop, rSetL, tAndV, tOrV, tNotV, tSl, tPart, tNoPart, tM1, gTup, gCons, gNil, cxK, cxnK, List.map_cons, List.map_nil, List.length_cons, List.length_nil, List.replicate, List.cons_append, List.nil_append, List.append_nil, List.set_cons_zero, List.set_cons_succ, List.getElem?_cons_zero, List.getElem?_cons_succ, Option.some.injEq, V.ref.injEq, V.int.injEq, V.str.injEq, V.bl.injEq, V.ty.injEq, exists_eq_left', exists_eq_left, exists_and_left, List.cons.injEq, and_true, true_and, sc_ii, sc_ss, sc_bb, sc_ni, sc_in, sc_is, sc_si, sc_nn, decide_true, decide_false, reduceCtorEq, Bool.false_eq_true, if_true, if_false, ite_true, ite_false, exists_const, eq_self, false_and, and_false, or_false, false_or, exists_false, Evl.rLenS, rSum, wipe, tYes, exists_eq, exists_eq', rIxL, rIxT, rIxS, exists_and_right, gt_iff_lt, not_true_eq_false, not_false_eq_true, Bool.not_true, Bool.not_false, decide_eq_true_eq, Nat.reduceSub, Nat.reduceAdd, List.append_assoc, tChain, tDIn, tDNotIn, sDDel, tAug, ipI, rInt1_int, rInt1_bl]
    refine forN rows2.length (by omega) (fun j σ G => ∃ c3 : Option V, σ = [some (.ref o), some (.ref a), some (.ref b), c3] ∧ Kp [] H G) (fun R r => ?_) ⟨_, rfl, k⟩ (fun j σ G hj h => ?_) fun σ G h => ?_
    · try simp (maxSteps := 1000000) only [tSeq, tIfS, tTest, tOp, tUn, tCB, tCons, tNil, tVar, tC, rI0, rI, rU, rEq, rNe, tRet, tRetN, tAsg, gName, gSub, tBM, tBM0, tNext, tB, tNot, tAnd, tOr, tIf, tCall, tDrop, tBreak, tCont, L2.start, tDGet, sDPut, tTup, tLst, tDNewK, tRevL, rCat, rAppend, rPop, rSetL, tAndV, tOrV, tNotV, tSl, tPart, tNoPart, tM1, gTup, gCons, gNil, cxK, cxnK, List.map_cons, List.map_nil, List.length_cons, List.length_nil, List.replicate, List.cons_append, List.nil_append, List.append_nil, List.set_cons_zero, List.set_cons_succ, List.getElem?_cons_zero, List.getElem?_cons_succ, Option.some.injEq, V.ref.injEq, V.int.injEq, V.str.injEq, V.bl.injEq, V.ty.injEq, exists_eq_left', exists_eq_left, exists_and_left, List.cons.injEq, and_true, true_and, sc_ii, sc_ss, sc_bb, sc_ni, sc_in, sc_is, sc_si, sc_nn, decide_true, decide_false, reduceCtorEq, Bool.false_eq_true, if_true, if_false, ite_true, ite_false, exists_const, eq_self, false_and, and_false, or_false, false_or, exists_false, Evl.rLenS, rSum, wipe, tYes, exists_eq, exists_eq', rIxL, rIxT, rIxS, exists_and_right, gt_iff_lt, not_true_eq_false, not_false_eq_true, Bool.not_true, Bool.not_false, decide_eq_true_eq, Nat.reduceSub, Nat.reduceAdd, List.append_assoc, tChain, tDIn, tDNotIn, sDDel, tAug, ipI, rInt1_int, rInt1_bl]
      exact ⟨_, .inl (sq_l (k _ _ not0 hb)), by rw [lr2]; exact r⟩
    · obtain ⟨c3, rfl, k⟩ := h
      have er : rows2[j]? = some rows2[j] := List.getElem?_eq_getElem hj
      have gr := hg2 _ (List.getElem_mem hj)
      generalize rows2[j] = r at er gr
      obtain ⟨s, es, hs⟩ := hs2.at_ er
      obtain ⟨v, ev, hv⟩ := hrs2.at er
      try simp (maxSteps := 1000000) only [tSeq, tIfS, tTest, tOp, tUn, tCB, tCons, tNil, tVar, tC, rI0, rI, rU, rEq, rNe, tRet, tRetN, tAsg, gName, gSub, tBM, tBM0, tNext, tB, tNot, tAnd, tOr, tIf, tCall, tDrop, tBreak, tCont, L2.start, tDGet, sDPut, tTup, tLst, tDNewK, tRevL, rCat, rAppend, rPop, rSetL, tAndV, tOrV, tNotV, tSl, tPart, tNoPart, tM1, gTup, gCons, gNil, cxK, cxnK, List.map_cons, List.map_nil, List.length_cons, List.length_nil, List.replicate, List.cons_append, List.nil_append, List.append_nil, List.set_cons_zero, List.set_cons_succ, List.getElem?_cons_zero, List.getElem?_cons_succ, Option.some.injEq, V.ref.injEq, V.int.injEq, V.str.injEq, V.bl.injEq, V.ty.injEq, exists_eq_left', exists_eq_left, exists_and_left, List.cons.injEq, and_true, true_and, sc_ii, sc_ss, sc_bb, sc_ni, sc_in, sc_is, sc_si, sc_nn, decide_true, decide_false, reduceCtorEq, Bool.false_eq_true, if_true, if_false, ite_true, ite_false, exists_const, eq_self, false_and, and_false, or_false, false_or, exists_false, Evl.rLenS, rSum, wipe, tYes, exists_eq, exists_eq', rIxL, rIxT, rIxS, exists_and_right, gt_iff_lt, not_true_eq_false, not_false_eq_true, Bool.not_true, Bool.not_false, decide_eq_true_eq, Nat.reduceSub, Nat.reduceAdd, List.append_assoc, tChain, tDIn, tDNotIn, sDDel, tAug, ipI, rInt1_int, rInt1_bl, tMeth, tFld]
      refine ⟨PC, dx, _, k _ _ not0 hoP, PP.cl, PP.n2, .ref hi, rfl, hi, rfl, dx2, _, k _ _ not0 ho2, rfl, hi, .int (j : Nat), .int (j : Nat), s2, rfl, hW2.kp k, .int _, fun k' ms e ems l us G1 nl hl hms k1 => ?_, fun hb => ?_⟩
      · have e : ((j : Nat) : Int) = ((k' : Nat) : Int) := V.int.inj e
        obtain rfl : j = k' := by omega
        rw [es] at ems
        cases ems
        try simp (maxSteps := 1000000) only [tSeq, tIfS, tTest, tOp, tUn, tCB, tCons, tNil, tVar, tC, rI0, rI, rU, rEq, rNe, tRet, tRetN, tAsg, gName, gSub, tBM, tBM0, tNext, tB, tNot, tAnd, tOr, tIf, tCall, tDrop, tBreak, tCont, L2.start, tDGet, sDPut, tTup, tLst, tDNewK, tRevL, rCat, rAppend, rPop, rSetL, tAndV, tOrV, tNotV, tSl, tPart, tNoPart, tM1, gTup, gCons, gNil, cxK, cxnK, List.map_cons, List.map_nil, List.length_cons, List.length_nil, List.replicate, List.cons_append, List.nil_append, List.append_nil, List.set_cons_zero, List.set_cons_succ, List.getElem?_cons_zero, List.getElem?_cons_succ, Option.some.injEq, V.ref.injEq, V.int.injEq, V.str.injEq, V.bl.injEq, V.ty.injEq, exists_eq_left', exists_eq_left, exists_and_left, List.cons.injEq, and_true, true_and, sc_ii, sc_ss, sc_bb, sc_ni, sc_in, sc_is, sc_si, sc_nn, decide_true, decide_false, reduceCtorEq, Bool.false_eq_true, if_true, if_false, ite_true, ite_false, exists_const, eq_self, false_and, and_false, or_false, false_or, exists_false, Evl.rLenS, rSum, wipe, tYes, exists_eq, exists_eq', rIxL, rIxT, rIxS, exists_and_right, gt_iff_lt, not_true_eq_false, not_false_eq_true, Bool.not_true, Bool.not_false, decide_eq_true_eq, Nat.reduceSub, Nat.reduceAdd, List.append_assoc, tChain, tDIn, tDNotIn, sDDel, tAug, ipI, rInt1_int, rInt1_bl]
        have kk := k.trans k1
        obtain ⟨ra, rus, rfl, hra, hrm⟩ := hv.kd kk.kd
        refine ⟨_, sq_l (kk _ _ not0 hb), _, atI_nat ev, ?_⟩
        have hx : ∀ x ∈ rus, ∃ m ∈ r, TM G1 x m := fun x hx => by
          obtain ⟨i, ei⟩ := List.getElem?_of_mem hx
          obtain ⟨m, em, hm⟩ := hrm.get ei
          exact ⟨m, List.mem_of_getElem? em, hm⟩
        refine ⟨ra, rus, kOf G1, rfl, sq_l hra, fun x hh => ?_, fun x hh y hy => ?_, fun ys p srt perm np => ?_⟩
        · obtain ⟨m, mm, hm⟩ := hx x hh
          rw [kOf_eq hm]
          exact ⟨hm.dp, MvOk.of (gr.deed m mm) (gr.goal m mm)⟩
        · obtain ⟨m, mm, hm⟩ := hx x hh
          obtain ⟨m', mm', hm'⟩ := hx y hy
          rw [kOf_eq hm, kOf_eq hm']
          exact MvCmp.of (gr.deed m mm) (gr.deed m' mm')
        · have kp := (Kp.new np : Kp [] G1 (upd G1 p (.lst ys)))
          have hs2 : SrM r (ys.map (kOf G1)) := ⟨by
            have := perm.map (kOf G1)
            rw [kOf_map hrm] at this
            exact this, List.pairwise_map.mpr srt⟩
          have e2 := srt_uniq gr hs hs2
          have hR := kOf_rw hrm perm
          rw [← e2] at hR
          have hl2 := kp _ _ not0 hl
          have ll : s.length ≤ 1000 := by rw [hs.1.length_eq]; have := gr.len; omega
          refine ⟨_, _, rfl, RwAt.same (ms := s) ⟨l, us, rfl, hl2, rwTM hms kp.tps⟩ ⟨p, ys, rfl, upd_same, rwTM hR kp.tps⟩ ll, true, rfl, ?_⟩
          rw [if_neg (by decide)]
          exact kk.trans kp
      · rw [show belowD (s2.length : Nat) (.int (j : Nat)) = true from below_iff.mpr ⟨_, rfl, by omega, by omega⟩] at hb
        cases hb
    obtain ⟨c3, rfl, k⟩ := h
    try simp (maxSteps := 1000000) only [tSeq, tIfS, tTest, tOp, tUn, tCB, tCons, tNil, tVar, tC, rI0, rI, rU, rEq, rNe, tRet, tRetN, tAsg, gName, gSub, tBM, tBM0, tNext, tB, tNot, tAnd, tOr, tIf, tCall, tDrop, tBreak, tCont, L2.start, tDGet, sDPut, tTup, tLst, tDNewK, tRevL, rCat, rAppend, rPop, rSetL, tAndV, tOrV, tNotV, tSl, tPart, tNoPart, tM1, gTup, gCons, gNil, cxK, cxnK, List.map_cons, List.map_nil, List.length_cons, List.length_nil, List.replicate, List.cons_append, List.nil_append, List.append_nil, List.set_cons_zero, List.set_cons_succ, List.getElem?_cons_zero, List.getElem?_cons_succ, Option.some.injEq, V.ref.injEq, V.int.injEq, V.str.injEq, V.bl.injEq, V.ty.injEq, exists_eq_left', exists_eq_left, exists_and_left, List.cons.injEq, and_true, true_and, sc_ii, sc_ss, sc_bb, sc_ni, sc_in, sc_is, sc_si, sc_nn, decide_true, decide_false, reduceCtorEq, Bool.false_eq_true, if_true, if_false, ite_true, ite_false, exists_const, eq_self, false_and, and_false, or_false, false_or, exists_false, Evl.rLenS, rSum, wipe, tYes, exists_eq, exists_eq', rIxL, rIxT, rIxS, exists_and_right, gt_iff_lt, not_true_eq_false, not_false_eq_true, Bool.not_true, Bool.not_false, decide_eq_true_eq, Nat.reduceSub, Nat.reduceAdd, List.append_assoc, tChain, tDIn, tDNotIn, sDDel, tAug, ipI, rInt1_int, rInt1_bl]
    exact q _ k
end
end My

set_option Elab.async false
set_option linter.all false
set_option maxRecDepth 100000
set_option maxHeartbeats 4000000
namespace My
open PySem L2 NdefX

abbrev s_law_apart : Stmt := top 33
theorem sc_law_apart : FnScope ["_law_first", "_law_second", "_law_told", "e"] ["_law_first", "_law_second"] (defScope s_law_apart) := ⟨rfl, rfl, rfl, by decide +kernel, rfl, by decide +kernel, by decide +kernel⟩
abbrev s_law_refused : Stmt := top 34
theorem sc_law_refused : FnScope ["_law_low", "_law_high", "_law_pairs", "_law_at", "e"] ["_law_low", "_law_high", "_law_pairs", "_law_at"] (defScope s_law_refused) := ⟨rfl, rfl, rfl, by decide +kernel, rfl, by decide +kernel, by decide +kernel⟩
structure BtA (K : PySem.W.Frag) (mg : Str → Option Value) (CE NS OW : Addr) : Prop where
  b_isinstance : mg "isinstance" = none
  b_ValueError : mg "ValueError" = none
  k_NoStanding : mg "NoStanding" = some (.ref NS)
  k_CoreError : mg "CoreError" = some (.ref CE)
  k_OtherWeb : mg "OtherWeb" = some (.ref OW)
  XFN : XfC K NS
  NON : PySem.W.findIn K (.ref NS) "at" = some none
  EXN : PySem.W.exmOne K (.ref NS) (.ref NS) = some true
  kcN : KitC K NS
  n1 : PySem.W.kitOne K (.ref NS) (.ref CE) = some true
  n2 : PySem.W.kitOne K (.ref NS) (.type "ValueError") = some true
  n3 : PySem.W.kitOne K (.ref NS) (.ref OW) = some false
  EXO : PySem.W.exmOne K (.ref OW) (.ref OW) = some true
  kcO : ExcC K OW
  o1 : PySem.W.kitOne K (.ref OW) (.ref CE) = some true
  o2 : PySem.W.kitOne K (.ref OW) (.type "ValueError") = some true
  o3 : PySem.W.kitOne K (.ref OW) (.ref NS) = some false
section
variable {P : Program} {w : World} {K : PySem.W.Frag} {mg : Str → Option Value} {base : Heap} {t1 : Tok} {WC NS PC OW CE : Addr}
def spApart (PC WC : Addr) : Sp := fun vs H Q _ => ∃ (o1 o2 lo1 hi1 lo2 hi2 : Addr) (s1 t1 s2 t2 : List (List Mv)) (ps qs : List Pr), vs = [.ref o1, .ref o2] ∧ PapAt PC H o1 lo1 hi1 ps ∧ PapAt PC H o2 lo2 hi2 qs ∧ WebAt WC H lo1 s1 ∧ WebAt WC H hi1 t1 ∧ WebAt WC H lo2 s2 ∧ WebAt WC H hi2 t2 ∧ (∀ r ∈ s1 ++ t1 ++ s2 ++ t2, ∀ m ∈ r, GoodDd m.1) ∧ s1.length ≤ 60 ∧ t1.length ≤ 60 ∧ ps.length + qs.length ≤ 60 ∧ ¬ (s1 = s2 ∧ t1 = t2) ∧ ∀ H', Kp [] H H' → Q (.bl true) H'
theorem ok_law_apart {f : Addr} {fd : FuncData} (D : Df K mg "_law_apart" s_law_apart ["_law_first", "_law_second"] f fd) (T : BtA K mg CE NS OW) {fo : Addr} {fdo : FuncData} (BC_Paper_or : BinC K PC fo .BitOr) (b_Paper_or : Binds K fdo ["self", "other"] []) (G_Paper_or : FnOk P w K mg base (L2.CX P w) 6 fo fdo ["self", "other"] (spPOr PC WC OW)) : FnOk P w K mg base CX0 8 f fd ["_law_first", "_law_second"] (spApart PC WC) := by
  refine D.F.ok sc_law_apart (fun vs H Q E h => ?_) (fun cdv A outer s H vs Q E hr h => ?_)
  · obtain ⟨_, _, _, _, _, _, _, _, _, _, _, _, rfl, _⟩ := h
    rfl
  · obtain ⟨o1, o2, lo1, hi1, lo2, hi2, s1, t1, s2, t2, ps, qs, rfl, hP1, hP2, hL1, hH1, hL2, hH2, hg, l1, l2, l3, hne, q⟩ := h
    refine ⟨_, (pss_cons (ps_try_as (i := 3) rfl rfl sc_law_apart.nd rfl rfl ⟨rfl, by decide, .inl T.k_OtherWeb⟩ takes0 (fun W pn xe tk _ => (pss_one (ps_set (i := 2) sc_law_apart.nd rfl (Or.inl rfl) (pe_opS BC_Paper_or G_Paper_or b_Paper_or (hr.mono (by decide)) (fun σ => passAt tk σ) (pv 0) (pv 1))))) (fun a oe cls d pn hz hf => (pss_one (ps_ret (pe_and (pe_callB (id := "isinstance") (r := rIsX0 K a cls d) (call_isX0 hz hf) (by rfl) T.b_isinstance (by decide +kernel) (pa_cons (pv 3) (pa_cons (pe_glob (v := .ref CE) rfl T.k_CoreError rfl) pa_nil))) (pe_and (pe_callB (id := "isinstance") (r := rIsX0 K a cls d) (call_isX0 hz hf) (by rfl) T.b_isinstance (by decide +kernel) (pa_cons (pv 3) (pa_cons (pe_bltn (v := .ty "ValueError") (by rfl) T.b_ValueError (by decide +kernel) rfl) pa_nil))) (pe_one (pe_not (pe_callB (id := "isinstance") (r := rIsX0 K a cls d) (call_isX0 hz hf) (by rfl) T.b_isinstance (by decide +kernel) (pa_cons (pv 3) (pa_cons (pe_glob (v := .ref NS) rfl T.k_NoStanding rfl) pa_nil)))))))))))
      (pss_one (ps_ret pe_bl))), ?_⟩
    try simp (maxSteps := 1000000) only [tSeq, tIfS, tTest, tOp, tUn, tCB, tCons, tNil, tVar, tC, rI0, rI, rU, rEq, rNe, tRet, tRetN, tAsg, gName, gSub, tBM, tBM0, tNext, tB, tNot, tAnd, tOr, tIf, tCall, tDrop, tBreak, tCont, L2.start, tDGet, sDPut, tTup, tLst, tDNewK, tRevL, rCat, rAppend, rPop, rSetL, tAndV, tOrV, tNotV, tSl, tPart, tNoPart, tM1, gTup, gCons, gNil, cxK, cxnK, List.map_cons, List.map_nil, List.length_cons, List.length_nil, List.replicate, List.cons_append, List.nil_append, List.append_nil, List.set_cons_zero, List.set_cons_succ, List.getElem?_cons_zero, List.getElem?_cons_succ, Option.some.injEq, V.ref.injEq, V.int.injEq, V.str.injEq, V.bl.injEq, V.ty.injEq, exists_eq_left', exists_eq_left, exists_and_left, List.cons.injEq, and_true, true_and, sc_ii, sc_ss, sc_bb, sc_ni, sc_in, sc_is, sc_si, sc_nn, decide_true, decide_false, reduceCtorEq, Bool.false_eq_true, if_true, if_false, ite_true, ite_false, exists_const, eq_self, false_and, and_false, or_false, false_or, exists_false, Evl.rLenS, rSum, wipe, tYes, exists_eq, exists_eq', rIxL, rIxT, rIxS, exists_and_right, gt_iff_lt, not_true_eq_false, not_false_eq_true, Bool.not_true, Bool.not_false, decide_eq_true_eq, Nat.reduceSub, Nat.reduceAdd, List.append_assoc, tChain, tDIn, tDNotIn, sDDel, tAug, ipI, rInt1_int, rInt1_bl, tOpS]
    obtain ⟨dxa, la, da, usa, hoa, _⟩ := id hP1
    obtain ⟨dxb, lb, db, usb, hob, _⟩ := id hP2
    refine ⟨o1, dxa, _, o2, dxb, _, rfl, rfl, hoa, hob, o1, o2, lo1, hi1, lo2, hi2, s1, t1, s2, t2, ps, qs, rfl, hP1, hP2, hL1, hH1, hL2, hH2, hg, l1, l2, l3, fun _ _ e1 e2 => absurd ⟨e1, e2⟩ hne, fun e1 e2 => absurd ⟨e1, e2⟩ hne, fun _ H' k => ?_⟩
    refine ⟨true, T.EXO, fun _ y ny => ?_, fun z => by cases z⟩
    try simp (maxSteps := 1000000) only [tSeq, tIfS, tTest, tOp, tUn, tCB, tCons, tNil, tVar, tC, rI0, rI, rU, rEq, rNe, tRet, tRetN, tAsg, gName, gSub, tBM, tBM0, tNext, tB, tNot, tAnd, tOr, tIf, tCall, tDrop, tBreak, tCont, L2.start, tDGet, sDPut, tTup, tLst, tDNewK, tRevL, rCat, rAppend, rPop, rSetL, tAndV, tOrV, tNotV, tSl, tPart, tNoPart, tM1, gTup, gCons, gNil, cxK, cxnK, List.map_cons, List.map_nil, List.length_cons, List.length_nil, List.replicate, List.cons_append, List.nil_append, List.append_nil, List.set_cons_zero, List.set_cons_succ, List.getElem?_cons_zero, List.getElem?_cons_succ, Option.some.injEq, V.ref.injEq, V.int.injEq, V.str.injEq, V.bl.injEq, V.ty.injEq, exists_eq_left', exists_eq_left, exists_and_left, List.cons.injEq, and_true, true_and, sc_ii, sc_ss, sc_bb, sc_ni, sc_in, sc_is, sc_si, sc_nn, decide_true, decide_false, reduceCtorEq, Bool.false_eq_true, if_true, if_false, ite_true, ite_false, exists_const, eq_self, false_and, and_false, or_false, false_or, exists_false, Evl.rLenS, rSum, wipe, tYes, exists_eq, exists_eq', rIxL, rIxT, rIxS, exists_and_right, gt_iff_lt, not_true_eq_false, not_false_eq_true, Bool.not_true, Bool.not_false, decide_eq_true_eq, Nat.reduceSub, Nat.reduceAdd, List.append_assoc, tChain, tDIn, tDNotIn, sDDel, tAug, ipI, rInt1_int, rInt1_bl]
    refine ⟨.ref CE, .ref CE, true, OW, rfl, fun u h => h, rfl, rfl, T.kcO, T.o1, true, rfl, ?_⟩
    try simp (maxSteps := 1000000) only [tSeq, tIfS, tTest, tOp, tUn, tCB, tCons, tNil, tVar, tC, rI0, rI, rU, rEq, rNe, tRet, tRetN, tAsg, gName, gSub, tBM, tBM0, tNext, tB, tNot, tAnd, tOr, tIf, tCall, tDrop, tBreak, tCont, L2.start, tDGet, sDPut, tTup, tLst, tDNewK, tRevL, rCat, rAppend, rPop, rSetL, tAndV, tOrV, tNotV, tSl, tPart, tNoPart, tM1, gTup, gCons, gNil, cxK, cxnK, List.map_cons, List.map_nil, List.length_cons, List.length_nil, List.replicate, List.cons_append, List.nil_append, List.append_nil, List.set_cons_zero, List.set_cons_succ, List.getElem?_cons_zero, List.getElem?_cons_succ, Option.some.injEq, V.ref.injEq, V.int.injEq, V.str.injEq, V.bl.injEq, V.ty.injEq, exists_eq_left', exists_eq_left, exists_and_left, List.cons.injEq, and_true, true_and, sc_ii, sc_ss, sc_bb, sc_ni, sc_in, sc_is, sc_si, sc_nn, decide_true, decide_false, reduceCtorEq, Bool.false_eq_true, if_true, if_false, ite_true, ite_false, exists_const, eq_self, false_and, and_false, or_false, false_or, exists_false, Evl.rLenS, rSum, wipe, tYes, exists_eq, exists_eq', rIxL, rIxT, rIxS, exists_and_right, gt_iff_lt, not_true_eq_false, not_false_eq_true, Bool.not_true, Bool.not_false, decide_eq_true_eq, Nat.reduceSub, Nat.reduceAdd, List.append_assoc, tChain, tDIn, tDNotIn, sDDel, tAug, ipI, rInt1_int, rInt1_bl]
    refine ⟨.ty "ValueError", .type "ValueError", true, OW, rfl, fun u h => h, rfl, rfl, T.kcO, T.o2, true, rfl, ?_⟩
    rw [if_pos rfl]
    exact ⟨.ref NS, .ref NS, false, OW, rfl, fun u h => h, rfl, rfl, T.kcO, T.o3, false, rfl, q _ k⟩
def spRefd (WC NS : Addr) : Sp := fun vs H Q _ => ∃ (lo hi a : Addr) (x : Sc) (us : List V) (s1 s2 : List (List Mv)) (ds : List (Sc × Sc)) (i : Nat) (p : Sc × Sc), vs = [.ref lo, .ref hi, .ref a, scV x] ∧ WebAt WC H lo s1 ∧ WebAt WC H hi s2 ∧ H a = some (.lst us) ∧ Rw (PvAt H) us ds ∧ s1.length ≤ 60 ∧ s2.length ≤ 60 ∧ ds.length ≤ 60 ∧ ds[i]? = some p ∧ okP s1.length s2.length p = false ∧ (∀ j y, j < i → ds[j]? = some y → okP s1.length s2.length y = true) ∧ badP s1.length p = scV x ∧ ∀ H', Kp [] H H' → Q (.bl true) H'
theorem ok_law_refused {f : Addr} {fd : FuncData} (D : Df K mg "_law_refused" s_law_refused ["_law_low", "_law_high", "_law_pairs", "_law_at"] f fd) (T : BtA K mg CE NS OW) (PP : PpC K mg PC)
    {g2 : Addr} {gd2 : FuncData} (D_law_same : Df K mg "_law_same" s_law_same ["_law_told", "_law_due"] g2 gd2) (Z_law_same : FnZ P w K mg base CX0 1 g2 gd2 ["_law_told", "_law_due"] (spSame 0))
    {fI : Addr} {fdI : FuncData} (M_Paper : Mk K PC fI) (bI_Paper : Binds K fdI ["self", "low", "high", "pairs"] []) (G_Paper_init : FnOk P w K mg base (L2.CX P w) 4 fI fdI ["self", "low", "high", "pairs"] (spPapI PC WC NS)) : FnOk P w K mg base CX0 7 f fd ["_law_low", "_law_high", "_law_pairs", "_law_at"] (spRefd WC NS) := by
  refine D.F.ok sc_law_refused (fun vs H Q E h => ?_) (fun cdv A outer s H vs Q E hr h => ?_)
  · obtain ⟨_, _, _, _, _, _, _, _, _, _, rfl, _⟩ := h
    rfl
  · obtain ⟨lo, hi, a, x, us, s1, s2, ds, i, p, rfl, hW1, hW2, ha, hus, l1, l2, l3, ep, hbad, hok, eb, q⟩ := h
    have XF_NoStanding := T.XFN
    have NO_at := T.NON
    refine ⟨_, (pss_cons (ps_try_as (i := 4) rfl rfl sc_law_refused.nd rfl rfl ⟨rfl, by decide, .inl T.k_NoStanding⟩ takes0 (fun W pn xe tk _ => (pss_one (ps_expr (pe_makeS M_Paper G_Paper_init (hr.mono (by decide)) rfl PP.k bI_Paper .nil (fun σ => passAt tk σ) (pa_cons (pv 0) (pa_cons (pv 1) (pa_cons (pv 2) pa_nil))))))) (fun a oe cls d pn hz hf => (pss_cons (ps_if (PW.pt (pw_or (pt_not (pt_val (pe_callB (id := "isinstance") (r := rIsX K a cls d) (call_isX hz hf) (by rfl) T.b_isinstance (by decide +kernel) (pa_cons (pv 4) (pa_cons (pe_glob (v := .ref CE) rfl T.k_CoreError rfl) pa_nil))))) (pw_or (pt_not (pt_val (pe_callB (id := "isinstance") (r := rIsX K a cls d) (call_isX hz hf) (by rfl) T.b_isinstance (by decide +kernel) (pa_cons (pv 4) (pa_cons (pe_bltn (v := .ty "ValueError") (by rfl) T.b_ValueError (by decide +kernel) rfl) pa_nil))))) (pw_or1 (pt_val (pe_callB (id := "isinstance") (r := rIsX K a cls d) (call_isX hz hf) (by rfl) T.b_isinstance (by decide +kernel) (pa_cons (pv 4) (pa_cons (pe_glob (v := .ref OW) rfl T.k_OtherWeb rfl) pa_nil)))))))) (pss_one (ps_ret pe_bl)) pss_nil)
      (pss_one (ps_ret (pe_callZ Z_law_same (roomZ_mark (Room.mono (j := 1) hr (by decide))) rfl D_law_same.g D_law_same.F.kp D_law_same.b (fun σ pins H s e s' I h => pass0 pins σ H s e s' I h) (pa_cons (pe_xf XF_NoStanding NO_at hz hf (pv 4)) (pa_cons (pv 3) pa_nil))))))))
      (pss_one (ps_ret pe_bl))), ?_⟩
    try simp (maxSteps := 1000000) only [tSeq, tIfS, tTest, tOp, tUn, tCB, tCons, tNil, tVar, tC, rI0, rI, rU, rEq, rNe, tRet, tRetN, tAsg, gName, gSub, tBM, tBM0, tNext, tB, tNot, tAnd, tOr, tIf, tCall, tDrop, tBreak, tCont, L2.start, tDGet, sDPut, tTup, tLst, tDNewK, tRevL, rCat, rAppend, rPop, rSetL, tAndV, tOrV, tNotV, tSl, tPart, tNoPart, tM1, gTup, gCons, gNil, cxK, cxnK, List.map_cons, List.map_nil, List.length_cons, List.length_nil, List.replicate, List.cons_append, List.nil_append, List.append_nil, List.set_cons_zero, List.set_cons_succ, List.getElem?_cons_zero, List.getElem?_cons_succ, Option.some.injEq, V.ref.injEq, V.int.injEq, V.str.injEq, V.bl.injEq, V.ty.injEq, exists_eq_left', exists_eq_left, exists_and_left, List.cons.injEq, and_true, true_and, sc_ii, sc_ss, sc_bb, sc_ni, sc_in, sc_is, sc_si, sc_nn, decide_true, decide_false, reduceCtorEq, Bool.false_eq_true, if_true, if_false, ite_true, ite_false, exists_const, eq_self, false_and, and_false, or_false, false_or, exists_false, Evl.rLenS, rSum, wipe, tYes, exists_eq, exists_eq', rIxL, rIxT, rIxS, exists_and_right, gt_iff_lt, not_true_eq_false, not_false_eq_true, Bool.not_true, Bool.not_false, decide_eq_true_eq, Nat.reduceSub, Nat.reduceAdd, List.append_assoc, tChain, tDIn, tDNotIn, sDDel, tAug, ipI, rInt1_int, rInt1_bl, tMakeS]
    intro o dx no nd ne
    have k : Kp [] H (upd (upd H dx (.own o)) o (.ins PC dx [])) := (Kp.new nd).wr no
    refine ⟨o, dx, lo, hi, a, us, s1, s2, ds, rfl, upd_same, hW1.kp k, hW2.kp k, k _ _ not0 ha, hus.mono fun _ _ z => z.tp k.tps, l1, l2, l3, fun gs ps H' eg hin _ _ _ _ => ?_, fun i' p' ep' hb' hok' e H1 ne he k1 => ?_⟩
    · exfalso
      rw [eg, List.getElem?_map] at ep
      obtain ⟨g, eg2, rfl⟩ := Option.map_eq_some_iff.mp ep
      rw [okP_iff.mpr ⟨g, rfl, hin g (List.mem_of_getElem? eg2)⟩] at hbad
      cases hbad
    · have ii : i' = i := by
        rcases Nat.lt_trichotomy i' i with z | z | z
        · rw [hok i' p' z ep'] at hb'; cases hb'
        · exact z
        · rw [hok' i p z ep] at hbad; cases hbad
      subst ii
      rw [ep] at ep'
      cases ep'
      rw [eb] at he
      refine ⟨true, T.EXN, fun _ y ny => ?_, fun z => by cases z⟩
      try simp (maxSteps := 1000000) only [tSeq, tIfS, tTest, tOp, tUn, tCB, tCons, tNil, tVar, tC, rI0, rI, rU, rEq, rNe, tRet, tRetN, tAsg, gName, gSub, tBM, tBM0, tNext, tB, tNot, tAnd, tOr, tIf, tCall, tDrop, tBreak, tCont, L2.start, tDGet, sDPut, tTup, tLst, tDNewK, tRevL, rCat, rAppend, rPop, rSetL, tAndV, tOrV, tNotV, tSl, tPart, tNoPart, tM1, gTup, gCons, gNil, cxK, cxnK, List.map_cons, List.map_nil, List.length_cons, List.length_nil, List.replicate, List.cons_append, List.nil_append, List.append_nil, List.set_cons_zero, List.set_cons_succ, List.getElem?_cons_zero, List.getElem?_cons_succ, Option.some.injEq, V.ref.injEq, V.int.injEq, V.str.injEq, V.bl.injEq, V.ty.injEq, exists_eq_left', exists_eq_left, exists_and_left, List.cons.injEq, and_true, true_and, sc_ii, sc_ss, sc_bb, sc_ni, sc_in, sc_is, sc_si, sc_nn, decide_true, decide_false, reduceCtorEq, Bool.false_eq_true, if_true, if_false, ite_true, ite_false, exists_const, eq_self, false_and, and_false, or_false, false_or, exists_false, Evl.rLenS, rSum, wipe, tYes, exists_eq, exists_eq', rIxL, rIxT, rIxS, exists_and_right, gt_iff_lt, not_true_eq_false, not_false_eq_true, Bool.not_true, Bool.not_false, decide_eq_true_eq, Nat.reduceSub, Nat.reduceAdd, List.append_assoc, tChain, tDIn, tDNotIn, sDDel, tAug, ipI, rInt1_int, rInt1_bl, tXf, tCallS]
      refine ⟨.ref CE, .ref CE, true, NS, e, _, rfl, fun u h => h, rfl, rfl, he, T.kcN, T.n1, true, rfl, ?_⟩
      try simp (maxSteps := 1000000) only [tSeq, tIfS, tTest, tOp, tUn, tCB, tCons, tNil, tVar, tC, rI0, rI, rU, rEq, rNe, tRet, tRetN, tAsg, gName, gSub, tBM, tBM0, tNext, tB, tNot, tAnd, tOr, tIf, tCall, tDrop, tBreak, tCont, L2.start, tDGet, sDPut, tTup, tLst, tDNewK, tRevL, rCat, rAppend, rPop, rSetL, tAndV, tOrV, tNotV, tSl, tPart, tNoPart, tM1, gTup, gCons, gNil, cxK, cxnK, List.map_cons, List.map_nil, List.length_cons, List.length_nil, List.replicate, List.cons_append, List.nil_append, List.append_nil, List.set_cons_zero, List.set_cons_succ, List.getElem?_cons_zero, List.getElem?_cons_succ, Option.some.injEq, V.ref.injEq, V.int.injEq, V.str.injEq, V.bl.injEq, V.ty.injEq, exists_eq_left', exists_eq_left, exists_and_left, List.cons.injEq, and_true, true_and, sc_ii, sc_ss, sc_bb, sc_ni, sc_in, sc_is, sc_si, sc_nn, decide_true, decide_false, reduceCtorEq, Bool.false_eq_true, if_true, if_false, ite_true, ite_false, exists_const, eq_self, false_and, and_false, or_false, false_or, exists_false, Evl.rLenS, rSum, wipe, tYes, exists_eq, exists_eq', rIxL, rIxT, rIxS, exists_and_right, gt_iff_lt, not_true_eq_false, not_false_eq_true, Bool.not_true, Bool.not_false, decide_eq_true_eq, Nat.reduceSub, Nat.reduceAdd, List.append_assoc, tChain, tDIn, tDNotIn, sDDel, tAug, ipI, rInt1_int, rInt1_bl]
      refine ⟨.ty "ValueError", .type "ValueError", true, NS, e, _, rfl, fun u h => h, rfl, rfl, he, T.kcN, T.n2, true, rfl, ?_⟩
      try simp (maxSteps := 1000000) only [tSeq, tIfS, tTest, tOp, tUn, tCB, tCons, tNil, tVar, tC, rI0, rI, rU, rEq, rNe, tRet, tRetN, tAsg, gName, gSub, tBM, tBM0, tNext, tB, tNot, tAnd, tOr, tIf, tCall, tDrop, tBreak, tCont, L2.start, tDGet, sDPut, tTup, tLst, tDNewK, tRevL, rCat, rAppend, rPop, rSetL, tAndV, tOrV, tNotV, tSl, tPart, tNoPart, tM1, gTup, gCons, gNil, cxK, cxnK, List.map_cons, List.map_nil, List.length_cons, List.length_nil, List.replicate, List.cons_append, List.nil_append, List.append_nil, List.set_cons_zero, List.set_cons_succ, List.getElem?_cons_zero, List.getElem?_cons_succ, Option.some.injEq, V.ref.injEq, V.int.injEq, V.str.injEq, V.bl.injEq, V.ty.injEq, exists_eq_left', exists_eq_left, exists_and_left, List.cons.injEq, and_true, true_and, sc_ii, sc_ss, sc_bb, sc_ni, sc_in, sc_is, sc_si, sc_nn, decide_true, decide_false, reduceCtorEq, Bool.false_eq_true, if_true, if_false, ite_true, ite_false, exists_const, eq_self, false_and, and_false, or_false, false_or, exists_false, Evl.rLenS, rSum, wipe, tYes, exists_eq, exists_eq', rIxL, rIxT, rIxS, exists_and_right, gt_iff_lt, not_true_eq_false, not_false_eq_true, Bool.not_true, Bool.not_false, decide_eq_true_eq, Nat.reduceSub, Nat.reduceAdd, List.append_assoc, tChain, tDIn, tDNotIn, sDDel, tAug, ipI, rInt1_int, rInt1_bl]
      refine ⟨.ref OW, .ref OW, false, NS, e, _, rfl, fun u h => h, rfl, rfl, he, T.kcN, T.n3, false, rfl, ?_⟩
      try simp (maxSteps := 1000000) only [tSeq, tIfS, tTest, tOp, tUn, tCB, tCons, tNil, tVar, tC, rI0, rI, rU, rEq, rNe, tRet, tRetN, tAsg, gName, gSub, tBM, tBM0, tNext, tB, tNot, tAnd, tOr, tIf, tCall, tDrop, tBreak, tCont, L2.start, tDGet, sDPut, tTup, tLst, tDNewK, tRevL, rCat, rAppend, rPop, rSetL, tAndV, tOrV, tNotV, tSl, tPart, tNoPart, tM1, gTup, gCons, gNil, cxK, cxnK, List.map_cons, List.map_nil, List.length_cons, List.length_nil, List.replicate, List.cons_append, List.nil_append, List.append_nil, List.set_cons_zero, List.set_cons_succ, List.getElem?_cons_zero, List.getElem?_cons_succ, Option.some.injEq, V.ref.injEq, V.int.injEq, V.str.injEq, V.bl.injEq, V.ty.injEq, exists_eq_left', exists_eq_left, exists_and_left, List.cons.injEq, and_true, true_and, sc_ii, sc_ss, sc_bb, sc_ni, sc_in, sc_is, sc_si, sc_nn, decide_true, decide_false, reduceCtorEq, Bool.false_eq_true, if_true, if_false, ite_true, ite_false, exists_const, eq_self, false_and, and_false, or_false, false_or, exists_false, Evl.rLenS, rSum, wipe, tYes, exists_eq, exists_eq', rIxL, rIxT, rIxS, exists_and_right, gt_iff_lt, not_true_eq_false, not_false_eq_true, Bool.not_true, Bool.not_false, decide_eq_true_eq, Nat.reduceSub, Nat.reduceAdd, List.append_assoc, tChain, tDIn, tDNotIn, sDDel, tAug, ipI, rInt1_int, rInt1_bl, tXf, tCallS]
      refine ⟨_, he, scV x, rfl, _, _, rfl, ?_, q _ (k.trans k1)⟩
      cases x with
      | inl i => exact .inl ⟨i, rfl, rfl⟩
      | inr b => exact .inr (.inl ⟨b, rfl, rfl⟩)
end
end My

set_option Elab.async false
set_option linter.all false
set_option maxRecDepth 100000
set_option maxHeartbeats 4000000
namespace My
open PySem L2 NdefX
abbrev s_law_has : Stmt := top 31
theorem sc_law_has : FnScope ["_law_paper", "_law_due", "_law_size", "_law_width", "_law_rows", "_law_pair", "_law_k", "_law_at", "_law_up"] ["_law_paper", "_law_due", "_law_size", "_law_width"] (defScope s_law_has) := ⟨rfl, rfl, rfl, by decide +kernel, rfl, by decide +kernel, by decide +kernel⟩
def prD (p : Pr) : PyData := .tuple [.int p.1, .int p.2]
theorem eqvPr (a b : Pr) : PyData.eqv (prD a) (prD b) = decide (a = b) := by
  obtain ⟨a1, a2⟩ := a
  obtain ⟨b1, b2⟩ := b
  have e : PyData.eqv (prD (a1, a2)) (prD (b1, b2)) = ((a1 == b1) && ((a2 == b2) && true)) := by simp only [prD, PyData.eqv, PyData.eqvAll]
  rw [e, Bool.and_true, Bool.eq_iff_iff, Bool.and_eq_true, beq_iff_eq, beq_iff_eq, decide_eq_true_eq]
  exact ⟨fun h => Prod.ext h.1 h.2, fun h => by cases h; exact ⟨rfl, rfl⟩⟩
theorem anyPr {ps : List Pr} {p : Pr} : ((ps.map prD).any fun z => PyData.eqv z (prD p)) = decide (p ∈ ps) := by
  rw [Bool.eq_iff_iff, List.any_eq_true, decide_eq_true_eq]
  constructor
  · rintro ⟨z, hz, e⟩
    obtain ⟨q, hq, rfl⟩ := List.mem_map.mp hz
    rw [eqvPr, decide_eq_true_eq] at e
    rw [← e]; exact hq
  · intro h
    exact ⟨prD p, List.mem_map_of_mem h, by rw [eqvPr]; exact decide_eq_true rfl⟩
theorem shPrs {ps : List Pr} : SeqAt.shaped (.list (ps.map prD)) = true := (shapedL fun x hx => by
  obtain ⟨q, _, rfl⟩ := List.mem_map.mp hx
  exact ⟨rfl, show 1 ≤ 60 by decide⟩).1
theorem PrAt.dp {K : PySem.W.Frag} {H : Hp} {v : V} {p : Pr} (h : PrAt H v p) : Dp K H v (prD p) := by
  obtain ⟨t, rfl, h⟩ := h
  exact .tup (sq_t h) (.cons (.int _) (.cons (.int _) .nil))
theorem prsDp {K : PySem.W.Frag} {H : Hp} : ∀ {ps : List Pr} {us : List V}, Rw (PrAt H) us ps → DpAll K H us (ps.map prD)
  | [], us, h => by rw [h.isNil]; exact .nil
  | p :: ps, us, h => by
    obtain ⟨u, us', rfl, hu, t⟩ := h.ex
    exact .cons hu.dp (prsDp t)
theorem PrAt.same {H : Hp} {x y : V} {p : Pr} (h : PrAt H x p) (h' : PrAt H y p) : SameD 1 H x y := by
  obtain ⟨t, rfl, h⟩ := h
  obtain ⟨t', rfl, h'⟩ := h'
  refine .inr ⟨t, t', _, _, rfl, rfl, .inr ⟨h, h'⟩, rfl, (show 2 ≤ 5000 by decide), fun i u v hu hv => ?_⟩
  match i with
  | 0 => cases hu; cases hv; exact .inl ⟨_, rfl, rfl⟩
  | 1 => cases hu; cases hv; exact .inl ⟨_, rfl, rfl⟩
  | i + 2 => cases hu
theorem prs_same {H : Hp} {a b : Addr} {us vs : List V} {ps : List Pr} (ha : H a = some (.lst us)) (hb : H b = some (.lst vs)) (hu : Rw (PrAt H) us ps) (hv : Rw (PrAt H) vs ps) (l : ps.length ≤ 1000) : SameD 2 H (.ref a) (.ref b) := by
  refine .inr ⟨a, b, us, vs, rfl, rfl, .inl ⟨ha, hb⟩, by rw [hu.len, hv.len], by rw [hu.len]; omega, fun i u v eu ev => ?_⟩
  obtain ⟨p, ep, hp⟩ := hu.get eu
  obtain ⟨q, eq, hq⟩ := hv.get ev
  rw [ep] at eq
  cases eq
  exact hp.same hq
theorem srtP_eq : ∀ {a b : List Pr}, SrtP a → SrtP b → (∀ p, p ∈ a ↔ p ∈ b) → a = b
  | [], [], _, _, _ => rfl
  | [], q :: b, _, _, h => nomatch (h q).mpr (by simp)
  | p :: a, [], _, _, h => nomatch (h p).mp (by simp)
  | p :: a, q :: b, sa, sb, h => by
    unfold SrtP at sa sb
    rw [List.pairwise_cons] at sa sb
    have e : p = q := by
      rcases List.mem_cons.mp ((h p).mp (by simp)) with e | e
      · exact e
      · rcases List.mem_cons.mp ((h q).mpr (by simp)) with e' | e'
        · exact e'.symm
        · have := sb.1 p e
          have := sa.1 q e'
          omega
    subst e
    have : a = b := srtP_eq sa.2 sb.2 fun r => by
      have hr := h r
      rw [List.mem_cons, List.mem_cons] at hr
      constructor
      · intro m
        rcases hr.mp (.inr m) with e | e
        · have := sa.1 r m; rw [e] at this; omega
        · exact e
      · intro m
        rcases hr.mpr (.inr m) with e | e
        · have := sb.1 r m; rw [e] at this; omega
        · exact e
    rw [this]
theorem rw_cons {α : Type} {R : V → α → Prop} {v : V} {us : List V} {gs : List α} (h : Rw R (v :: us) gs) : ∃ g gs', gs = g :: gs' ∧ R v g ∧ Rw R us gs' := by
  match gs, h with
  | [], h => have := h.len; simp at this
  | g :: gs', h =>
    obtain ⟨u, us', e, hu, t⟩ := h.ex
    cases e
    exact ⟨g, gs', rfl, hu, t⟩
theorem rw_perm {α : Type} {R : V → α → Prop} {us ys : List V} (p : us.Perm ys) : ∀ {gs : List α}, Rw R us gs → ∃ gs', gs'.Perm gs ∧ Rw R ys gs' := by
  induction p with
  | nil => intro gs h; exact ⟨gs, .refl _, h⟩
  | cons x _ ih =>
    intro gs h
    obtain ⟨g, gs', rfl, hx, t⟩ := rw_cons h
    obtain ⟨gs2, p2, r2⟩ := ih t
    exact ⟨g :: gs2, p2.cons g, .cons hx r2⟩
  | swap x y l =>
    intro gs h
    obtain ⟨g, gs', rfl, hx, t⟩ := rw_cons h
    obtain ⟨g2, gs2, rfl, hy, t2⟩ := rw_cons t
    exact ⟨g2 :: g :: gs2, List.Perm.swap _ _ _, .cons hy (.cons hx t2)⟩
  | trans _ _ ih1 ih2 =>
    intro gs h
    obtain ⟨g1, p1, r1⟩ := ih1 h
    obtain ⟨g2, p2, r2⟩ := ih2 r1
    exact ⟨g2, p2.trans p1, r2⟩
theorem lcFiltL {α : Type} {K : PySem.W.Frag} {tv : TE} {j : Nat} {tt : TT} {σ : L2.St} {H : Hp} {Q : VK} {a : Addr} {us : List V} {gs : List α} {R : Hp → V → α → Prop} (mono : ∀ H H' v x, Tp H H' → R H v x → R H' v x) (b : α → Bool) (hv : ∀ R : VK, R (.ref a) H → tv σ H R) (ha : SqL K H a us) (hr : Rw (R H) us gs) (hl : gs.length ≤ 1000) (hj : j < σ.length)
    (test : ∀ v x H' (R' : Bool → Hp → Prop), x ∈ gs → R H' v x → Kp [] H H' → (∀ H2, Kp [] H' H2 → R' (b x) H2) → tt ((wipe σ [j]).set j (some v)) H' R')
    (fin : ∀ D ws H', H D = none → H' D = some (.lst ws) → Rw (R H') ws (gs.filter b) → Kp [] H H' → Q (.ref D) H') :
    tLc (iList K tv) (gName j) tt (tVar j) [j] σ H Q := by
  unfold tLc iList
  refine hv _ ⟨a, rfl, ⟨_, ha⟩, fun D nD => ?_⟩
  refine lc_list (xs := us) (fun i H' => ∃ ws, H' D = some (.lst ws) ∧ Rw (R H') ws ((gs.take i).filter b) ∧ Kp [] H H') ⟨[], upd_same, .nil, Kp.new nD⟩ (fun i H' _ h => by obtain ⟨_, _, _, k⟩ := h; exact k.ls not0 ha) (fun i x H' hx h => ?_) fun H' h => ?_
  · obtain ⟨g, eg, hg⟩ := hr.get hx
    obtain ⟨ws, hD, hw, kp⟩ := h
    refine ⟨by simp [wipe], ?_⟩
    refine test x g H' _ (List.mem_of_getElem? eg) (mono _ _ _ _ kp.tps hg) kp fun H2 k2 => ?_
    have hD2 := k2 _ _ not0 hD
    have e1 : (gs.take (i + 1)).filter b = (gs.take i).filter b ++ if b g = true then [g] else [] := by
      rw [take_snoc eg, List.filter_append]
      cases hb : b g <;> simp [hb]
    cases hb : b g with
    | true =>
      rw [if_pos rfl]
      have lj : ((wipe σ [j]).set j (some x))[j]? = some (some x) := by rw [List.getElem?_set_self (by simp [wipe]; exact hj)]
      refine ⟨x, lj, ws, hD2, ?_, ws ++ [x], upd_same, ?_, (kp.trans k2).wr nD⟩
      · rw [hw.len]
        have := List.length_filter_le b (gs.take i)
        rw [List.length_take] at this
        exact smallL (by omega)
      · rw [e1, hb, if_pos rfl]
        exact (hw.mono fun u g r => mono _ _ _ _ (k2.tps.putL hD2) r).snoc (mono _ _ _ _ ((kp.trans k2).tps.trans ((Tp.refl H2).putL hD2)) hg)
    | false =>
      rw [if_neg Bool.false_ne_true]
      refine ⟨ws, hD2, ?_, kp.trans k2⟩
      rw [e1, hb, if_neg Bool.false_ne_true, List.append_nil]
      exact hw.mono fun u g r => mono _ _ _ _ k2.tps r
  · obtain ⟨ws, hD, hw, kp⟩ := h
    rw [hr.len, List.take_length] at hw
    exact fin D ws H' nD hD hw kp
theorem lcOwnL {K : PySem.W.Frag} {PC o lo hi : Addr} {ps : List Pr} {i : Nat} {g : TG} {tt : TT} {te : TE} {vs : List Nat} {σ : L2.St} {H : Hp} {Q : VK} (hσ : σ[i]? = some (some (.ref o))) (hP : PapAt PC H o lo hi ps) (h : ∀ l us, H l = some (.lst us) → Rw (PrAt H) us ps → tLc (iList K (tC (.ref l))) g tt te vs σ H Q) : tLc (iOwn K PC (spPIter PC) E0 (tVar i)) g tt te vs σ H Q := by
  obtain ⟨dx, l, d, us, ho, _⟩ := id hP
  refine ⟨.ref o, hσ, o, dx, _, rfl, ho, fun n => ⟨o, lo, hi, ps, rfl, hP, fun l us it hl hus nit hn => ⟨l, it, rfl, nit, hn, rfl, ⟨_, sq_l hl⟩, ?_⟩⟩⟩
  have := h l us hl hus
  obtain ⟨a, e, _, h2⟩ := this
  cases e
  exact h2
def allP (n m : Nat) : List Pr := (List.range (n * m)).map fun k => (((k : Nat) : Int) / (m : Nat), ((k : Nat) : Int) % (m : Nat))
theorem allP_mem {n m : Nat} {p : Pr} (h : InP n m p) : p ∈ allP n m := by
  obtain ⟨x, y⟩ := p
  obtain ⟨a0, a1, b0, b1⟩ := h
  have a0 : 0 ≤ x := a0
  have a1 : x < n := a1
  have b0 : 0 ≤ y := b0
  have b1 : y < m := b1
  obtain ⟨a, rfl⟩ := Int.eq_ofNat_of_zero_le a0
  obtain ⟨b, rfl⟩ := Int.eq_ofNat_of_zero_le b0
  have bm : b < m := by omega
  have an : a < n := by omega
  have lt : a * m + b < n * m := by
    have : (a + 1) * m ≤ n * m := Nat.mul_le_mul_right m an
    rw [Nat.add_mul, Nat.one_mul] at this
    omega
  refine List.mem_map.mpr ⟨a * m + b, List.mem_range.mpr lt, ?_⟩
  have e1 : (a * m + b) / m = a := by rw [Nat.mul_comm, Nat.mul_add_div (by omega), Nat.div_eq_of_lt bm, Nat.add_zero]
  have e2 : (a * m + b) % m = b := by rw [Nat.mul_comm, Nat.mul_add_mod, Nat.mod_eq_of_lt bm]
  have f1 : (((a * m + b : Nat) : Nat) : Int) / (m : Nat) = (a : Nat) := by rw [← Int.natCast_ediv, e1]
  have f2 : (((a * m + b : Nat) : Nat) : Int) % (m : Nat) = (b : Nat) := by rw [← Int.natCast_emod, e2]
  rw [f1, f2]
theorem allP_nodup {n m : Nat} (hm : 1 ≤ m) : (allP n m).Nodup := by
  refine List.nodup_iff_pairwise_ne.mpr (List.pairwise_map.mpr ((List.nodup_iff_pairwise_ne.mp List.nodup_range).imp fun {a b} hne e => hne ?_))
  have e1 : (a : Int) / (m : Nat) = (b : Int) / (m : Nat) := congrArg Prod.fst e
  have e2 : (a : Int) % (m : Nat) = (b : Int) % (m : Nat) := congrArg Prod.snd e
  have h1 := Int.emod_add_mul_ediv (a : Int) (m : Nat)
  have h2 := Int.emod_add_mul_ediv (b : Int) (m : Nat)
  rw [e1, e2] at h1
  omega
theorem allP_in {n m : Nat} (n7 : n ≤ 7) (m1 : 1 ≤ m) (m7 : m ≤ 7) {p : Pr} (h : p ∈ allP n m) : InP 64 64 p := by
  obtain ⟨k, hk, rfl⟩ := List.mem_map.mp h
  have hk := List.mem_range.mp hk
  have := Nat.mul_le_mul n7 m7
  refine ⟨Int.ediv_nonneg (by omega) (by omega), ?_, Int.emod_nonneg _ (by omega), ?_⟩
  · have := Int.ediv_le_self (m : Nat) (show (0 : Int) ≤ (k : Nat) by omega)
    show ((k : Nat) : Int) / (m : Nat) < 64
    omega
  · have := Int.emod_lt_of_pos (k : Nat) (show (0 : Int) < (m : Nat) by omega)
    show ((k : Nat) : Int) % (m : Nat) < 64
    omega
/-- a list sorted by the codes, each once -/
theorem srt_of_codes {K : PySem.W.Frag} {H : Hp} {ys : List V} {gs : List Pr} (r : Rw (PrAt H) ys gs) (nd : gs.Nodup) (hin : ∀ g ∈ gs, InP 64 64 g) (pw : ys.Pairwise fun x y => ∀ n m, TupI K H x n → TupI K H y m → TS.code 64 n ≤ TS.code 64 m) : SrtP gs := by
  refine List.pairwise_iff_getElem.mpr fun i j hi hj hij => ?_
  have ly := r.len
  have ei : gs[i]? = some gs[i] := List.getElem?_eq_getElem hi
  have ej : gs[j]? = some gs[j] := List.getElem?_eq_getElem hj
  obtain ⟨u, eu, t, rfl, hu⟩ := r.at ei
  obtain ⟨v, ev, t', rfl, hv⟩ := r.at ej
  have li : i < ys.length := by omega
  have lj : j < ys.length := by omega
  have := List.pairwise_iff_getElem.mp pw i j li lj hij (prL gs[i]) (prL gs[j]) (by rw [(List.getElem?_eq_some_iff.mp eu).2]; exact ⟨t, rfl, sq_t hu⟩) (by rw [(List.getElem?_eq_some_iff.mp ev).2]; exact ⟨t', rfl, sq_t hv⟩)
  unfold prL at this
  rw [code_pair, code_pair] at this
  have ne : cd gs[i] ≠ cd gs[j] := fun z => by
    have e := cd_inj (hin _ (List.getElem_mem hi)) (hin _ (List.getElem_mem hj)) z
    exact (List.pairwise_iff_getElem.mp (List.nodup_iff_pairwise_ne.mp nd) i j hi hj hij) e
  have le : cd gs[i] ≤ cd gs[j] := this
  omega
section
variable {P : Program} {w : World} {K : PySem.W.Frag} {mg : Str → Option Value} {base : Heap} {t1 : Tok} {WC NS PC : Addr}
def spHas (PC WC : Addr) : Sp := fun vs H Q _ => ∃ (o lo hi d : Addr) (n m : Nat) (ps gs : List Pr) (s1 s2 : List (List Mv)) (us : List V), vs = [.ref o, .ref d, .int (n : Nat), .int (m : Nat)] ∧ PapAt PC H o lo hi ps ∧ WebAt WC H lo s1 ∧ WebAt WC H hi s2 ∧ s1.length ≤ 60 ∧ s2.length ≤ 60 ∧ H d = some (.lst us) ∧ Rw (PrAt H) us gs ∧ 1 ≤ n ∧ n ≤ 7 ∧ 1 ≤ m ∧ m ≤ 7 ∧ (∀ p, p ∈ ps ↔ p ∈ gs) ∧ (∀ g ∈ gs, InP n m g) ∧ (∀ p ∈ ps, InP s1.length s2.length p) ∧ gs.length ≤ 60 ∧ ∀ H', Kp [] H H' → Q (.bl true) H'
theorem ok_law_has {f : Addr} {fd : FuncData} (D : Df K mg "_law_has" s_law_has ["_law_paper", "_law_due", "_law_size", "_law_width"] f fd) (T : BtO mg) (PP : PpC K mg PC) {fl : Addr} {fdl : FuncData} (LN_Paper : LenC K PC fl) (b_Paper_len : Binds K fdl ["self"] []) (G_Paper_len : FnOk P w K mg base CX0 1 fl fdl ["self"] (spPLen PC))
    {fi : Addr} {fdi : FuncData} (IT_Paper : ItrC K PC fi) (b_Paper_iter : Binds K fdi ["self"] []) (G_Paper_iter : FnNew P w K mg base 1 fi fdi ["self"] (spPIter PC))
    {fc : Addr} {fdc : FuncData} (IN_Paper : InC K PC fc) (b_Paper_contains : Binds K fdc ["self", "x"] []) (G_Paper_contains : FnOk P w K mg base CX0 3 fc fdc ["self", "x"] (spPIn PC WC))
    {g2 : Addr} {gd2 : FuncData} (D_law_same : Df K mg "_law_same" s_law_same ["_law_told", "_law_due"] g2 gd2) (G_law_same : FnOk P w K mg base CX0 3 g2 gd2 ["_law_told", "_law_due"] (spSame 2)) : FnOk P w K mg base CX0 6 f fd ["_law_paper", "_law_due", "_law_size", "_law_width"] (spHas PC WC) := by
  refine D.F.ok sc_law_has (fun vs H Q E h => ?_) (fun cdv A outer s H vs Q E hr h => ?_)
  · obtain ⟨_, _, _, _, _, _, _, _, _, _, _, rfl, _⟩ := h
    rfl
  · obtain ⟨o, lo, hi, d, n, m, ps, gs, s1, s2, us, rfl, hP, hW1, hW2, ln1, ln2, hd, hus, n1, n7, m1, m7, hpg, hgi, hpi, lg, q⟩ := h
    refine ⟨_, (pss_cons (ps_set (i := 4) sc_law_has.nd rfl (Or.inl rfl) (pe_callB (id := "sorted") (r := rSortU K 2 64) (cr_sortT (by decide)) (by rfl) T.b_sorted (by decide +kernel) (pa_cons (pe_lc (own := [("_law_pair", 5)]) (g := (gName 5)) rfl sc_law_has.nd (pi_list (pe_lc (own := [("_law_k", 6)]) (g := (gName 6)) (tt := tYes) rfl sc_law_has.nd (pi_range1 rfl T.b_range (pa_cons (pe_op op_mul (pv 2) (pv 3)) pa_nil)) (blkOk_by (N := ["_law_paper", "_law_due", "_law_size", "_law_width", "_law_rows", "_law_pair", "_law_k", "_law_at", "_law_up"]) (sc := defScope s_law_has) (by decide +kernel)) (fun _ _ _ _ _ => (pg_name (i := 6) sc_law_has.nd rfl (Or.inl rfl))) (fun _ _ _ _ _ => pts_nil) (fun _ _ _ _ _ => (pe_tup (pa_cons (pe_op op_fdiv (pv 6) (pv 3)) (pa_cons (pe_op op_mod (pv 6) (pv 3)) pa_nil)))))) (blkOk_by (N := ["_law_paper", "_law_due", "_law_size", "_law_width", "_law_rows", "_law_pair", "_law_k", "_law_at", "_law_up"]) (sc := defScope s_law_has) (by decide +kernel)) (fun _ _ _ _ _ => (pg_name (i := 5) sc_law_has.nd rfl (Or.inl rfl))) (fun _ _ _ _ _ => (pts_one (pt_cmpR (r := rInS K false) (op_inS (hu5 hr)) (pv 5) (pv 1) (by rfl)))) (fun _ _ _ _ _ => (pv 5))) pa_nil)))
      (pss_cons (ps_if (PW.pt (pw_or (pt_cmpR op_ne (pe_callB (id := "len") (call_lenO LN_Paper G_Paper_len b_Paper_len (hr.mono (by decide)) pass0) (by rfl) T.b_len PySem.boot_len (pa_cons (pv 0) pa_nil)) (pe_callB (id := "len") (r := Evl.rLenS K) call_len_seq (by rfl) T.b_len PySem.boot_len (pa_cons (pv 4) pa_nil)) (nomark _)) (pw_or1 (pt_not (pt_val (pe_call G_law_same (hr.mono (by decide)) rfl D_law_same.g D_law_same.F.kp D_law_same.b .nil pass0 (pa_cons (pe_lc (own := [("_law_pair", 5)]) (g := (gName 5)) (tt := tYes) rfl sc_law_has.nd (pi_own (E := E0) IT_Paper G_Paper_iter b_Paper_iter (hr.mono (by decide)) (pv 0)) (blkOk_by (N := ["_law_paper", "_law_due", "_law_size", "_law_width", "_law_rows", "_law_pair", "_law_k", "_law_at", "_law_up"]) (sc := defScope s_law_has) (by decide +kernel)) (fun _ _ _ _ _ => (pg_name (i := 5) sc_law_has.nd rfl (Or.inl rfl))) (fun _ _ _ _ _ => pts_nil) (fun _ _ _ _ _ => (pv 5))) (pa_cons (pv 4) pa_nil)))))))) (pss_one (ps_ret pe_bl)) pss_nil)
      (pss_cons (ps_for PassesOwn.never rfl (pi_range1 rfl T.b_range (pa_cons (pe_op op_add (pv 2) pe_int) pa_nil)) (pg_name (i := 7) sc_law_has.nd rfl (Or.inl rfl)) (pss_one (ps_for PassesOwn.never rfl (pi_range1 rfl T.b_range (pa_cons (pe_op op_add (pv 3) pe_int) pa_nil)) (pg_name (i := 8) sc_law_has.nd rfl (Or.inl rfl)) (pss_one (ps_if (pt_cmpR op_ne (pe_cmpR (op_inO IN_Paper G_Paper_contains b_Paper_contains (hr.mono (by decide)) pass0) (pe_tup (pa_cons (pv 7) (pa_cons (pv 8) pa_nil))) (pv 0) (by rfl)) (pe_cmpR (op_inS (hu5 hr)) (pe_tup (pa_cons (pv 7) (pa_cons (pv 8) pa_nil))) (pv 4) (by rfl)) (nomark _)) (pss_one (ps_ret pe_bl)) pss_nil)))))
      (pss_one (ps_ret (pe_and (pe_cmpR (op_notInO IN_Paper G_Paper_contains b_Paper_contains (hr.mono (by decide)) pass0) (pe_tup (pa_cons (pe_un un_neg pe_int) (pa_cons pe_int pa_nil))) (pv 0) (by rfl)) (pe_and (pe_cmpR (op_notInO IN_Paper G_Paper_contains b_Paper_contains (hr.mono (by decide)) pass0) (pe_tup (pa_cons pe_int (pa_cons (pe_un un_neg pe_int) pa_nil))) (pv 0) (by rfl)) (pe_one (pe_call G_law_same (hr.mono (by decide)) rfl D_law_same.g D_law_same.F.kp D_law_same.b .nil pass0 (pa_cons (pe_lc (own := [("_law_pair", 5)]) (g := (gName 5)) (tt := tYes) rfl sc_law_has.nd (pi_own (E := E0) IT_Paper G_Paper_iter b_Paper_iter (hr.mono (by decide)) (pv 0)) (blkOk_by (N := ["_law_paper", "_law_due", "_law_size", "_law_width", "_law_rows", "_law_pair", "_law_k", "_law_at", "_law_up"]) (sc := defScope s_law_has) (by decide +kernel)) (fun _ _ _ _ _ => (pg_name (i := 5) sc_law_has.nd rfl (Or.inl rfl))) (fun _ _ _ _ _ => pts_nil) (fun _ _ _ _ _ => (pv 5))) (pa_cons (pv 4) pa_nil))))))))))), ?_⟩
    obtain ⟨dx, la, da, usa, hoP, _⟩ := id hP
    try simp (maxSteps := 1000000) only [tSeq, tIfS, tTest, tOp, tUn, tCB, tCons, tNil, tVar, tC, rI0, rI, rU, rEq, rNe, tRet, tRetN, tAsg, gName, gSub, tBM, tBM0, tNext, tB, tNot, tAnd, tOr, tIf, tCall, tDrop, tBreak, tCont, L2.start, tDGet, sDPut, tTup, tLst, tDNewK, tRevL, rCat, rAppend, rPop, rSetL, tAndV, tOrV, tNotV, tSl, tPart, tNoPart, tM1, gTup, gCons, gNil, cxK, cxnK, List.map_cons, List.map_nil, List.length_cons, List.length_nil, List.replicate, List.cons_append, List.nil_append, List.append_nil, List.set_cons_zero, List.set_cons_succ, List.getElem?_cons_zero, List.getElem?_cons_succ, Option.some.injEq, V.ref.injEq, V.int.injEq, V.str.injEq, V.bl.injEq, V.ty.injEq, exists_eq_left', exists_eq_left, exists_and_left, List.cons.injEq, and_true, true_and, sc_ii, sc_ss, sc_bb, sc_ni, sc_in, sc_is, sc_si, sc_nn, decide_true, decide_false, reduceCtorEq, Bool.false_eq_true, if_true, if_false, ite_true, ite_false, exists_const, eq_self, false_and, and_false, or_false, false_or, exists_false, Evl.rLenS, rSum, wipe, tYes, exists_eq, exists_eq', rIxL, rIxT, rIxS, exists_and_right, gt_iff_lt, not_true_eq_false, not_false_eq_true, Bool.not_true, Bool.not_false, decide_eq_true_eq, Nat.reduceSub, Nat.reduceAdd, List.append_assoc, tChain, tDIn, tDNotIn, sDDel, tAug, ipI, rInt1_int, rInt1_bl, rLenO]
    refine lc_src ?_
    refine lcRgF (n * m) (by have := Nat.mul_le_mul n7 m7; omega) PrAt (fun k => (((k : Nat) : Int) / (m : Nat), ((k : Nat) : Int) % (m : Nat))) (fun _ _ _ _ t h => h.tp t) (show 6 < 9 by decide) (fun R r => ?_) (fun i H' Q' hi k' q' => ?_) fun al usl H1 nal hal husl k1 => ?_
    · try simp (maxSteps := 1000000) only [tSeq, tIfS, tTest, tOp, tUn, tCB, tCons, tNil, tVar, tC, rI0, rI, rU, rEq, rNe, tRet, tRetN, tAsg, gName, gSub, tBM, tBM0, tNext, tB, tNot, tAnd, tOr, tIf, tCall, tDrop, tBreak, tCont, L2.start, tDGet, sDPut, tTup, tLst, tDNewK, tRevL, rCat, rAppend, rPop, rSetL, tAndV, tOrV, tNotV, tSl, tPart, tNoPart, tM1, gTup, gCons, gNil, cxK, cxnK, List.map_cons, List.map_nil, List.length_cons, List.length_nil, List.replicate, List.cons_append, List.nil_append, List.append_nil, List.set_cons_zero, List.set_cons_succ, List.getElem?_cons_zero, List.getElem?_cons_succ, Option.some.injEq, V.ref.injEq, V.int.injEq, V.str.injEq, V.bl.injEq, V.ty.injEq, exists_eq_left', exists_eq_left, exists_and_left, List.cons.injEq, and_true, true_and, sc_ii, sc_ss, sc_bb, sc_ni, sc_in, sc_is, sc_si, sc_nn, decide_true, decide_false, reduceCtorEq, Bool.false_eq_true, if_true, if_false, ite_true, ite_false, exists_const, eq_self, false_and, and_false, or_false, false_or, exists_false, Evl.rLenS, rSum, wipe, tYes, exists_eq, exists_eq', rIxL, rIxT, rIxS, exists_and_right, gt_iff_lt, not_true_eq_false, not_false_eq_true, Bool.not_true, Bool.not_false, decide_eq_true_eq, Nat.reduceSub, Nat.reduceAdd, List.append_assoc, tChain, tDIn, tDNotIn, sDDel, tAug, ipI, rInt1_int, rInt1_bl]
      exact ⟨.inl ⟨by omega, by omega⟩, r⟩
    · try simp (maxSteps := 1000000) only [tSeq, tIfS, tTest, tOp, tUn, tCB, tCons, tNil, tVar, tC, rI0, rI, rU, rEq, rNe, tRet, tRetN, tAsg, gName, gSub, tBM, tBM0, tNext, tB, tNot, tAnd, tOr, tIf, tCall, tDrop, tBreak, tCont, L2.start, tDGet, sDPut, tTup, tLst, tDNewK, tRevL, rCat, rAppend, rPop, rSetL, tAndV, tOrV, tNotV, tSl, tPart, tNoPart, tM1, gTup, gCons, gNil, cxK, cxnK, List.map_cons, List.map_nil, List.length_cons, List.length_nil, List.replicate, List.cons_append, List.nil_append, List.append_nil, List.set_cons_zero, List.set_cons_succ, List.getElem?_cons_zero, List.getElem?_cons_succ, Option.some.injEq, V.ref.injEq, V.int.injEq, V.str.injEq, V.bl.injEq, V.ty.injEq, exists_eq_left', exists_eq_left, exists_and_left, List.cons.injEq, and_true, true_and, sc_ii, sc_ss, sc_bb, sc_ni, sc_in, sc_is, sc_si, sc_nn, decide_true, decide_false, reduceCtorEq, Bool.false_eq_true, if_true, if_false, ite_true, ite_false, exists_const, eq_self, false_and, and_false, or_false, false_or, exists_false, Evl.rLenS, rSum, wipe, tYes, exists_eq, exists_eq', rIxL, rIxT, rIxS, exists_and_right, gt_iff_lt, not_true_eq_false, not_false_eq_true, Bool.not_true, Bool.not_false, decide_eq_true_eq, Nat.reduceSub, Nat.reduceAdd, List.append_assoc, tChain, tDIn, tDNotIn, sDDel, tAug, ipI, rInt1_int, rInt1_bl]
      refine ⟨⟨by omega, by omega⟩, by omega, by rw [sizeLine_eq]; decide, fun p np => ?_⟩
      exact q' _ _ ⟨p, rfl, upd_same⟩ (Kp.new np)
    have hd1 := k1 _ _ not0 hd
    have hus1 : Rw (PrAt H1) us gs := hus.mono fun _ _ z => z.tp k1.tps
    have lall : (allP n m).length ≤ 49 := by
      unfold allP
      rw [List.length_map, List.length_range]; have := Nat.mul_le_mul n7 m7; omega
    have husl : Rw (PrAt H1) usl (allP n m) := husl
    refine lcFiltL (R := PrAt) (fun _ _ _ _ t h => PrAt.tp h t) (fun p => decide (p ∈ gs)) (fun R r => r) (sq_l hal) husl (Nat.le_trans lall (by decide)) (show 5 < 9 by decide) (fun v p H' R' hp hv k' r => ?_) fun D ws H2 nD hD hws k2 => ?_
    · try simp (maxSteps := 1000000) only [tSeq, tIfS, tTest, tOp, tUn, tCB, tCons, tNil, tVar, tC, rI0, rI, rU, rEq, rNe, tRet, tRetN, tAsg, gName, gSub, tBM, tBM0, tNext, tB, tNot, tAnd, tOr, tIf, tCall, tDrop, tBreak, tCont, L2.start, tDGet, sDPut, tTup, tLst, tDNewK, tRevL, rCat, rAppend, rPop, rSetL, tAndV, tOrV, tNotV, tSl, tPart, tNoPart, tM1, gTup, gCons, gNil, cxK, cxnK, List.map_cons, List.map_nil, List.length_cons, List.length_nil, List.replicate, List.cons_append, List.nil_append, List.append_nil, List.set_cons_zero, List.set_cons_succ, List.getElem?_cons_zero, List.getElem?_cons_succ, Option.some.injEq, V.ref.injEq, V.int.injEq, V.str.injEq, V.bl.injEq, V.ty.injEq, exists_eq_left', exists_eq_left, exists_and_left, List.cons.injEq, and_true, true_and, sc_ii, sc_ss, sc_bb, sc_ni, sc_in, sc_is, sc_si, sc_nn, decide_true, decide_false, reduceCtorEq, Bool.false_eq_true, if_true, if_false, ite_true, ite_false, exists_const, eq_self, false_and, and_false, or_false, false_or, exists_false, Evl.rLenS, rSum, wipe, tYes, exists_eq, exists_eq', rIxL, rIxT, rIxS, exists_and_right, gt_iff_lt, not_true_eq_false, not_false_eq_true, Bool.not_true, Bool.not_false, decide_eq_true_eq, Nat.reduceSub, Nat.reduceAdd, List.append_assoc, tChain, tDIn, tDNotIn, sDDel, tAug, ipI, rInt1_int, rInt1_bl]
      refine ⟨prD p, gs.map prD, d, us, rfl, ?_, prsDp (hus1.mono fun _ _ z => z.tp k'.tps), hv.dp, rfl, shPrs, _, rfl, ?_⟩
      · exact .inl (sq_l (k' _ _ not0 hd1))
      · rw [anyPr]
        exact r _ (Kp.refl _ _)
    obtain ⟨srtp⟩ : ∃ _ : SrtP ps, True := by obtain ⟨_, _, _, _, _, _, _, _, s⟩ := hP; exact ⟨s, trivial⟩
    have hqm : ∀ p, p ∈ (allP n m).filter (fun p => decide (p ∈ gs)) ↔ p ∈ gs := fun p => by
      rw [List.mem_filter, decide_eq_true_eq]
      exact ⟨fun h => h.2, fun h => ⟨allP_mem (hgi p h), h⟩⟩
    have hqn : ((allP n m).filter (fun p => decide (p ∈ gs))).Nodup := (allP_nodup m1).sublist List.filter_sublist
    have hqi : ∀ p ∈ (allP n m).filter (fun p => decide (p ∈ gs)), InP 64 64 p := fun p hp => allP_in n7 m1 m7 (List.mem_filter.mp hp).1
    have lq : ((allP n m).filter (fun p => decide (p ∈ gs))).length ≤ 49 := Nat.le_trans (List.length_filter_le _ _) lall
    generalize (allP n m).filter (fun p => decide (p ∈ gs)) = qs at hws hqm hqn hqi lq
    have lws : ws.length = qs.length := hws.len
    refine ⟨D, ws, rfl, sq_l hD, by omega, fun x hx => ?_, fun ys p perm pw np => ?_⟩
    · obtain ⟨i, ei⟩ := List.getElem?_of_mem hx
      obtain ⟨g, eg, t, rfl, ht⟩ := hws.get ei
      obtain ⟨a0, a1, b0, b1⟩ := hqi g (List.mem_of_getElem? eg)
      refine ⟨prL g, ⟨t, rfl, sq_t ht⟩, rfl, fun z hz => ?_⟩
      have hz : z ∈ [g.1, g.2] := hz
      simp at hz
      rcases hz with rfl | rfl
      · exact ⟨a0, a1⟩
      · exact ⟨b0, b1⟩
    obtain ⟨gs', pg, rg⟩ := rw_perm perm.symm hws
    have srt' := srt_of_codes rg (pg.nodup_iff.mpr hqn) (fun g hg => hqi g (pg.mem_iff.mp hg)) pw
    have e' : gs' = ps := srtP_eq srt' srtp fun x => by rw [pg.mem_iff, hqm, hpg]
    subst e'
    have lp : gs'.length ≤ 49 := by rw [pg.length_eq]; exact lq
    have lys : ys.length = gs'.length := rg.len
    have kq := (Kp.new np : Kp [] H2 (upd H2 p (.lst ys)))
    have hp3 : (upd H2 p (.lst ys)) p = some (.lst ys) := upd_same
    generalize upd H2 p (.lst ys) = H3 at kq hp3 ⊢
    have k3 := (k1.trans k2).trans kq
    have rg3 : Rw (PrAt H3) ys gs' := rg.mono fun _ _ z => z.tp kq.tps
    have hP3 := hP.kp k3
    refine ⟨⟨dx, _, k3 _ _ not0 hoP⟩, o, lo, hi, gs', rfl, hP3, _, rfl, small (by omega), p, rfl, ys, .inl (sq_l hp3), ?_⟩
    rw [if_neg (by rw [lys]; simp)]
    refine lcOwnL rfl hP3 fun l1 us1 hl1 hus1' => ?_
    refine lcRelL (R := PrAt) (R2 := PrAt) (fun _ _ _ _ t h => PrAt.tp h t) (fun _ _ _ _ t h => PrAt.tp h t) (fun x => x) (fun R r => r) (sq_l hl1) hus1' (by omega) (show 5 < 9 by decide) (fun v x H' Q' hx hv k' q' => ?_) fun D2 ws2 H4 nD2 hD2 hws2 k4 => ?_
    · try simp (maxSteps := 1000000) only [tSeq, tIfS, tTest, tOp, tUn, tCB, tCons, tNil, tVar, tC, rI0, rI, rU, rEq, rNe, tRet, tRetN, tAsg, gName, gSub, tBM, tBM0, tNext, tB, tNot, tAnd, tOr, tIf, tCall, tDrop, tBreak, tCont, L2.start, tDGet, sDPut, tTup, tLst, tDNewK, tRevL, rCat, rAppend, rPop, rSetL, tAndV, tOrV, tNotV, tSl, tPart, tNoPart, tM1, gTup, gCons, gNil, cxK, cxnK, List.map_cons, List.map_nil, List.length_cons, List.length_nil, List.replicate, List.cons_append, List.nil_append, List.append_nil, List.set_cons_zero, List.set_cons_succ, List.getElem?_cons_zero, List.getElem?_cons_succ, Option.some.injEq, V.ref.injEq, V.int.injEq, V.str.injEq, V.bl.injEq, V.ty.injEq, exists_eq_left', exists_eq_left, exists_and_left, List.cons.injEq, and_true, true_and, sc_ii, sc_ss, sc_bb, sc_ni, sc_in, sc_is, sc_si, sc_nn, decide_true, decide_false, reduceCtorEq, Bool.false_eq_true, if_true, if_false, ite_true, ite_false, exists_const, eq_self, false_and, and_false, or_false, false_or, exists_false, Evl.rLenS, rSum, wipe, tYes, exists_eq, exists_eq', rIxL, rIxT, rIxS, exists_and_right, gt_iff_lt, not_true_eq_false, not_false_eq_true, Bool.not_true, Bool.not_false, decide_eq_true_eq, Nat.reduceSub, Nat.reduceAdd, List.append_assoc, tChain, tDIn, tDNotIn, sDDel, tAug, ipI, rInt1_int, rInt1_bl]
      exact q' v H' hv (Kp.refl _ _)
    rw [List.map_id'] at hws2
    have k34 := k3.trans k4
    refine ⟨_, _, rfl, prs_same hD2 (k4 _ _ not0 hp3) hws2 (rg3.mono fun _ _ z => z.tp k4.tps) (by omega), true, rfl, ?_⟩
    rw [if_neg (by decide)]
    have hp4 := k4 _ _ not0 hp3
    have hP4 := hP3.kp k4
    have rg4 : Rw (PrAt H4) ys gs' := rg3.mono fun _ _ z => z.tp k4.tps
    have hW14 := hW1.kp k34
    have hW24 := hW2.kp k34
    have ho4 := k34 _ _ not0 hoP
    refine forN (n + 1) (by omega) (fun j σ G => ∃ c7 c8 : Option V, σ = [some (.ref o), some (.ref d), some (.int (n : Nat)), some (.int (m : Nat)), some (.ref p), none, none, c7, c8] ∧ Kp [] H4 G) (fun R r => ?_) ⟨none, none, rfl, Kp.refl _ _⟩ (fun j σ G hj h => ?_) fun σ G h => ?_
    · try simp (maxSteps := 1000000) only [tSeq, tIfS, tTest, tOp, tUn, tCB, tCons, tNil, tVar, tC, rI0, rI, rU, rEq, rNe, tRet, tRetN, tAsg, gName, gSub, tBM, tBM0, tNext, tB, tNot, tAnd, tOr, tIf, tCall, tDrop, tBreak, tCont, L2.start, tDGet, sDPut, tTup, tLst, tDNewK, tRevL, rCat, rAppend, rPop, rSetL, tAndV, tOrV, tNotV, tSl, tPart, tNoPart, tM1, gTup, gCons, gNil, cxK, cxnK, List.map_cons, List.map_nil, List.length_cons, List.length_nil, List.replicate, List.cons_append, List.nil_append, List.append_nil, List.set_cons_zero, List.set_cons_succ, List.getElem?_cons_zero, List.getElem?_cons_succ, Option.some.injEq, V.ref.injEq, V.int.injEq, V.str.injEq, V.bl.injEq, V.ty.injEq, exists_eq_left', exists_eq_left, exists_and_left, List.cons.injEq, and_true, true_and, sc_ii, sc_ss, sc_bb, sc_ni, sc_in, sc_is, sc_si, sc_nn, decide_true, decide_false, reduceCtorEq, Bool.false_eq_true, if_true, if_false, ite_true, ite_false, exists_const, eq_self, false_and, and_false, or_false, false_or, exists_false, Evl.rLenS, rSum, wipe, tYes, exists_eq, exists_eq', rIxL, rIxT, rIxS, exists_and_right, gt_iff_lt, not_true_eq_false, not_false_eq_true, Bool.not_true, Bool.not_false, decide_eq_true_eq, Nat.reduceSub, Nat.reduceAdd, List.append_assoc, tChain, tDIn, tDNotIn, sDDel, tAug, ipI, rInt1_int, rInt1_bl]
      rw [show ((n : Nat) : Int) + 1 = ((n + 1 : Nat) : Int) by omega]
      exact r
    · obtain ⟨c7, c8, rfl, kG⟩ := h
      try simp (maxSteps := 1000000) only [tSeq, tIfS, tTest, tOp, tUn, tCB, tCons, tNil, tVar, tC, rI0, rI, rU, rEq, rNe, tRet, tRetN, tAsg, gName, gSub, tBM, tBM0, tNext, tB, tNot, tAnd, tOr, tIf, tCall, tDrop, tBreak, tCont, L2.start, tDGet, sDPut, tTup, tLst, tDNewK, tRevL, rCat, rAppend, rPop, rSetL, tAndV, tOrV, tNotV, tSl, tPart, tNoPart, tM1, gTup, gCons, gNil, cxK, cxnK, List.map_cons, List.map_nil, List.length_cons, List.length_nil, List.replicate, List.cons_append, List.nil_append, List.append_nil, List.set_cons_zero, List.set_cons_succ, List.getElem?_cons_zero, List.getElem?_cons_succ, Option.some.injEq, V.ref.injEq, V.int.injEq, V.str.injEq, V.bl.injEq, V.ty.injEq, exists_eq_left', exists_eq_left, exists_and_left, List.cons.injEq, and_true, true_and, sc_ii, sc_ss, sc_bb, sc_ni, sc_in, sc_is, sc_si, sc_nn, decide_true, decide_false, reduceCtorEq, Bool.false_eq_true, if_true, if_false, ite_true, ite_false, exists_const, eq_self, false_and, and_false, or_false, false_or, exists_false, Evl.rLenS, rSum, wipe, tYes, exists_eq, exists_eq', rIxL, rIxT, rIxS, exists_and_right, gt_iff_lt, not_true_eq_false, not_false_eq_true, Bool.not_true, Bool.not_false, decide_eq_true_eq, Nat.reduceSub, Nat.reduceAdd, List.append_assoc, tChain, tDIn, tDNotIn, sDDel, tAug, ipI, rInt1_int, rInt1_bl]
      refine forN (m + 1) (by omega) (fun j2 σ G' => ∃ c8 : Option V, σ = [some (.ref o), some (.ref d), some (.int (n : Nat)), some (.int (m : Nat)), some (.ref p), none, none, some (.int (j : Nat)), c8] ∧ Kp [] H4 G') (fun R r => ?_) ⟨_, rfl, kG⟩ (fun j2 σ G' hj2 h => ?_) fun σ G' h => ?_
      · try simp (maxSteps := 1000000) only [tSeq, tIfS, tTest, tOp, tUn, tCB, tCons, tNil, tVar, tC, rI0, rI, rU, rEq, rNe, tRet, tRetN, tAsg, gName, gSub, tBM, tBM0, tNext, tB, tNot, tAnd, tOr, tIf, tCall, tDrop, tBreak, tCont, L2.start, tDGet, sDPut, tTup, tLst, tDNewK, tRevL, rCat, rAppend, rPop, rSetL, tAndV, tOrV, tNotV, tSl, tPart, tNoPart, tM1, gTup, gCons, gNil, cxK, cxnK, List.map_cons, List.map_nil, List.length_cons, List.length_nil, List.replicate, List.cons_append, List.nil_append, List.append_nil, List.set_cons_zero, List.set_cons_succ, List.getElem?_cons_zero, List.getElem?_cons_succ, Option.some.injEq, V.ref.injEq, V.int.injEq, V.str.injEq, V.bl.injEq, V.ty.injEq, exists_eq_left', exists_eq_left, exists_and_left, List.cons.injEq, and_true, true_and, sc_ii, sc_ss, sc_bb, sc_ni, sc_in, sc_is, sc_si, sc_nn, decide_true, decide_false, reduceCtorEq, Bool.false_eq_true, if_true, if_false, ite_true, ite_false, exists_const, eq_self, false_and, and_false, or_false, false_or, exists_false, Evl.rLenS, rSum, wipe, tYes, exists_eq, exists_eq', rIxL, rIxT, rIxS, exists_and_right, gt_iff_lt, not_true_eq_false, not_false_eq_true, Bool.not_true, Bool.not_false, decide_eq_true_eq, Nat.reduceSub, Nat.reduceAdd, List.append_assoc, tChain, tDIn, tDNotIn, sDDel, tAug, ipI, rInt1_int, rInt1_bl]
        rw [show ((m : Nat) : Int) + 1 = ((m + 1 : Nat) : Int) by omega]
        exact r
      · obtain ⟨c8, rfl, k5⟩ := h
        try simp (maxSteps := 1000000) only [tSeq, tIfS, tTest, tOp, tUn, tCB, tCons, tNil, tVar, tC, rI0, rI, rU, rEq, rNe, tRet, tRetN, tAsg, gName, gSub, tBM, tBM0, tNext, tB, tNot, tAnd, tOr, tIf, tCall, tDrop, tBreak, tCont, L2.start, tDGet, sDPut, tTup, tLst, tDNewK, tRevL, rCat, rAppend, rPop, rSetL, tAndV, tOrV, tNotV, tSl, tPart, tNoPart, tM1, gTup, gCons, gNil, cxK, cxnK, List.map_cons, List.map_nil, List.length_cons, List.length_nil, List.replicate, List.cons_append, List.nil_append, List.append_nil, List.set_cons_zero, List.set_cons_succ, List.getElem?_cons_zero, List.getElem?_cons_succ, Option.some.injEq, V.ref.injEq, V.int.injEq, V.str.injEq, V.bl.injEq, V.ty.injEq, exists_eq_left', exists_eq_left, exists_and_left, List.cons.injEq, and_true, true_and, sc_ii, sc_ss, sc_bb, sc_ni, sc_in, sc_is, sc_si, sc_nn, decide_true, decide_false, reduceCtorEq, Bool.false_eq_true, if_true, if_false, ite_true, ite_false, exists_const, eq_self, false_and, and_false, or_false, false_or, exists_false, Evl.rLenS, rSum, wipe, tYes, exists_eq, exists_eq', rIxL, rIxT, rIxS, exists_and_right, gt_iff_lt, not_true_eq_false, not_false_eq_true, Bool.not_true, Bool.not_false, decide_eq_true_eq, Nat.reduceSub, Nat.reduceAdd, List.append_assoc, tChain, tDIn, tDNotIn, sDDel, tAug, ipI, rInt1_int, rInt1_bl, rInO]
        refine ⟨by rw [sizeLine_eq]; decide, fun p1 np1 => ?_⟩
        have ka := (Kp.new np1 : Kp [] G' (upd G' p1 (.tup [.int (j : Nat), .int (j2 : Nat)])))
        have hp1 : (upd G' p1 (.tup [.int (j : Nat), .int (j2 : Nat)])) p1 = some (.tup [.int (j : Nat), .int (j2 : Nat)]) := upd_same
        generalize upd G' p1 (.tup [.int (j : Nat), .int (j2 : Nat)]) = G1 at ka hp1 ⊢
        have k46 := k5.trans ka
        refine ⟨⟨dx, _, k46 _ _ not0 ho4⟩, o, lo, hi, p1, s1, s2, gs', ((j : Nat), (j2 : Nat)), rfl, hP4.kp k46, hW14.kp k46, hW24.kp k46, ln1, ln2, hp1, hpi, _, rfl, by rw [sizeLine_eq]; decide, fun p2 np2 => ?_⟩
        have kb := (Kp.new np2 : Kp [] G1 (upd G1 p2 (.tup [.int (j : Nat), .int (j2 : Nat)])))
        have hp2 : (upd G1 p2 (.tup [.int (j : Nat), .int (j2 : Nat)])) p2 = some (.tup [.int (j : Nat), .int (j2 : Nat)]) := upd_same
        generalize upd G1 p2 (.tup [.int (j : Nat), .int (j2 : Nat)]) = G2 at kb hp2 ⊢
        have k47 := k46.trans kb
        refine ⟨prD ((j : Nat), (j2 : Nat)), gs'.map prD, p, ys, rfl, ?_⟩
        refine ⟨.inl (sq_l (k47 _ _ not0 hp4)), prsDp (rg4.mono fun _ _ z => z.tp k47.tps), PrAt.dp ⟨p2, rfl, hp2⟩, rfl, shPrs, ?_⟩
        rw [if_neg Bool.false_ne_true, anyPr]
        refine ⟨rfl, ?_⟩
        rw [if_neg (by simp)]
        exact k47
      · obtain ⟨c8, rfl, k5⟩ := h
        exact ⟨⟨_, _, rfl⟩, k5⟩
    · obtain ⟨c7, c8, rfl, kG⟩ := h
      try simp (maxSteps := 1000000) only [tSeq, tIfS, tTest, tOp, tUn, tCB, tCons, tNil, tVar, tC, rI0, rI, rU, rEq, rNe, tRet, tRetN, tAsg, gName, gSub, tBM, tBM0, tNext, tB, tNot, tAnd, tOr, tIf, tCall, tDrop, tBreak, tCont, L2.start, tDGet, sDPut, tTup, tLst, tDNewK, tRevL, rCat, rAppend, rPop, rSetL, tAndV, tOrV, tNotV, tSl, tPart, tNoPart, tM1, gTup, gCons, gNil, cxK, cxnK, List.map_cons, List.map_nil, List.length_cons, List.length_nil, List.replicate, List.cons_append, List.nil_append, List.append_nil, List.set_cons_zero, List.set_cons_succ, List.getElem?_cons_zero, List.getElem?_cons_succ, Option.some.injEq, V.ref.injEq, V.int.injEq, V.str.injEq, V.bl.injEq, V.ty.injEq, exists_eq_left', exists_eq_left, exists_and_left, List.cons.injEq, and_true, true_and, sc_ii, sc_ss, sc_bb, sc_ni, sc_in, sc_is, sc_si, sc_nn, decide_true, decide_false, reduceCtorEq, Bool.false_eq_true, if_true, if_false, ite_true, ite_false, exists_const, eq_self, false_and, and_false, or_false, false_or, exists_false, Evl.rLenS, rSum, wipe, tYes, exists_eq, exists_eq', rIxL, rIxT, rIxS, exists_and_right, gt_iff_lt, not_true_eq_false, not_false_eq_true, Bool.not_true, Bool.not_false, decide_eq_true_eq, Nat.reduceSub, Nat.reduceAdd, List.append_assoc, tChain, tDIn, tDNotIn, sDDel, tAug, ipI, rInt1_int, rInt1_bl, rInO]
      have neg : ∀ x : Pr, (x.1 < 0 ∨ x.2 < 0) → decide (x ∈ gs') = false := fun x hx => decide_eq_false fun z => by
        obtain ⟨a0, _, b0, _⟩ := hpi x z
        omega
      refine ⟨by rw [sizeLine_eq]; decide, fun p1 np1 => ?_⟩
      have ka := (Kp.new np1 : Kp [] G (upd G p1 (.tup [.int (-1), .int 0])))
      have hp1 : (upd G p1 (.tup [.int (-1), .int 0])) p1 = some (.tup [.int (-1), .int 0]) := upd_same
      generalize upd G p1 (.tup [.int (-1), .int 0]) = G1 at ka hp1 ⊢
      have k46 := kG.trans ka
      refine ⟨⟨dx, _, k46 _ _ not0 ho4⟩, o, lo, hi, p1, s1, s2, gs', (-1, 0), rfl, hP4.kp k46, hW14.kp k46, hW24.kp k46, ln1, ln2, hp1, hpi, false, by rw [neg _ (.inl (by decide))], ?_⟩
      rw [if_pos (by rfl)]
      refine ⟨by rw [sizeLine_eq]; decide, fun p2 np2 => ?_⟩
      have kb := (Kp.new np2 : Kp [] G1 (upd G1 p2 (.tup [.int 0, .int (-1)])))
      have hp2 : (upd G1 p2 (.tup [.int 0, .int (-1)])) p2 = some (.tup [.int 0, .int (-1)]) := upd_same
      generalize upd G1 p2 (.tup [.int 0, .int (-1)]) = G2 at kb hp2 ⊢
      have k47 := k46.trans kb
      refine ⟨⟨dx, _, k47 _ _ not0 ho4⟩, o, lo, hi, p2, s1, s2, gs', (0, -1), rfl, hP4.kp k47, hW14.kp k47, hW24.kp k47, ln1, ln2, hp2, hpi, false, by rw [neg _ (.inr (by decide))], ?_⟩
      rw [if_pos (by rfl)]
      refine lcOwnL rfl (hP4.kp k47) fun l5 us5 hl5 hus5 => ?_
      refine lcRelL (R := PrAt) (R2 := PrAt) (fun _ _ _ _ t h => PrAt.tp h t) (fun _ _ _ _ t h => PrAt.tp h t) (fun x => x) (fun R r => r) (sq_l hl5) hus5 (by omega) (show 5 < 9 by decide) (fun v x H' Q' hx hv k' q' => ?_) fun D5 ws5 H5 nD5 hD5 hws5 k5 => ?_
      · try simp (maxSteps := 1000000) only [tSeq, tIfS, tTest, tOp, tUn, tCB, tCons, tNil, tVar, tC, rI0, rI, rU, rEq, rNe, tRet, tRetN, tAsg, gName, gSub, tBM, tBM0, tNext, tB, tNot, tAnd, tOr, tIf, tCall, tDrop, tBreak, tCont, L2.start, tDGet, sDPut, tTup, tLst, tDNewK, tRevL, rCat, rAppend, rPop, rSetL, tAndV, tOrV, tNotV, tSl, tPart, tNoPart, tM1, gTup, gCons, gNil, cxK, cxnK, List.map_cons, List.map_nil, List.length_cons, List.length_nil, List.replicate, List.cons_append, List.nil_append, List.append_nil, List.set_cons_zero, List.set_cons_succ, List.getElem?_cons_zero, List.getElem?_cons_succ, Option.some.injEq, V.ref.injEq, V.int.injEq, V.str.injEq, V.bl.injEq, V.ty.injEq, exists_eq_left', exists_eq_left, exists_and_left, List.cons.injEq, and_true, true_and, sc_ii, sc_ss, sc_bb, sc_ni, sc_in, sc_is, sc_si, sc_nn, decide_true, decide_false, reduceCtorEq, Bool.false_eq_true, if_true, if_false, ite_true, ite_false, exists_const, eq_self, false_and, and_false, or_false, false_or, exists_false, Evl.rLenS, rSum, wipe, tYes, exists_eq, exists_eq', rIxL, rIxT, rIxS, exists_and_right, gt_iff_lt, not_true_eq_false, not_false_eq_true, Bool.not_true, Bool.not_false, decide_eq_true_eq, Nat.reduceSub, Nat.reduceAdd, List.append_assoc, tChain, tDIn, tDNotIn, sDDel, tAug, ipI, rInt1_int, rInt1_bl]
        exact q' v H' hv (Kp.refl _ _)
      rw [List.map_id'] at hws5
      have k48 := k47.trans k5
      exact ⟨_, _, rfl, prs_same hD5 (k48 _ _ not0 hp4) hws5 (rg4.mono fun _ _ z => z.tp k48.tps) (by omega), q _ (k34.trans k48)⟩
end
end My

set_option Elab.async false
set_option linter.all false
set_option maxRecDepth 100000
set_option maxHeartbeats 4000000
namespace My
open PySem L2 NdefX
abbrev s_law_other : Stmt := top 32
theorem sc_law_other : FnScope ["_law_rows", "_law_menu_here", "_law_cell_here", "_law_draws_here", "_law_out", "_law_at", "_law_deed", "_law_had", "_law_move", "_law_left"] ["_law_rows", "_law_menu_here", "_law_cell_here"] (defScope s_law_other) := ⟨rfl, rfl, rfl, by decide +kernel, rfl, by decide +kernel, by decide +kernel⟩
theorem lcFiltM {α : Type} {K : PySem.W.Frag} {tv : TE} {j : Nat} {tt : TT} {te : TE} {σ : L2.St} {H : Hp} {Q : VK} {a : Addr} {us : List V} {gs : List α} {R : Hp → V → α → Prop} (mono : ∀ H H' v x, Tp H H' → R H v x → R H' v x) (b : α → Bool) (f : α → V) (hv : ∀ R : VK, R (.ref a) H → tv σ H R) (ha : SqL K H a us) (hr : Rw (R H) us gs) (hl : gs.length ≤ 1000) (hj : j < σ.length)
    (test : ∀ v x H' (R' : Bool → Hp → Prop), x ∈ gs → R H' v x → Kp [] H H' → (∀ H2, Kp [] H' H2 → R' (b x) H2) → tt ((wipe σ [j]).set j (some v)) H' R')
    (elt : ∀ v x H' (R' : VK), x ∈ gs → R H' v x → Kp [] H H' → R' (f x) H' → te ((wipe σ [j]).set j (some v)) H' R')
    (fin : ∀ D H', H D = none → H' D = some (.lst ((gs.filter b).map f)) → Kp [] H H' → Q (.ref D) H') :
    tLc (iList K tv) (gName j) tt te [j] σ H Q := by
  unfold tLc iList
  refine hv _ ⟨a, rfl, ⟨_, ha⟩, fun D nD => ?_⟩
  refine lc_list (xs := us) (fun i H' => H' D = some (.lst (((gs.take i).filter b).map f)) ∧ Kp [] H H') ⟨upd_same, Kp.new nD⟩ (fun i H' _ h => h.2.ls not0 ha) (fun i x H' hx h => ?_) fun H' h => ?_
  · obtain ⟨g, eg, hg⟩ := hr.get hx
    obtain ⟨hD, kp⟩ := h
    refine ⟨by simp [wipe], ?_⟩
    refine test x g H' _ (List.mem_of_getElem? eg) (mono _ _ _ _ kp.tps hg) kp fun H2 k2 => ?_
    have hD2 := k2 _ _ not0 hD
    have e1 : (gs.take (i + 1)).filter b = (gs.take i).filter b ++ if b g = true then [g] else [] := by
      rw [take_snoc eg, List.filter_append]
      cases hb : b g <;> simp [hb]
    cases hb : b g with
    | true =>
      rw [if_pos rfl]
      refine elt x g H2 _ (List.mem_of_getElem? eg) (mono _ _ _ _ (kp.trans k2).tps hg) (kp.trans k2) ⟨_, hD2, ?_, ?_, (kp.trans k2).wr nD⟩
      · rw [List.length_map]
        have := List.length_filter_le b (gs.take i)
        rw [List.length_take] at this
        exact smallL (by omega)
      · rw [upd_same, e1, hb, if_pos rfl, List.map_append]; rfl
    | false =>
      rw [if_neg Bool.false_ne_true]
      refine ⟨?_, kp.trans k2⟩
      rw [e1, hb, if_neg Bool.false_ne_true, List.append_nil]
      exact hD2
  · obtain ⟨hD, kp⟩ := h
    rw [hr.len, List.take_length] at hD
    exact fin D H' nD hD kp
theorem rwSet {α : Type} {R : V → α → Prop} {us : List V} {gs : List α} (h : Rw R us gs) {v : V} {x : α} (i : Nat) (hv : R v x) : Rw R (us.set i v) (gs.set i x) := ⟨by simp [h.len], fun {j u} e => by
  rw [List.getElem?_set] at e ⊢
  by_cases z : i = j
  · rw [if_pos z] at e ⊢
    subst z
    split at e
    · rename_i l
      rw [if_pos (by rw [← h.len]; exact l)]
      cases e
      exact ⟨x, rfl, hv⟩
    · cases e
  · rw [if_neg z] at e ⊢
    exact h.get e⟩
theorem GoodRw.up {n n' : Nat} {ms : List Mv} (h : GoodRw n ms) (l : n ≤ n') : GoodRw n' ms := ⟨h.deed, fun m hm => ⟨(h.goal m hm).1, by have := (h.goal m hm).2; omega⟩, h.uniq, h.len⟩
section
variable {P : Program} {w : World} {K : PySem.W.Frag} {mg : Str → Option Value} {base : Heap} {t1 : Tok}
def spOther : Sp := fun vs H Q _ => ∃ (a mn : Addr) (c : Int) (rs us : List V) (rows : List (List Mv)) (ds : List Dd), vs = [.ref a, .ref mn, .int c] ∧ 0 ≤ c ∧ H a = some (.lst rs) ∧ Rw (RwAt H) rs rows ∧ 1 ≤ rows.length ∧ rows.length ≤ 20 ∧ (∀ r ∈ rows, GoodRw rows.length r ∧ r.length ≤ 50) ∧ H mn = some (.lst us) ∧ Rw (TDv H) us ds ∧ MenuOk ds ∧
  ∀ (l : Addr) (rs' : List V) (rows' : List (List Mv)) H', H l = none → H' l = some (.lst rs') → Rw (RwAt H') rs' rows' → rows.length ≤ rows'.length → rows'.length ≤ rows.length + 1 → (∀ r ∈ rows', GoodRw rows'.length r) → (∀ s s', SrRel rows s → SrRel rows' s' → s ≠ s') → Kp [] H H' → Q (.ref l) H'
theorem ok_law_other {f : Addr} {fd : FuncData} (D : Df K mg "_law_other" s_law_other ["_law_rows", "_law_menu_here", "_law_cell_here"] f fd) (T : BtG mg) {g1 : Addr} {gd1 : FuncData} (D_law_draws : Df K mg "_law_draws" s_law_draws ["_law_cell_here", "_law_spans"] g1 gd1) (G_law_draws : FnOk P w K mg base CX0 1 g1 gd1 ["_law_cell_here", "_law_spans"] (spDraws K))
    {gy : Addr} {gdy : FuncData} (D_law_copy : Df K mg "_law_copy" s_law_copy ["_law_rows"] gy gdy) (G_law_copy : FnOk P w K mg base CX0 1 gy gdy ["_law_rows"] spCopy) : FnOk P w K mg base CX0 2 f fd ["_law_rows", "_law_menu_here", "_law_cell_here"] spOther := by
  refine D.F.ok sc_law_other (fun vs H Q E h => ?_) (fun cdv A outer s H vs Q E hr h => ?_)
  · obtain ⟨_, _, _, _, _, _, _, rfl, _⟩ := h
    rfl
  · obtain ⟨a, mn, c, rs, us, rows, ds, rfl, c0, ha, hrs, l1, l2, hg, hmn, hus, hm, q⟩ := h
    refine ⟨_, (pss_cons (ps_set (i := 3) sc_law_other.nd rfl (Or.inl rfl) (pe_call G_law_draws (hr.mono (by decide)) rfl D_law_draws.g D_law_draws.F.kp D_law_draws.b .nil pass0 (pa_cons (pv 2) (pa_cons (pe_lst (pa_cons pe_int (pa_cons (pe_callB (id := "len") (r := Evl.rLenS K) call_len_seq (by rfl) T.b_len PySem.boot_len (pa_cons (pv 0) pa_nil)) (pa_cons (pe_callB (id := "len") (r := Evl.rLenS K) call_len_seq (by rfl) T.b_len PySem.boot_len (pa_cons (pv 1) pa_nil)) (pa_cons (pe_callB (id := "len") (r := Evl.rLenS K) call_len_seq (by rfl) T.b_len PySem.boot_len (pa_cons (pv 0) pa_nil)) pa_nil))))) pa_nil))))
      (pss_cons (ps_set (i := 4) sc_law_other.nd rfl (Or.inl rfl) (pe_call G_law_copy (hr.mono (by decide)) rfl D_law_copy.g D_law_copy.F.kp D_law_copy.b .nil pass0 (pa_cons (pv 0) pa_nil)))
      (pss_cons (ps_if (pt_cmpR op_eq (pe_ix (r := rIxL K) ix_list (pv 3) pe_int (fun _ _ => rfl)) pe_int (nomark _)) (pss_one (ps_ret (pe_op op_cat (pv 4) (pe_lst (pa_cons (pe_lst pa_nil) pa_nil))))) pss_nil)
      (pss_cons (ps_set (i := 5) sc_law_other.nd rfl (Or.inl rfl) (pe_ix (r := rIxL K) ix_list (pv 3) pe_int (fun _ _ => rfl)))
      (pss_cons (ps_set (i := 6) sc_law_other.nd rfl (Or.inr rfl) (pe_ix (r := rIxL K) ix_list (pv 1) (pe_ix (r := rIxL K) ix_list (pv 3) pe_int (fun _ _ => rfl)) (fun _ _ => rfl)))
      (pss_cons (ps_setLc (i := 7) (own := [("_law_move", 8)]) (g := (gName 8)) rfl sc_law_other.nd rfl rfl (sw_true rfl rfl rfl (by decide +kernel)) (pi_list (pe_ix (r := rIxL K) ix_list (pv 4) (pv 5) (fun _ _ => rfl))) (blkOk_by (N := ["_law_rows", "_law_menu_here", "_law_cell_here", "_law_draws_here", "_law_out", "_law_at", "_law_deed", "_law_had", "_law_move", "_law_left"]) (sc := defScope s_law_other) (by decide +kernel)) (fun _ _ _ _ _ => (pg_name (i := 8) sc_law_other.nd rfl (Or.inl rfl))) (fun _ _ _ _ _ => (pts_one (pt_cmpR (r := rEqD K) (op_eqD hr.units) (pe_ix (r := rIxT K) ix_tup (pv 8) pe_int (fun _ _ => rfl)) (pv 6) (nomark _)))) (fun _ _ _ _ _ => (pe_ix (r := rIxT K) ix_tup (pv 8) pe_int (fun _ _ => rfl))))
      (pss_cons (ps_setLc (i := 9) (own := [("_law_move", 8)]) (g := (gName 8)) rfl sc_law_other.nd rfl rfl (sw_true rfl rfl rfl (by decide +kernel)) (pi_list (pe_ix (r := rIxL K) ix_list (pv 4) (pv 5) (fun _ _ => rfl))) (blkOk_by (N := ["_law_rows", "_law_menu_here", "_law_cell_here", "_law_draws_here", "_law_out", "_law_at", "_law_deed", "_law_had", "_law_move", "_law_left"]) (sc := defScope s_law_other) (by decide +kernel)) (fun _ _ _ _ _ => (pg_name (i := 8) sc_law_other.nd rfl (Or.inl rfl))) (fun _ _ _ _ _ => (pts_one (pt_cmpR (r := rNeD K) (op_neD hr.units) (pe_ix (r := rIxT K) ix_tup (pv 8) pe_int (fun _ _ => rfl)) (pv 6) (nomark _)))) (fun _ _ _ _ _ => (pv 8)))
      (pss_cons (ps_if (PW.pt (pw_and (pt_cmpR op_gt (pe_callB (id := "len") (r := Evl.rLenS K) call_len_seq (by rfl) T.b_len PySem.boot_len (pa_cons (pv 7) pa_nil)) pe_int (nomark _)) (pw_and1 (PW.pt (pw_or (pt_cmpR op_eq (pe_ix (r := rIxL K) ix_list (pv 3) pe_int (fun _ _ => rfl)) pe_int (nomark _)) (pw_or1 (pt_cmpR op_eq (pe_callB (id := "len") (r := Evl.rLenS K) call_len_seq (by rfl) T.b_len PySem.boot_len (pa_cons (pv 0) pa_nil)) pe_int (nomark _)))))))) (pss_one (ps_asg (pv 9) (pg_sub (pv 4) (pv 5) set_list))) (pss_one (ps_if (pt_cmpR op_gt (pe_callB (id := "len") (r := Evl.rLenS K) call_len_seq (by rfl) T.b_len PySem.boot_len (pa_cons (pv 7) pa_nil)) pe_int (nomark _)) (pss_one (ps_asg (pe_op op_cat (pv 9) (pe_lst (pa_cons (pe_tup (pa_cons (pv 6) (pa_cons (pe_op op_mod (pe_callTy (T := "int") (r := rInt1) call_int1 (by rfl) T.b_int (by decide +kernel) (pa_cons (pe_op op_add (pe_ix (r := rIxL K) ix_list (pv 7) pe_int (fun _ _ => rfl)) pe_int) pa_nil)) (pe_callB (id := "len") (r := Evl.rLenS K) call_len_seq (by rfl) T.b_len PySem.boot_len (pa_cons (pv 0) pa_nil))) pa_nil))) pa_nil))) (pg_sub (pv 4) (pv 5) set_list))) (pss_one (ps_asg (pe_op op_cat (pv 9) (pe_lst (pa_cons (pe_tup (pa_cons (pv 6) (pa_cons (pe_ix (r := rIxL K) ix_list (pv 3) pe_int (fun _ _ => rfl)) pa_nil))) pa_nil))) (pg_sub (pv 4) (pv 5) set_list))))))
      (pss_one (ps_ret (pv 4))))))))))), ?_⟩
    try simp (maxSteps := 1000000) only [tSeq, tIfS, tTest, tOp, tUn, tCB, tCons, tNil, tVar, tC, rI0, rI, rU, rEq, rNe, tRet, tRetN, tAsg, gName, gSub, tBM, tBM0, tNext, tB, tNot, tAnd, tOr, tIf, tCall, tDrop, tBreak, tCont, L2.start, tDGet, sDPut, tTup, tLst, tDNewK, tRevL, rCat, rAppend, rPop, rSetL, tAndV, tOrV, tNotV, tSl, tPart, tNoPart, tM1, gTup, gCons, gNil, cxK, cxnK, List.map_cons, List.map_nil, List.length_cons, List.length_nil, List.replicate, List.cons_append, List.nil_append, List.append_nil, List.set_cons_zero, List.set_cons_succ, List.getElem?_cons_zero, List.getElem?_cons_succ, Option.some.injEq, V.ref.injEq, V.int.injEq, V.str.injEq, V.bl.injEq, V.ty.injEq, exists_eq_left', exists_eq_left, exists_and_left, List.cons.injEq, and_true, true_and, sc_ii, sc_ss, sc_bb, sc_ni, sc_in, sc_is, sc_si, sc_nn, decide_true, decide_false, reduceCtorEq, Bool.false_eq_true, if_true, if_false, ite_true, ite_false, exists_const, eq_self, false_and, and_false, or_false, false_or, exists_false, Evl.rLenS, rSum, wipe, tYes, exists_eq, exists_eq', rIxL, rIxT, rIxS, exists_and_right, gt_iff_lt, not_true_eq_false, not_false_eq_true, Bool.not_true, Bool.not_false, decide_eq_true_eq, Nat.reduceSub, Nat.reduceAdd, List.append_assoc, tChain, tDIn, tDNotIn, sDDel, tAug, ipI, rInt1_int, rInt1_bl]
    have lrs : rs.length = rows.length := hrs.len
    have lus : us.length = ds.length := hus.len
    have hlo := hm.lo
    have hhi := hm.hi
    refine ⟨_, .inl (sq_l ha), _, .inl (sq_l hmn), _, .inl (sq_l ha), by rw [sizeLine_eq]; decide, fun p np => ?_⟩
    rw [lrs, lus]
    have kp := (Kp.new np : Kp [] H (upd H p (.lst [.int 3, .int (rows.length : Nat), .int (ds.length : Nat), .int (rows.length : Nat)])))
    refine ⟨c, p, [3, (rows.length : Nat), (ds.length : Nat), (rows.length : Nat)], rfl, c0, sq_l upd_same, (show 4 ≤ 100 by decide), fun x hx => ?_, fun dr sh H2 n2 hsh dlen hdr k2 => ?_⟩
    · simp at hx
      omega
    obtain ⟨z0, z1, z2, z3, rfl⟩ : ∃ z0 z1 z2 z3, dr = [z0, z1, z2, z3] := by
      match dr, dlen with
      | [z0, z1, z2, z3], _ => exact ⟨z0, z1, z2, z3, rfl⟩
    have b1 := hdr 1 z1 _ rfl rfl
    have b2 := hdr 2 z2 _ rfl rfl
    have b3 := hdr 3 z3 _ rfl rfl
    have k02 := kp.trans k2
    refine ⟨a, rs, rows, rfl, k02 _ _ not0 ha, hrs.mono fun _ _ z => z.kd k02.kd, by omega, fun l rs' H3 nl hl hrs' k3 => ?_⟩
    have k03 := k02.trans k3
    have nlH : H l = none := k02.free0 nl
    have hsh3 := k3 _ _ not0 hsh
    have lrs' : rs'.length = rows.length := hrs'.len
    have hsl : sh ≠ l := fun z => by rw [← z, hsh] at nl; cases nl
    refine ⟨sh, rfl, _, sq_l hsh3, _, rfl, rfl, ite2 (fun h1 => ?_) (fun h1 => ?_)⟩
    · refine ⟨Nat.zero_le _, fun p1 np1 => ⟨by rw [sizeLine_eq]; decide, fun p2 np2 => ?_⟩⟩
      have ka := (Kp.new np1 : Kp [] H3 (upd H3 p1 (.lst [])))
      have hp1 : (upd H3 p1 (.lst [])) p1 = some (.lst []) := upd_same
      generalize upd H3 p1 (.lst []) = G1 at ka hp1 np2 ⊢
      have kb := (Kp.new np2 : Kp [] G1 (upd G1 p2 (.lst [.ref p1])))
      have hp2 : (upd G1 p2 (.lst [.ref p1])) p2 = some (.lst [.ref p1]) := upd_same
      generalize upd G1 p2 (.lst [.ref p1]) = G2 at kb hp2 ⊢
      have kab := ka.trans kb
      refine ⟨l, rfl, _, kab _ _ not0 hl, _, hp2, by rw [lrs', sizeLine_eq]; show _ + 1 ≤ _; omega, fun p3 np3 => ?_⟩
      have kc := (Kp.new np3 : Kp [] G2 (upd G2 p3 (.lst (rs' ++ [.ref p1]))))
      have kH := (k03.trans kab).trans kc
      refine q p3 (rs' ++ [.ref p1]) (rows ++ [[]]) _ ((k03.trans kab).free0 np3) upd_same (((hrs'.mono fun _ _ z => z.rw_).mono fun _ _ z => z.kd (kab.trans kc).kd).snoc ⟨p1, [], rfl, (kb.trans kc) _ _ not0 hp1, .nil⟩) (by rw [List.length_append]; omega) (by rw [List.length_append]; exact Nat.le_refl _) (fun r hr2 => ?_) (fun s s' e1 e2 e => ?_) kH
      · rw [List.length_append]
        rcases List.mem_append.mp hr2 with h | h
        · exact (hg r h).1.up (by omega)
        · rw [List.mem_singleton.mp h]
          exact ⟨fun m hm => (nomatch hm), fun m hm => (nomatch hm), List.nodup_nil, Nat.zero_le _⟩
      · have l1 := e1.len
        have l2 := e2.len
        rw [List.length_append, List.length_singleton] at l2
        rw [e] at l1
        omega
    have hat : z1.toNat < rows.length := by omega
    have er : rows[z1.toNat]? = some rows[z1.toNat] := List.getElem?_eq_getElem hat
    obtain ⟨gr, gl⟩ := hg rows[z1.toNat] (List.getElem_mem hat)
    generalize rows[z1.toNat] = ms at er gr gl
    obtain ⟨v0, ev0, r0, us0, rfl, nr0, hr0, hus0⟩ := hrs'.at er
    have ed : ds[z2.toNat]? = some (ds[z2.toNat]'(by omega)) := List.getElem?_eq_getElem _
    have gd := hm.good (ds[z2.toNat]'(by omega)) (List.getElem_mem _)
    generalize ds[z2.toNat]'(by omega) = d at ed gd
    obtain ⟨u, eu, t, rfl, ht⟩ := hus.at ed
    have ht3 : TD H3 t d := k03.tps _ _ ht
    have fin : ∀ (G : Hp) (lr : Addr) (vs' : List V) (r' : List Mv), Kp [] H3 G → G lr = some (.lst vs') → lr ≠ l → Rw (TM G) vs' r' → GoodRw rows.length r' → ¬ r'.Perm ms → Q (.ref l) (upd G l (.lst (rs'.set z1.toNat (.ref lr)))) := by
      intro G lr vs' r' kG hlr nlr hvs hgr np
      have hlG := kG _ _ not0 hl
      have kl : Kp [l] G (upd G l (.lst (rs'.set z1.toNat (.ref lr)))) := (Kp.refl [l] G).put (by simp)
      have hR : Rw (RwN l G) rs' rows := hrs'.mono fun _ _ z => z.kp0 kG
      have hR2 : Rw (RwN l (upd G l (.lst (rs'.set z1.toNat (.ref lr))))) (rs'.set z1.toNat (.ref lr)) (rows.set z1.toNat r') := rwSet (hR.mono fun _ _ z => z.kp hlG kl) _ (RwN.kp ⟨lr, vs', rfl, nlr, hlr, hvs⟩ hlG kl)
      refine q l _ (rows.set z1.toNat r') _ nlH upd_same (hR2.mono fun _ _ z => z.rw_) (by rw [List.length_set]; exact Nat.le_refl _) (by rw [List.length_set]; omega) (fun r hr2 => ?_) (fun s s' e1 e2 e => ?_) ((k03.trans kG).wr nlH)
      · rw [List.length_set]
        rcases List.mem_or_eq_of_mem_set hr2 with h | h
        · exact (hg r h).1
        · rw [h]; exact hgr
      · subst e
        obtain ⟨x, ex, hx⟩ := e1.at_ er
        obtain ⟨y, ey, hy⟩ := e2.at_ (i := z1.toNat) (r := r') (by rw [List.getElem?_set_self hat])
        rw [ex] at ey
        cases ey
        exact np (hy.1.symm.trans hx.1)
    refine ⟨sh, rfl, _, sq_l hsh3, _, rfl, sh, rfl, _, sq_l hsh3, _, rfl, _, z2, rfl, sq_l (k03 _ _ not0 hmn), _, atI_of b2.1 eu, ?_⟩
    refine lc_src ?_
    try simp (maxSteps := 1000000) only [tSeq, tIfS, tTest, tOp, tUn, tCB, tCons, tNil, tVar, tC, rI0, rI, rU, rEq, rNe, tRet, tRetN, tAsg, gName, gSub, tBM, tBM0, tNext, tB, tNot, tAnd, tOr, tIf, tCall, tDrop, tBreak, tCont, L2.start, tDGet, sDPut, tTup, tLst, tDNewK, tRevL, rCat, rAppend, rPop, rSetL, tAndV, tOrV, tNotV, tSl, tPart, tNoPart, tM1, gTup, gCons, gNil, cxK, cxnK, List.map_cons, List.map_nil, List.length_cons, List.length_nil, List.replicate, List.cons_append, List.nil_append, List.append_nil, List.set_cons_zero, List.set_cons_succ, List.getElem?_cons_zero, List.getElem?_cons_succ, Option.some.injEq, V.ref.injEq, V.int.injEq, V.str.injEq, V.bl.injEq, V.ty.injEq, exists_eq_left', exists_eq_left, exists_and_left, List.cons.injEq, and_true, true_and, sc_ii, sc_ss, sc_bb, sc_ni, sc_in, sc_is, sc_si, sc_nn, decide_true, decide_false, reduceCtorEq, Bool.false_eq_true, if_true, if_false, ite_true, ite_false, exists_const, eq_self, false_and, and_false, or_false, false_or, exists_false, Evl.rLenS, rSum, wipe, tYes, exists_eq, exists_eq', rIxL, rIxT, rIxS, exists_and_right, gt_iff_lt, not_true_eq_false, not_false_eq_true, Bool.not_true, Bool.not_false, decide_eq_true_eq, Nat.reduceSub, Nat.reduceAdd, List.append_assoc, tChain, tDIn, tDNotIn, sDDel, tAug, ipI, rInt1_int, rInt1_bl]
    refine ⟨_, sq_l hl, _, atI_of b1.1 ev0, ?_⟩
    have gl1 : ms.length ≤ 1000 := by omega
    have test : ∀ (v : V) (m : Mv) H' (neg : Bool) (R' : V → Hp → Prop), m ∈ ms → TM H' v m → Kp [] H3 H' → R' (.bl (if neg then !decide (m.1 = d) else decide (m.1 = d))) H' → ∃ (am tm : Addr), v = .ref am ∧ H' am = some (.tup [.ref tm, .int m.2]) ∧ Dp K H' (.ref tm) (ddD m.1) ∧ Dp K H' (.ref t) (ddD d) ∧ SeqAt.shaped (ddD m.1) = true ∧ SeqAt.shaped (ddD d) = true ∧ PyData.eqv (ddD m.1) (ddD d) = decide (m.1 = d) := by
      intro v m H' neg R' hm2 ⟨am, tm, e, ham, htm⟩ k _
      exact ⟨am, tm, e, ham, TDv.dp ⟨tm, rfl, htm⟩, TDv.dp ⟨t, rfl, k.tps _ _ ht3⟩, (shDd (gr.deed m hm2)).1, (shDd gd).1, eqvDd _ _⟩
    refine lcFiltM (R := TM) (fun _ _ _ _ t h => TM.tp h t) (fun m => decide (m.1 = d)) (fun m => V.int m.2) (fun R r => r) (sq_l hr0) hus0 gl1 (show 8 < 10 by decide) (fun v m H' R' hm2 hv k' r => ?_) (fun v m H' R' hm2 hv k' r => ?_) fun hd H4 nhd hhd k4 => ?_
    · obtain ⟨am, tm, rfl, ham, d1, d2, s1, s2, e⟩ := test v m H' false (fun _ _ => True) hm2 hv k' trivial
      try simp (maxSteps := 1000000) only [tSeq, tIfS, tTest, tOp, tUn, tCB, tCons, tNil, tVar, tC, rI0, rI, rU, rEq, rNe, tRet, tRetN, tAsg, gName, gSub, tBM, tBM0, tNext, tB, tNot, tAnd, tOr, tIf, tCall, tDrop, tBreak, tCont, L2.start, tDGet, sDPut, tTup, tLst, tDNewK, tRevL, rCat, rAppend, rPop, rSetL, tAndV, tOrV, tNotV, tSl, tPart, tNoPart, tM1, gTup, gCons, gNil, cxK, cxnK, List.map_cons, List.map_nil, List.length_cons, List.length_nil, List.replicate, List.cons_append, List.nil_append, List.append_nil, List.set_cons_zero, List.set_cons_succ, List.getElem?_cons_zero, List.getElem?_cons_succ, Option.some.injEq, V.ref.injEq, V.int.injEq, V.str.injEq, V.bl.injEq, V.ty.injEq, exists_eq_left', exists_eq_left, exists_and_left, List.cons.injEq, and_true, true_and, sc_ii, sc_ss, sc_bb, sc_ni, sc_in, sc_is, sc_si, sc_nn, decide_true, decide_false, reduceCtorEq, Bool.false_eq_true, if_true, if_false, ite_true, ite_false, exists_const, eq_self, false_and, and_false, or_false, false_or, exists_false, Evl.rLenS, rSum, wipe, tYes, exists_eq, exists_eq', rIxL, rIxT, rIxS, exists_and_right, gt_iff_lt, not_true_eq_false, not_false_eq_true, Bool.not_true, Bool.not_false, decide_eq_true_eq, Nat.reduceSub, Nat.reduceAdd, List.append_assoc, tChain, tDIn, tDNotIn, sDDel, tAug, ipI, rInt1_int, rInt1_bl]
      refine ⟨_, sq_t ham, _, rfl, ddD m.1, ddD d, d1, d2, s1, s2, _, rfl, ?_⟩
      rw [e]
      exact r _ (Kp.refl _ _)
    · obtain ⟨am, tm, rfl, ham, htm⟩ := hv
      try simp (maxSteps := 1000000) only [tSeq, tIfS, tTest, tOp, tUn, tCB, tCons, tNil, tVar, tC, rI0, rI, rU, rEq, rNe, tRet, tRetN, tAsg, gName, gSub, tBM, tBM0, tNext, tB, tNot, tAnd, tOr, tIf, tCall, tDrop, tBreak, tCont, L2.start, tDGet, sDPut, tTup, tLst, tDNewK, tRevL, rCat, rAppend, rPop, rSetL, tAndV, tOrV, tNotV, tSl, tPart, tNoPart, tM1, gTup, gCons, gNil, cxK, cxnK, List.map_cons, List.map_nil, List.length_cons, List.length_nil, List.replicate, List.cons_append, List.nil_append, List.append_nil, List.set_cons_zero, List.set_cons_succ, List.getElem?_cons_zero, List.getElem?_cons_succ, Option.some.injEq, V.ref.injEq, V.int.injEq, V.str.injEq, V.bl.injEq, V.ty.injEq, exists_eq_left', exists_eq_left, exists_and_left, List.cons.injEq, and_true, true_and, sc_ii, sc_ss, sc_bb, sc_ni, sc_in, sc_is, sc_si, sc_nn, decide_true, decide_false, reduceCtorEq, Bool.false_eq_true, if_true, if_false, ite_true, ite_false, exists_const, eq_self, false_and, and_false, or_false, false_or, exists_false, Evl.rLenS, rSum, wipe, tYes, exists_eq, exists_eq', rIxL, rIxT, rIxS, exists_and_right, gt_iff_lt, not_true_eq_false, not_false_eq_true, Bool.not_true, Bool.not_false, decide_eq_true_eq, Nat.reduceSub, Nat.reduceAdd, List.append_assoc, tChain, tDIn, tDNotIn, sDDel, tAug, ipI, rInt1_int, rInt1_bl]
      exact ⟨_, sq_t ham, _, rfl, r⟩
    refine lc_src ?_
    try simp (maxSteps := 1000000) only [tSeq, tIfS, tTest, tOp, tUn, tCB, tCons, tNil, tVar, tC, rI0, rI, rU, rEq, rNe, tRet, tRetN, tAsg, gName, gSub, tBM, tBM0, tNext, tB, tNot, tAnd, tOr, tIf, tCall, tDrop, tBreak, tCont, L2.start, tDGet, sDPut, tTup, tLst, tDNewK, tRevL, rCat, rAppend, rPop, rSetL, tAndV, tOrV, tNotV, tSl, tPart, tNoPart, tM1, gTup, gCons, gNil, cxK, cxnK, List.map_cons, List.map_nil, List.length_cons, List.length_nil, List.replicate, List.cons_append, List.nil_append, List.append_nil, List.set_cons_zero, List.set_cons_succ, List.getElem?_cons_zero, List.getElem?_cons_succ, Option.some.injEq, V.ref.injEq, V.int.injEq, V.str.injEq, V.bl.injEq, V.ty.injEq, exists_eq_left', exists_eq_left, exists_and_left, List.cons.injEq, and_true, true_and, sc_ii, sc_ss, sc_bb, sc_ni, sc_in, sc_is, sc_si, sc_nn, decide_true, decide_false, reduceCtorEq, Bool.false_eq_true, if_true, if_false, ite_true, ite_false, exists_const, eq_self, false_and, and_false, or_false, false_or, exists_false, Evl.rLenS, rSum, wipe, tYes, exists_eq, exists_eq', rIxL, rIxT, rIxS, exists_and_right, gt_iff_lt, not_true_eq_false, not_false_eq_true, Bool.not_true, Bool.not_false, decide_eq_true_eq, Nat.reduceSub, Nat.reduceAdd, List.append_assoc, tChain, tDIn, tDNotIn, sDDel, tAug, ipI, rInt1_int, rInt1_bl]
    refine ⟨_, sq_l (k4 _ _ not0 hl), _, atI_of b1.1 ev0, ?_⟩
    refine lcFiltL (R := TM) (fun _ _ _ _ t h => TM.tp h t) (fun m => !decide (m.1 = d)) (fun R r => r) (sq_l (k4 _ _ not0 hr0)) (hus0.mono fun _ _ z => z.tp k4.tps) gl1 (show 8 < 10 by decide) (fun v m H' R' hm2 hv k' r => ?_) fun lf wsl H5 nlf hlf hwl k5 => ?_
    · obtain ⟨am, tm, rfl, ham, d1, d2, s1, s2, e⟩ := test v m H' true (fun _ _ => True) hm2 hv (k4.trans k') trivial
      try simp (maxSteps := 1000000) only [tSeq, tIfS, tTest, tOp, tUn, tCB, tCons, tNil, tVar, tC, rI0, rI, rU, rEq, rNe, tRet, tRetN, tAsg, gName, gSub, tBM, tBM0, tNext, tB, tNot, tAnd, tOr, tIf, tCall, tDrop, tBreak, tCont, L2.start, tDGet, sDPut, tTup, tLst, tDNewK, tRevL, rCat, rAppend, rPop, rSetL, tAndV, tOrV, tNotV, tSl, tPart, tNoPart, tM1, gTup, gCons, gNil, cxK, cxnK, List.map_cons, List.map_nil, List.length_cons, List.length_nil, List.replicate, List.cons_append, List.nil_append, List.append_nil, List.set_cons_zero, List.set_cons_succ, List.getElem?_cons_zero, List.getElem?_cons_succ, Option.some.injEq, V.ref.injEq, V.int.injEq, V.str.injEq, V.bl.injEq, V.ty.injEq, exists_eq_left', exists_eq_left, exists_and_left, List.cons.injEq, and_true, true_and, sc_ii, sc_ss, sc_bb, sc_ni, sc_in, sc_is, sc_si, sc_nn, decide_true, decide_false, reduceCtorEq, Bool.false_eq_true, if_true, if_false, ite_true, ite_false, exists_const, eq_self, false_and, and_false, or_false, false_or, exists_false, Evl.rLenS, rSum, wipe, tYes, exists_eq, exists_eq', rIxL, rIxT, rIxS, exists_and_right, gt_iff_lt, not_true_eq_false, not_false_eq_true, Bool.not_true, Bool.not_false, decide_eq_true_eq, Nat.reduceSub, Nat.reduceAdd, List.append_assoc, tChain, tDIn, tDNotIn, sDDel, tAug, ipI, rInt1_int, rInt1_bl]
      refine ⟨_, sq_t ham, _, rfl, ddD m.1, ddD d, d1, d2, s1, s2, _, rfl, ?_⟩
      rw [e]
      exact r _ (Kp.refl _ _)
    have k35 := k4.trans k5
    have hhd5 := k5 _ _ not0 hhd
    have hsh5 := k35 _ _ not0 hsh3
    have ha5 := (k03.trans k35) _ _ not0 ha
    have hl5 := k35 _ _ not0 hl
    have lfl : lf ≠ l := fun z => by rw [z, k4 _ _ not0 hl] at nlf; cases nlf
    have gleft : GoodRw rows.length (ms.filter fun m => !decide (m.1 = d)) := ⟨fun m hm => gr.deed m (List.mem_filter.mp hm).1, fun m hm => gr.goal m (List.mem_filter.mp hm).1, gr.uniq.sublist (List.filter_sublist.map _), by have := List.length_filter_le (fun m : Mv => !decide (m.1 = d)) ms; have := gr.len; omega⟩
    have noleft : ∀ m ∈ (ms.filter fun m => !decide (m.1 = d)), m.1 ≠ d := fun m hm => by
      have := (List.mem_filter.mp hm).2
      simpa using this
    have lleft : (ms.filter fun m => !decide (m.1 = d)).length ≤ 50 := Nat.le_trans (List.length_filter_le _ _) gl
    generalize hleft : (ms.filter fun m => !decide (m.1 = d)) = left at hwl gleft noleft lleft
    have lls : wsl.length = left.length := hwl.len
    have goodApp : ∀ g : Int, (0 ≤ g ∧ g < rows.length) → GoodRw rows.length (left ++ [(d, g)]) := fun g hg2 => ⟨fun m hm => by
      rcases List.mem_append.mp hm with h | h
      · exact gleft.deed m h
      · rw [List.mem_singleton.mp h]; exact gd, fun m hm => by
      rcases List.mem_append.mp hm with h | h
      · exact gleft.goal m h
      · rw [List.mem_singleton.mp h]; exact hg2, by
      rw [List.map_append, List.nodup_append]
      refine ⟨gleft.uniq, by simp, fun x hx y hy => ?_⟩
      obtain ⟨m, hm, rfl⟩ := List.mem_map.mp hx
      rw [show y = d by simpa using hy]
      exact noleft m hm, by rw [List.length_append, List.length_singleton]; omega⟩
    have hadmem : ∀ m ∈ ms, m.1 = d → m ∈ (ms.filter fun m => decide (m.1 = d)) := fun m hm e => List.mem_filter.mpr ⟨hm, decide_eq_true e⟩
    refine ⟨_, .inl (sq_l hhd5), ?_⟩
    cases eh : (ms.filter fun m => decide (m.1 = d)) with
    | nil =>
      rw [eh] at hhd5
      rw [if_neg (by simp)]
      refine ⟨_, .inl (sq_l hhd5), ?_⟩
      rw [if_neg (by simp)]
      refine ⟨_, sq_l hsh5, _, rfl, ?_⟩
      refine ⟨by rw [sizeLine_eq]; decide, fun p1 np1 => ⟨by rw [sizeLine_eq]; decide, fun p2 np2 => ?_⟩⟩
      have ka := (Kp.new np1 : Kp [] H5 (upd H5 p1 (.tup [.ref t, .int z3])))
      have hp1 : (upd H5 p1 (.tup [.ref t, .int z3])) p1 = some (.tup [.ref t, .int z3]) := upd_same
      generalize upd H5 p1 (.tup [.ref t, .int z3]) = G1 at ka hp1 np2 ⊢
      have kb := (Kp.new np2 : Kp [] G1 (upd G1 p2 (.lst [.ref p1])))
      have hp2 : (upd G1 p2 (.lst [.ref p1])) p2 = some (.lst [.ref p1]) := upd_same
      generalize upd G1 p2 (.lst [.ref p1]) = G2 at kb hp2 ⊢
      have kab := ka.trans kb
      refine ⟨lf, rfl, _, kab _ _ not0 hlf, _, hp2, by rw [lls, sizeLine_eq]; show _ + 1 ≤ _; omega, fun p3 np3 => ?_⟩
      have kc := (Kp.new np3 : Kp [] G2 (upd G2 p3 (.lst (wsl ++ [.ref p1]))))
      have hp3 : (upd G2 p3 (.lst (wsl ++ [.ref p1]))) p3 = some (.lst (wsl ++ [.ref p1])) := upd_same
      generalize upd G2 p3 (.lst (wsl ++ [.ref p1])) = G3 at kc hp3 ⊢
      have kk := kab.trans kc
      have p3l : p3 ≠ l := fun z => by rw [z, (k35.trans kab) _ _ not0 hl] at np3; cases np3
      refine ⟨rs', (k35.trans kk) _ _ not0 hl, z1.toNat, by rw [ixN_of b1.1 (by omega)], ?_⟩
      refine fin G3 p3 (wsl ++ [.ref p1]) (left ++ [(d, z3)]) (k35.trans kk) hp3 p3l ((hwl.mono fun _ _ z => z.tp kk.tps).snoc ⟨p1, t, rfl, (kb.trans kc) _ _ not0 hp1, (k35.trans kk).tps _ _ ht3⟩) (goodApp _ b3) (fun pm => ?_)
      have := pm.mem_iff.mp (show (d, z3) ∈ left ++ [(d, z3)] by simp)
      have := hadmem _ this rfl
      rw [eh] at this
      nomatch this
    | cons m0 rest =>
      have hm0 : m0 ∈ ms.filter fun m => decide (m.1 = d) := by rw [eh]; simp
      obtain ⟨hm0, ed0⟩ := List.mem_filter.mp hm0
      have ed0 : m0.1 = d := of_decide_eq_true ed0
      rw [eh] at hhd5
      rw [if_pos (by rw [List.length_map, List.length_cons]; omega)]
      have np1' : ¬ left.Perm ms := fun pm => noleft m0 (pm.mem_iff.mpr hm0) ed0
      refine ⟨_, sq_l hsh5, _, rfl, rfl, ite2 (fun h2 => ?_) (fun h2 => ?_)⟩
      · exact ⟨rs', hl5, z1.toNat, by rw [ixN_of b1.1 (by omega)], fin H5 lf wsl left k35 hlf lfl hwl gleft np1'⟩
      · refine ⟨_, .inl (sq_l ha5), ite2 (fun h3 => ?_) (fun h3 => ?_)⟩
        · exact ⟨rs', hl5, z1.toNat, by rw [ixN_of b1.1 (by omega)], fin H5 lf wsl left k35 hlf lfl hwl gleft np1'⟩
        · refine ⟨_, .inl (sq_l hhd5), ?_⟩
          rw [if_pos (by rw [List.length_map, List.length_cons]; omega)]
          refine ⟨_, sq_l hhd5, V.int m0.2, atI_of (by decide) rfl, m0.2, rfl, _, .inl (sq_l ha5), by omega, ?_⟩
          obtain ⟨g00, g01⟩ := gr.goal m0 hm0
          have hgp : 0 ≤ (m0.2 + 1) % (rs.length : Nat) ∧ (m0.2 + 1) % (rs.length : Nat) < rows.length := ⟨Int.emod_nonneg _ (by omega), by rw [← lrs]; exact Int.emod_lt_of_pos _ (by omega)⟩
          refine ⟨by rw [sizeLine_eq]; decide, fun p1 np1 => ⟨by rw [sizeLine_eq]; decide, fun p2 np2 => ?_⟩⟩
          have ka := (Kp.new np1 : Kp [] H5 (upd H5 p1 (.tup [.ref t, .int ((m0.2 + 1) % (rs.length : Nat))])))
          have hp1 : (upd H5 p1 (.tup [.ref t, .int ((m0.2 + 1) % (rs.length : Nat))])) p1 = some (.tup [.ref t, .int ((m0.2 + 1) % (rs.length : Nat))]) := upd_same
          generalize upd H5 p1 (.tup [.ref t, .int ((m0.2 + 1) % (rs.length : Nat))]) = G1 at ka hp1 np2 ⊢
          have kb := (Kp.new np2 : Kp [] G1 (upd G1 p2 (.lst [.ref p1])))
          have hp2 : (upd G1 p2 (.lst [.ref p1])) p2 = some (.lst [.ref p1]) := upd_same
          generalize upd G1 p2 (.lst [.ref p1]) = G2 at kb hp2 ⊢
          have kab := ka.trans kb
          refine ⟨lf, rfl, _, kab _ _ not0 hlf, _, hp2, by rw [lls, sizeLine_eq]; show _ + 1 ≤ _; omega, fun p3 np3 => ?_⟩
          have kc := (Kp.new np3 : Kp [] G2 (upd G2 p3 (.lst (wsl ++ [.ref p1]))))
          have hp3 : (upd G2 p3 (.lst (wsl ++ [.ref p1]))) p3 = some (.lst (wsl ++ [.ref p1])) := upd_same
          generalize upd G2 p3 (.lst (wsl ++ [.ref p1])) = G3 at kc hp3 ⊢
          have kk := kab.trans kc
          have p3l : p3 ≠ l := fun z => by rw [z, (k35.trans kab) _ _ not0 hl] at np3; cases np3
          refine ⟨rs', (k35.trans kk) _ _ not0 hl, z1.toNat, by rw [ixN_of b1.1 (by omega)], ?_⟩
          refine fin G3 p3 (wsl ++ [.ref p1]) (left ++ [(d, ((m0.2 + 1) % (rs.length : Nat)))]) (k35.trans kk) hp3 p3l ((hwl.mono fun _ _ z => z.tp kk.tps).snoc ⟨p1, t, rfl, (kb.trans kc) _ _ not0 hp1, (k35.trans kk).tps _ _ ht3⟩) (goodApp _ hgp) (fun pm => ?_)
          have hmem : m0 ∈ left ++ [(d, (m0.2 + 1) % (rs.length : Nat))] := pm.mem_iff.mpr hm0
          rcases List.mem_append.mp hmem with h | h
          · exact noleft m0 h ed0
          · have e2 : m0.2 = (m0.2 + 1) % (rs.length : Nat) := congrArg Prod.snd (List.mem_singleton.mp h)
            by_cases hl2 : m0.2 + 1 < (rs.length : Nat)
            · rw [Int.emod_eq_of_lt (by omega) hl2] at e2; omega
            · have e3 : m0.2 + 1 = (rs.length : Nat) := by omega
              rw [e3, Int.emod_self] at e2
              omega
end
end My

set_option Elab.async false
set_option linter.all false
set_option maxRecDepth 100000
set_option maxHeartbeats 4000000
/-! ### displays of data: what an expression gives, read off its form -/
namespace My
open PySem L2
/-- te gives a value of the data d, and what stood stands -/
def DE (te : TE) (σ : L2.St) (H0 : Hp) (d : PyData) : Prop := ∀ H1, Kp [] H0 H1 → ∀ Q : VK, (∀ v H2, Kp [] H1 H2 → Dq H2 v d → Q v H2) → te σ H1 Q
def DA (ta : TA) (σ : L2.St) (H0 : Hp) (ds : List PyData) : Prop := ∀ H1, Kp [] H0 H1 → ∀ Q : List V → Hp → Prop, (∀ vs H2, Kp [] H1 H2 → DqAll H2 vs ds → Q vs H2) → ta σ H1 Q
section
variable {σ : L2.St} {H0 : Hp} {te tf : TE} {ta : TA} {d : PyData} {ds es : List PyData}
theorem de_int {i : Int} : DE (tC (.int i)) σ H0 (.int i) := fun H1 _ Q h => h _ _ (Kp.refl _ _) (.int i)
theorem de_str {z : Str} : DE (tC (.str z)) σ H0 (.str z) := fun H1 _ Q h => h _ _ (Kp.refl _ _) (.str z)
theorem de_bl {b : Bool} : DE (tC (.bl b)) σ H0 (.bool b) := fun H1 _ Q h => h _ _ (Kp.refl _ _) (.bl b)
theorem de_non : DE (tC .non) σ H0 .none := fun H1 _ Q h => h _ _ (Kp.refl _ _) .non
theorem de_neg {i : Int} : DE (tUn (rU fun i => V.int (-i)) (tC (.int i))) σ H0 (.int (-i)) := fun H1 _ Q h => ⟨i, rfl, h _ _ (Kp.refl _ _) (.int _)⟩
theorem de_var {i : Nat} {v : V} (e : σ[i]? = some (some v)) (hd : Dq H0 v d) : DE (tVar i) σ H0 d := fun H1 k Q h => ⟨v, e, h _ _ (Kp.refl _ _) (Dq.kp k hd)⟩
theorem da_nil : DA tNil σ H0 [] := fun H1 _ Q h => h _ _ (Kp.refl _ _) .nil
theorem da_cons (a : DE te σ H0 d) (b : DA ta σ H0 ds) : DA (tCons te ta) σ H0 (d :: ds) := fun H1 k Q h => a H1 k _ fun v H2 k2 hv => b H2 (k.trans k2) _ fun vs H3 k3 hvs => h _ _ (k2.trans k3) (.cons (Dq.kp k3 hv) hvs)
theorem de_tup (a : DA ta σ H0 ds) (l : ds.length ≤ 1000 := by decide) : DE (tTup ta) σ H0 (.tuple ds) := fun H1 k Q h => a H1 k _ fun vs H2 k2 hvs => ⟨by rw [hvs.len, sizeLine_eq]; omega, fun p np => h _ _ (k2.trans (Kp.new np)) (.tup upd_same (DqAll.kp (Kp.new np) hvs))⟩
theorem de_lst (a : DA ta σ H0 ds) (l : ds.length ≤ 1000 := by decide) : DE (tLst ta) σ H0 (.list ds) := fun H1 k Q h => a H1 k _ fun vs H2 k2 hvs => ⟨by rw [hvs.len, sizeLine_eq]; omega, fun p np => h _ _ (k2.trans (Kp.new np)) (.lst upd_same (DqAll.kp (Kp.new np) hvs))⟩
/-- list + list -/
theorem de_cat (a : DE te σ H0 (.list ds)) (b : DE tf σ H0 (.list es)) (l : ds.length ≤ 1000) (l2 : es.length ≤ 1000) : DE (tOp rCat te tf) σ H0 (.list (ds ++ es)) := fun H1 k Q h => a H1 k _ fun v H2 k2 hv => b H2 (k.trans k2) _ fun u H3 k3 hu => by
  have hv3 := Dq.kp k3 hv
  cases hv3 with
  | @lst p xs _ e1 h1 =>
    cases hu with
    | @lst q ys _ e2 h2 =>
      refine ⟨p, q, xs, ys, rfl, rfl, e1, e2, by rw [h1.len, h2.len, sizeLine_eq]; omega, fun r nr => h _ _ ((k2.trans k3).trans (Kp.new nr)) (.lst upd_same ?_)⟩
      have app : ∀ {as bs : List PyData} {us vs : List V}, DqAll H3 us as → DqAll H3 vs bs → DqAll H3 (us ++ vs) (as ++ bs) := by
        intro as
        induction as with
        | nil => intro bs us vs h h'; cases h; exact h'
        | cons a as ih => intro bs us vs h h'; cases h with
          | cons x t => exact .cons x (ih t h')
      exact DqAll.kp (Kp.new nr) (app h1 h2)
/-- t[j], t a name of a tuple -/
theorem de_ix {K : PySem.W.Frag} {i : Nat} {j : Nat} {t : Addr} {xs : List V} {x : V} (e : σ[i]? = some (some (.ref t))) (ht : H0 t = some (.tup xs)) (ej : xs[j]? = some x) (hd : Dq H0 x d) : DE (tOp (rIxT K) (tVar i) (tC (.int (j : Nat)))) σ H0 d := fun H1 k Q h =>
  ⟨.ref t, e, t, xs, (j : Nat), x, rfl, rfl, sq_t (k _ _ not0 ht), atI_nat ej, h _ _ (Kp.refl _ _) (Dq.kp k hd)⟩
/-- tuple + tuple, neither empty -/
theorem de_catA {K : PySem.W.Frag} (a : DE te σ H0 (.tuple ds)) (b : DE tf σ H0 (.tuple es)) (l : ds.length ≤ 1000) (l2 : es.length ≤ 1000) (n1 : ds ≠ []) (n2 : es ≠ []) : DE (tOp (rCatA K) te tf) σ H0 (.tuple (ds ++ es)) := fun H1 k Q h => a H1 k _ fun v H2 k2 hv => b H2 (k.trans k2) _ fun u H3 k3 hu => by
  have hv3 := Dq.kp k3 hv
  cases hv3 with
  | @tup p xs _ e1 h1 =>
    cases hu with
    | @tup q ys _ e2 h2 =>
      have m1 : xs ≠ [] := fun z => by have := h1.len; rw [z] at this; exact n1 (List.eq_nil_of_length_eq_zero this.symm)
      have m2 : ys ≠ [] := fun z => by have := h2.len; rw [z] at this; exact n2 (List.eq_nil_of_length_eq_zero this.symm)
      refine ⟨p, q, xs, ys, rfl, rfl, sq_t e1, sq_t e2, by rw [h1.len, h2.len, sizeLine_eq]; omega, fun z => absurd z m1, fun _ z => absurd z m2, fun _ _ r nr => h _ _ ((k2.trans k3).trans (Kp.new nr)) (.tup upd_same ?_)⟩
      have app : ∀ {as bs : List PyData} {us vs : List V}, DqAll H3 us as → DqAll H3 vs bs → DqAll H3 (us ++ vs) (as ++ bs) := by
        intro as
        induction as with
        | nil => intro bs us vs h h'; cases h; exact h'
        | cons a as ih => intro bs us vs h h'; cases h with
          | cons x t => exact .cons x (ih t h')
      exact DqAll.kp (Kp.new nr) (app h1 h2)
/-- list(t), t a name of a tuple -/
theorem de_list {K : PySem.W.Frag} (a : DE te σ H0 (.tuple ds)) : DE (tCB (fun xs H Q => ∃ p ys, xs = [V.ref p] ∧ (SqL K H p ys ∨ SqT K H p ys) ∧ ∀ (l : Addr), H l = none → Q (V.ref l) (upd H l (HO.lst ys))) (tCons te tNil)) σ H0 (.list ds) := fun H1 k Q h => a H1 k _ fun v H2 k2 hv => by
  cases hv with
  | @tup p xs _ e1 h1 => exact ⟨p, xs, rfl, .inr (sq_t e1), fun l nl => h _ _ (k2.trans (Kp.new nl)) (.lst upd_same (DqAll.kp (Kp.new nl) h1))⟩
end
end My

set_option Elab.async false
set_option linter.all false
set_option maxRecDepth 100000
set_option maxHeartbeats 4000000
/-! ### slices and sums of any tuples, as their callers read them -/
namespace My
open PySem L2
theorem cut_to (xs : List V) (k : Nat) : cutV xs none (some (k : Int)) = xs.take k := by
  unfold cutV
  rw [HT.sIx_none, HT.sIx_nat, List.drop_zero, Nat.sub_zero]
  by_cases h : k ≤ xs.length
  · rw [Nat.min_eq_left h]
  · rw [Nat.min_eq_right (by omega), List.take_length, List.take_of_length_le (by omega)]
theorem cut_from (xs : List V) (k : Nat) : cutV xs (some (k : Int)) none = xs.drop k := by
  unfold cutV
  rw [HT.sIx_none, HT.sIx_nat]
  by_cases h : k ≤ xs.length
  · rw [Nat.min_eq_left h, List.take_of_length_le (by rw [List.length_drop]; omega)]
  · rw [Nat.min_eq_right (by omega), List.drop_length, List.drop_of_length_le (by omega), List.take_nil]
section
variable {K : PySem.W.Frag} {H : Hp} {a b : Addr} {xs ys : List V} {Q : VK} {k : Nat} {i : Int}
theorem slA_to (e : i = (k : Nat)) (h : H a = some (.tup xs)) (q : ∀ r H', H' r = some (.tup (xs.take k)) → Kp [] H H' → Q (.ref r) H') : rSlA K (.ref a) none (some i) H Q := by
  subst e
  refine ⟨a, xs, rfl, sq_t h, fun z => q a H ?_ (Kp.refl _ _), fun _ p np => q p _ (by rw [upd_same, cut_to]) (Kp.new np)⟩
  have z2 := z.2
  rw [HT.sIx_nat] at z2
  rw [h, List.take_of_length_le (by omega)]
theorem slA_from (e : i = (k : Nat)) (h : H a = some (.tup xs)) (q : ∀ r H', H' r = some (.tup (xs.drop k)) → Kp [] H H' → Q (.ref r) H') : rSlA K (.ref a) (some i) none H Q := by
  subst e
  refine ⟨a, xs, rfl, sq_t h, fun z => q a H ?_ (Kp.refl _ _), fun _ p np => q p _ (by rw [upd_same, cut_from]) (Kp.new np)⟩
  have z1 := z.1
  rw [HT.sIx_nat] at z1
  by_cases h0 : k = 0
  · rw [h, h0]; rfl
  · have : xs = [] := List.eq_nil_of_length_eq_zero (by omega)
    rw [h, this, List.drop_nil]
theorem catA_use (ha : H a = some (.tup xs)) (hb : H b = some (.tup ys)) (hl : xs.length + ys.length ≤ 1000) (q : ∀ r H', H' r = some (.tup (xs ++ ys)) → Kp [] H H' → Q (.ref r) H') : rCatA K (.ref a) (.ref b) H Q := by
  refine ⟨a, b, xs, ys, rfl, rfl, sq_t ha, sq_t hb, small (by omega), fun e => q b H ?_ (Kp.refl _ _), fun _ e => q a H ?_ (Kp.refl _ _), fun _ _ p np => q p _ upd_same (Kp.new np)⟩
  · rw [hb, e]; rfl
  · rw [ha, e, List.append_nil]
end
end My

set_option Elab.async false
set_option linter.all false
set_option maxRecDepth 100000
set_option maxHeartbeats 4000000
namespace My
open PySem L2 NdefX
abbrev s_law_odd : Stmt := top 35
theorem sc_law_odd : FnScope ["_law_good", "_law_size", "_law_width", "_law_kind", "_law_far", "_law_odd_here", "_law_due"] ["_law_good", "_law_size", "_law_width", "_law_kind", "_law_far"] (defScope s_law_odd) := ⟨rfl, rfl, rfl, by decide +kernel, rfl, by decide +kernel, by decide +kernel⟩
abbrev s_law_bad_pairs : Stmt := top 36
theorem sc_law_bad_pairs : FnScope ["_law_low", "_law_high", "_law_pairs", "_law_cell_here", "_law_size", "_law_width", "_law_draws_here", "_law_odd_here", "_law_place", "_law_bad"] ["_law_low", "_law_high", "_law_pairs", "_law_cell_here"] (defScope s_law_bad_pairs) := ⟨rfl, rfl, rfl, by decide +kernel, rfl, by decide +kernel, by decide +kernel⟩
def oddS (g : Pr) (n m z : Int) : List (Sc × Sc) := [(.inl (n + z), .inl g.2), (.inl g.1, .inl (m + z)), (.inl (-1 - z), .inl g.2), (.inl g.1, .inl (-1 - z)), (.inl (n + z), .inl (-1 - z)), (.inl (-1 - z), .inl (m + z)), (.inr true, .inl g.2), (.inl g.1, .inr false), (.inr false, .inr true)]
def dueS (n m z : Int) : List Sc := [.inl (n + z), .inl (m + z), .inl (-1 - z), .inl (-1 - z), .inl (n + z), .inl (-1 - z), .inr true, .inr false, .inr false]
def tupD (p : Sc × Sc) : PyData := .tuple [scD p.1, scD p.2]
theorem odd_bad {g : Pr} {n m : Nat} {z : Int} (hg : InP n m g) (z0 : 0 ≤ z) : ∀ k : Nat, k < 9 → ∃ p x, (oddS g n m z)[k]? = some p ∧ (dueS n m z)[k]? = some x ∧ okP n m p = false ∧ badP n p = scV x := by
  obtain ⟨a, b, c, d⟩ := hg
  have b1 : belowD (n : Nat) (.int g.1) = true := below_iff.mpr ⟨_, rfl, a, b⟩
  have b2 : belowD (m : Nat) (.int g.2) = true := below_iff.mpr ⟨_, rfl, c, d⟩
  have nb : ∀ (w : Nat) (i : Int), ¬ (0 ≤ i ∧ i < w) → belowD (w : Nat) (.int i) = false := fun w i h => by
    cases e : belowD (w : Nat) (.int i) with
    | false => rfl
    | true =>
      obtain ⟨j, ej, x, y⟩ := below_iff.mp e
      cases ej
      exact absurd ⟨x, y⟩ h
  have e1 := nb n (n + z) (by omega)
  have e2 := nb m (m + z) (by omega)
  have e3 := nb n (-1 - z) (by omega)
  have e4 := nb m (-1 - z) (by omega)
  have t1 : ∀ b, belowD (n : Nat) (.bool b) = false := fun _ => rfl
  have t2 : ∀ b, belowD (m : Nat) (.bool b) = false := fun _ => rfl
  intro k hk
  have : k = 0 ∨ k = 1 ∨ k = 2 ∨ k = 3 ∨ k = 4 ∨ k = 5 ∨ k = 6 ∨ k = 7 ∨ k = 8 := by omega
  rcases this with rfl | rfl | rfl | rfl | rfl | rfl | rfl | rfl | rfl <;> refine ⟨_, _, rfl, rfl, ?_, ?_⟩ <;> simp [okP, badP, scD, scV, b1, b2, e1, e2, e3, e4, t1, t2]
theorem de_addV {σ : L2.St} {H0 : Hp} {i j : Nat} {x y : Int} (e : σ[i]? = some (some (.int x))) (e2 : σ[j]? = some (some (.int y))) : DE (tOp (rI0 fun i j => V.int (i + j)) (tVar i) (tVar j)) σ H0 (.int (x + y)) := fun H1 _ Q h => ⟨_, e, _, e2, x, y, rfl, rfl, h _ _ (Kp.refl _ _) (.int _)⟩
theorem de_subN {σ : L2.St} {H0 : Hp} {j : Nat} {y : Int} (e2 : σ[j]? = some (some (.int y))) : DE (tOp (rI0 fun i j => V.int (i - j)) (tUn (rU fun i => V.int (-i)) (tC (.int 1))) (tVar j)) σ H0 (.int (-1 - y)) := fun H1 _ Q h => ⟨1, rfl, _, e2, -1, y, rfl, rfl, h _ _ (Kp.refl _ _) (.int _)⟩
theorem dq_pv {H : Hp} {v : V} {p : Sc × Sc} (h : Dq H v (tupD p)) : PvAt H v p := by
  have val : ∀ {x : V} {s : Sc}, Dq H x (scD s) → x = scV s := by
    intro x s h
    cases s with
    | inl i => cases h; rfl
    | inr b => cases h; rfl
  unfold tupD at h
  cases h with
  | @tup t xs _ e h =>
    cases h with
    | cons h1 h2 =>
      cases h2 with
      | cons h3 h4 =>
        cases h4
        rw [val h1, val h3] at e
        exact ⟨t, rfl, e⟩
theorem Rw.drop {α : Type} {R : V → α → Prop} {us : List V} {gs : List α} (h : Rw R us gs) (n : Nat) : Rw R (us.drop n) (gs.drop n) := ⟨by simp [h.len], fun {i x} e => by
  rw [List.getElem?_drop] at e ⊢
  exact h.get e⟩
theorem dq_sc {H : Hp} {x : V} {s : Sc} (h : Dq H x (scD s)) : x = scV s := by
  cases s with
  | inl i => cases h; rfl
  | inr b => cases h; rfl
section
variable {P : Program} {w : World} {K : PySem.W.Frag} {mg : Str → Option Value} {base : Heap} {t1 : Tok} {WC NS PC OW CE : Addr}
def spOdd : Sp := fun vs H Q _ => ∃ (t : Addr) (g : Pr) (n m k z : Int), vs = [.ref t, .int n, .int m, .int k, .int z] ∧ H t = some (.tup [.int g.1, .int g.2]) ∧ 0 ≤ k ∧ k < 9 ∧
  ∀ (l : Addr) (x : V) (p : Sc × Sc) (s : Sc) H', (oddS g n m z)[k.toNat]? = some p → (dueS n m z)[k.toNat]? = some s → H l = none → H' l = some (.lst [x, scV s]) → PvAt H' x p → Kp [] H H' → Q (.ref l) H'
theorem ok_law_odd {f : Addr} {fd : FuncData} (D : Df K mg "_law_odd" s_law_odd ["_law_good", "_law_size", "_law_width", "_law_kind", "_law_far"] f fd) : FnOk P w K mg base CX0 1 f fd ["_law_good", "_law_size", "_law_width", "_law_kind", "_law_far"] spOdd := by
  refine D.F.ok sc_law_odd (fun vs H Q E h => ?_) (fun cdv A outer s H vs Q E hr h => ?_)
  · obtain ⟨_, _, _, _, _, _, rfl, _⟩ := h
    rfl
  · obtain ⟨t, g, n, m, k, z, rfl, ht, k0, k9, q⟩ := h
    refine ⟨_, (pss_cons (ps_set (i := 5) sc_law_odd.nd rfl (Or.inl rfl) (pe_lst (pa_cons (pe_tup (pa_cons (pe_op op_add (pv 1) (pv 4)) (pa_cons (pe_ix (r := rIxT K) ix_tup (pv 0) pe_int (fun _ _ => rfl)) pa_nil))) (pa_cons (pe_tup (pa_cons (pe_ix (r := rIxT K) ix_tup (pv 0) pe_int (fun _ _ => rfl)) (pa_cons (pe_op op_add (pv 2) (pv 4)) pa_nil))) (pa_cons (pe_tup (pa_cons (pe_op op_sub (pe_un un_neg pe_int) (pv 4)) (pa_cons (pe_ix (r := rIxT K) ix_tup (pv 0) pe_int (fun _ _ => rfl)) pa_nil))) (pa_cons (pe_tup (pa_cons (pe_ix (r := rIxT K) ix_tup (pv 0) pe_int (fun _ _ => rfl)) (pa_cons (pe_op op_sub (pe_un un_neg pe_int) (pv 4)) pa_nil))) pa_nil))))))
      (pss_cons (ps_set (i := 5) sc_law_odd.nd rfl (Or.inl rfl) (pe_op op_cat (pv 5) (pe_lst (pa_cons (pe_tup (pa_cons (pe_op op_add (pv 1) (pv 4)) (pa_cons (pe_op op_sub (pe_un un_neg pe_int) (pv 4)) pa_nil))) (pa_cons (pe_tup (pa_cons (pe_op op_sub (pe_un un_neg pe_int) (pv 4)) (pa_cons (pe_op op_add (pv 2) (pv 4)) pa_nil))) (pa_cons (pe_tup (pa_cons pe_bl (pa_cons (pe_ix (r := rIxT K) ix_tup (pv 0) pe_int (fun _ _ => rfl)) pa_nil))) (pa_cons (pe_tup (pa_cons (pe_ix (r := rIxT K) ix_tup (pv 0) pe_int (fun _ _ => rfl)) (pa_cons pe_bl pa_nil))) (pa_cons (pe_tup (pa_cons pe_bl (pa_cons pe_bl pa_nil))) pa_nil))))))))
      (pss_cons (ps_set (i := 6) sc_law_odd.nd rfl (Or.inl rfl) (pe_lst (pa_cons (pe_op op_add (pv 1) (pv 4)) (pa_cons (pe_op op_add (pv 2) (pv 4)) (pa_cons (pe_op op_sub (pe_un un_neg pe_int) (pv 4)) (pa_cons (pe_op op_sub (pe_un un_neg pe_int) (pv 4)) (pa_cons (pe_op op_add (pv 1) (pv 4)) (pa_cons (pe_op op_sub (pe_un un_neg pe_int) (pv 4)) (pa_cons pe_bl (pa_cons pe_bl (pa_cons pe_bl pa_nil)))))))))))
      (pss_one (ps_ret (pe_lst (pa_cons (pe_ix (r := rIxL K) ix_list (pv 5) (pv 3) (fun _ _ => rfl)) (pa_cons (pe_ix (r := rIxL K) ix_list (pv 6) (pv 3) (fun _ _ => rfl)) pa_nil)))))))), ?_⟩
    try simp (maxSteps := 1000000) only [tSeq, tIfS, tTest, rI0, rI, rU, rEq, rNe, tRet, tRetN, tAsg, gName, gSub, tBM, tBM0, tNext, tB, tNot, tAnd, tOr, tIf, tCall, tDrop, tBreak, tCont, L2.start, tDGet, sDPut, tDNewK, tRevL, rCat, rAppend, rPop, rSetL, tAndV, tOrV, tNotV, tSl, tPart, tNoPart, tM1, gTup, gCons, gNil, cxK, cxnK, List.map_cons, List.map_nil, List.length_cons, List.length_nil, List.replicate, List.cons_append, List.nil_append, List.append_nil, List.set_cons_zero, List.set_cons_succ, List.getElem?_cons_zero, List.getElem?_cons_succ, Option.some.injEq, V.ref.injEq, V.int.injEq, V.str.injEq, V.bl.injEq, V.ty.injEq, exists_eq_left', exists_eq_left, exists_and_left, List.cons.injEq, and_true, true_and, sc_ii, sc_ss, sc_bb, sc_ni, sc_in, sc_is, sc_si, sc_nn, decide_true, decide_false, reduceCtorEq, Bool.false_eq_true, if_true, if_false, ite_true, ite_false, exists_const, eq_self, false_and, and_false, or_false, false_or, exists_false, Evl.rLenS, rSum, wipe, tYes, exists_eq, exists_eq', rIxL, rIxT, rIxS, exists_and_right, gt_iff_lt, not_true_eq_false, not_false_eq_true, Bool.not_true, Bool.not_false, decide_eq_true_eq, Nat.reduceSub, Nat.reduceAdd, List.append_assoc, tChain, tDIn, tDNotIn, sDDel, tAug, ipI, rInt1_int, rInt1_bl]
    refine de_lst (ds := ((oddS g n m z).take 4).map tupD) ?_ (by simp [oddS]) H (Kp.refl _ _) _ fun v0 G0 k0' h0 => ?_
    · unfold oddS
      repeat' first | exact da_nil | refine da_cons ?_ ?_ | refine de_tup ?_ (by simp) | exact de_addV rfl rfl | exact de_subN rfl | exact de_ix (j := 0) rfl ht rfl (.int _) | exact de_ix (j := 1) rfl ht rfl (.int _)
    have ht0 := k0' _ _ not0 ht
    refine de_cat (ds := ((oddS g n m z).take 4).map tupD) (es := ((oddS g n m z).drop 4).map tupD) (de_var rfl h0) (de_lst ?_ (by simp [oddS])) (by simp [oddS]) (by simp [oddS]) G0 (Kp.refl _ _) _ fun v1 G1 k1 h1 => ?_
    · unfold oddS
      repeat' first | exact da_nil | refine da_cons ?_ ?_ | refine de_tup ?_ (by simp) | exact de_addV rfl rfl | exact de_subN rfl | exact de_bl | exact de_ix (j := 0) rfl ht0 rfl (.int _) | exact de_ix (j := 1) rfl ht0 rfl (.int _)
    refine de_lst (ds := (dueS n m z).map scD) ?_ (by simp [dueS]) G1 (Kp.refl _ _) _ fun v2 G2 k2 h2 => ?_
    · unfold dueS
      repeat' first | exact da_nil | refine da_cons ?_ ?_ | exact de_addV rfl rfl | exact de_subN rfl | exact de_bl
    rw [← List.map_append, List.take_append_drop] at h1
    have h1' := Dq.kp k2 h1
    try simp (maxSteps := 1000000) only [tSeq, tIfS, tTest, tOp, tUn, tCB, tCons, tNil, tVar, tC, rI0, rI, rU, rEq, rNe, tRet, tRetN, tAsg, gName, gSub, tBM, tBM0, tNext, tB, tNot, tAnd, tOr, tIf, tCall, tDrop, tBreak, tCont, L2.start, tDGet, sDPut, tTup, tLst, tDNewK, tRevL, rCat, rAppend, rPop, rSetL, tAndV, tOrV, tNotV, tSl, tPart, tNoPart, tM1, gTup, gCons, gNil, cxK, cxnK, List.map_cons, List.map_nil, List.length_cons, List.length_nil, List.replicate, List.cons_append, List.nil_append, List.append_nil, List.set_cons_zero, List.set_cons_succ, List.getElem?_cons_zero, List.getElem?_cons_succ, Option.some.injEq, V.ref.injEq, V.int.injEq, V.str.injEq, V.bl.injEq, V.ty.injEq, exists_eq_left', exists_eq_left, exists_and_left, List.cons.injEq, and_true, true_and, sc_ii, sc_ss, sc_bb, sc_ni, sc_in, sc_is, sc_si, sc_nn, decide_true, decide_false, reduceCtorEq, Bool.false_eq_true, if_true, if_false, ite_true, ite_false, exists_const, eq_self, false_and, and_false, or_false, false_or, exists_false, Evl.rLenS, rSum, wipe, tYes, exists_eq, exists_eq', rIxL, rIxT, rIxS, exists_and_right, gt_iff_lt, not_true_eq_false, not_false_eq_true, Bool.not_true, Bool.not_false, decide_eq_true_eq, Nat.reduceSub, Nat.reduceAdd, List.append_assoc, tChain, tDIn, tDNotIn, sDDel, tAug, ipI, rInt1_int, rInt1_bl]
    cases h1' with
    | @lst p1 xs1 _ e1 d1 =>
      cases h2 with
      | @lst p2 xs2 _ e2 d2 =>
        have lx1 : xs1.length = 9 := d1.len
        have lx2 : xs2.length = 9 := d2.len
        have ex1 : xs1[k.toNat]? = some (xs1[k.toNat]'(by omega)) := List.getElem?_eq_getElem _
        have ex2 : xs2[k.toNat]? = some (xs2[k.toNat]'(by omega)) := List.getElem?_eq_getElem _
        generalize xs1[k.toNat]'(by omega) = x1 at ex1
        generalize xs2[k.toNat]'(by omega) = x2 at ex2
        obtain ⟨dd1, ed1, hd1⟩ := d1.get ex1
        obtain ⟨dd2, ed2, hd2⟩ := d2.get ex2
        rw [List.getElem?_map] at ed1 ed2
        obtain ⟨p, ep, rfl⟩ := Option.map_eq_some_iff.mp ed1
        obtain ⟨x, es, rfl⟩ := Option.map_eq_some_iff.mp ed2
        refine ⟨p1, rfl, _, sq_l e1, _, atI_of k0 ex1, p2, rfl, _, sq_l e2, _, atI_of k0 ex2, by rw [sizeLine_eq]; decide, fun l nl => ?_⟩
        have kk := (k0'.trans k1).trans k2
        have kl := (Kp.new nl : Kp [] G2 (upd G2 l (.lst [x1, x2])))
        refine q l x1 p x _ ep es (kk.free0 nl) (by rw [dq_sc hd2]; exact upd_same) ((dq_pv hd1).tp kl.tps) (kk.trans kl)
def spBadP (WC : Addr) : Sp := fun vs H Q _ => ∃ (lo hi a : Addr) (c : Int) (us : List V) (gs : List Pr) (s1 s2 : List (List Mv)), vs = [.ref lo, .ref hi, .ref a, .int c] ∧ 0 ≤ c ∧ WebAt WC H lo s1 ∧ WebAt WC H hi s2 ∧ 1 ≤ s1.length ∧ s1.length ≤ 60 ∧ 1 ≤ s2.length ∧ s2.length ≤ 60 ∧ H a = some (.lst us) ∧ Rw (PrAt H) us gs ∧ gs.length ≤ 40 ∧ (∀ g ∈ gs, InP s1.length s2.length g) ∧ ∀ H', Kp [] H H' → Q (.bl true) H'
theorem ok_law_bad_pairs {f : Addr} {fd : FuncData} (D : Df K mg "_law_bad_pairs" s_law_bad_pairs ["_law_low", "_law_high", "_law_pairs", "_law_cell_here"] f fd) (T : BtG mg) {g1 : Addr} {gd1 : FuncData} (D_law_draws : Df K mg "_law_draws" s_law_draws ["_law_cell_here", "_law_spans"] g1 gd1) (G_law_draws : FnOk P w K mg base CX0 1 g1 gd1 ["_law_cell_here", "_law_spans"] (spDraws K))
    {fl : Addr} {fdl : FuncData} (LN_Web : LenC K WC fl) (b_Web_len : Binds K fdl ["self"] []) (G_Web_len : FnOk P w K mg base CX0 1 fl fdl ["self"] (spWLen WC))
    {g2 : Addr} {gd2 : FuncData} (D_law_odd : Df K mg "_law_odd" s_law_odd ["_law_good", "_law_size", "_law_width", "_law_kind", "_law_far"] g2 gd2) (G_law_odd : FnOk P w K mg base CX0 1 g2 gd2 ["_law_good", "_law_size", "_law_width", "_law_kind", "_law_far"] spOdd)
    {g3 : Addr} {gd3 : FuncData} (D_law_refused : Df K mg "_law_refused" s_law_refused ["_law_low", "_law_high", "_law_pairs", "_law_at"] g3 gd3) (G_law_refused : FnOk P w K mg base CX0 7 g3 gd3 ["_law_low", "_law_high", "_law_pairs", "_law_at"] (spRefd WC NS)) : FnOk P w K mg base CX0 8 f fd ["_law_low", "_law_high", "_law_pairs", "_law_cell_here"] (spBadP WC) := by
  refine D.F.ok sc_law_bad_pairs (fun vs H Q E h => ?_) (fun cdv A outer s H vs Q E hr h => ?_)
  · obtain ⟨_, _, _, _, _, _, _, _, rfl, _⟩ := h
    rfl
  · obtain ⟨lo, hi, a, c, us, gs, s1, s2, rfl, c0, hW1, hW2, n1, n60, m1, m60, ha, hus, lg, hin, q⟩ := h
    refine ⟨_, (pss_cons (ps_set (i := 4) sc_law_bad_pairs.nd rfl (Or.inl rfl) (pe_callB (id := "len") (call_lenO LN_Web G_Web_len b_Web_len (hr.mono (by decide)) pass0) (by rfl) T.b_len PySem.boot_len (pa_cons (pv 0) pa_nil)))
      (pss_cons (ps_set (i := 5) sc_law_bad_pairs.nd rfl (Or.inl rfl) (pe_callB (id := "len") (call_lenO LN_Web G_Web_len b_Web_len (hr.mono (by decide)) pass0) (by rfl) T.b_len PySem.boot_len (pa_cons (pv 1) pa_nil)))
      (pss_cons (ps_set (i := 6) sc_law_bad_pairs.nd rfl (Or.inl rfl) (pe_call G_law_draws (hr.mono (by decide)) rfl D_law_draws.g D_law_draws.F.kp D_law_draws.b .nil pass0 (pa_cons (pv 3) (pa_cons (pe_lst (pa_cons pe_int (pa_cons pe_int (pa_cons pe_int (pa_cons (pv 4) (pa_cons (pv 5) (pa_cons pe_int (pa_cons pe_int (pa_cons pe_int pa_nil))))))))) pa_nil))))
      (pss_cons (ps_set (i := 7) sc_law_bad_pairs.nd rfl (Or.inl rfl) (pe_call G_law_odd (hr.mono (by decide)) rfl D_law_odd.g D_law_odd.F.kp D_law_odd.b .nil pass0 (pa_cons (pe_tup (pa_cons (pe_ix (r := rIxL K) ix_list (pv 6) pe_int (fun _ _ => rfl)) (pa_cons (pe_ix (r := rIxL K) ix_list (pv 6) pe_int (fun _ _ => rfl)) pa_nil))) (pa_cons (pv 4) (pa_cons (pv 5) (pa_cons (pe_ix (r := rIxL K) ix_list (pv 6) pe_int (fun _ _ => rfl)) (pa_cons (pe_ix (r := rIxL K) ix_list (pv 6) pe_int (fun _ _ => rfl)) pa_nil)))))))
      (pss_cons (ps_set (i := 8) sc_law_bad_pairs.nd rfl (Or.inl rfl) (pe_op op_mod (pe_callTy (T := "int") (r := rInt1) call_int1 (by rfl) T.b_int (by decide +kernel) (pa_cons (pe_ix (r := rIxL K) ix_list (pv 6) pe_int (fun _ _ => rfl)) pa_nil)) (pe_op op_add (pe_callB (id := "len") (r := Evl.rLenS K) call_len_seq (by rfl) T.b_len PySem.boot_len (pa_cons (pv 2) pa_nil)) pe_int)))
      (pss_cons (ps_set (i := 9) sc_law_bad_pairs.nd rfl (Or.inl rfl) (pe_op op_cat (pe_op op_cat (pe_slice sl_list (pv 2) po_none (po_some (pv 8))) (pe_lst (pa_cons (pe_ix (r := rIxL K) ix_list (pv 7) pe_int (fun _ _ => rfl)) pa_nil))) (pe_slice sl_list (pv 2) (po_some (pv 8)) po_none)))
      (pss_cons (ps_if (pt_cmpR op_eq (pe_ix (r := rIxL K) ix_list (pv 6) pe_int (fun _ _ => rfl)) pe_int (nomark _)) (pss_one (ps_expr (pe_bm PySem.F.plainAttrs_list PySem.F.slot_list_append PySem.F.type_list_append mt_append (pv 9) (pa_cons (pe_ix (r := rIxL K) ix_list (pe_call G_law_odd (hr.mono (by decide)) rfl D_law_odd.g D_law_odd.F.kp D_law_odd.b .nil pass0 (pa_cons (pe_tup (pa_cons (pe_ix (r := rIxL K) ix_list (pv 6) pe_int (fun _ _ => rfl)) (pa_cons (pe_ix (r := rIxL K) ix_list (pv 6) pe_int (fun _ _ => rfl)) pa_nil))) (pa_cons (pv 4) (pa_cons (pv 5) (pa_cons (pe_ix (r := rIxL K) ix_list (pv 6) pe_int (fun _ _ => rfl)) (pa_cons (pe_ix (r := rIxL K) ix_list (pv 6) pe_int (fun _ _ => rfl)) pa_nil)))))) pe_int (fun _ _ => rfl)) pa_nil)))) pss_nil)
      (pss_one (ps_ret (pe_call G_law_refused (hr.mono (by decide)) rfl D_law_refused.g D_law_refused.F.kp D_law_refused.b .nil pass0 (pa_cons (pv 0) (pa_cons (pv 1) (pa_cons (pv 9) (pa_cons (pe_ix (r := rIxL K) ix_list (pv 7) pe_int (fun _ _ => rfl)) pa_nil)))))))))))))), ?_⟩
    try simp (maxSteps := 1000000) only [tSeq, tTest, tOp, tUn, tCB, tCons, tNil, tVar, tC, rI0, rI, rU, rEq, rNe, tRet, tRetN, tAsg, gName, gSub, tBM, tBM0, tNext, tB, tNot, tAnd, tOr, tIf, tCall, tDrop, tBreak, tCont, L2.start, tDGet, sDPut, tTup, tLst, tDNewK, tRevL, rCat, rAppend, rPop, rSetL, tAndV, tOrV, tNotV, tSl, tPart, tNoPart, tM1, gTup, gCons, gNil, cxK, cxnK, List.map_cons, List.map_nil, List.length_cons, List.length_nil, List.replicate, List.cons_append, List.nil_append, List.append_nil, List.set_cons_zero, List.set_cons_succ, List.getElem?_cons_zero, List.getElem?_cons_succ, Option.some.injEq, V.ref.injEq, V.int.injEq, V.str.injEq, V.bl.injEq, V.ty.injEq, exists_eq_left', exists_eq_left, exists_and_left, List.cons.injEq, and_true, true_and, sc_ii, sc_ss, sc_bb, sc_ni, sc_in, sc_is, sc_si, sc_nn, decide_true, decide_false, reduceCtorEq, Bool.false_eq_true, if_true, if_false, ite_true, ite_false, exists_const, eq_self, false_and, and_false, or_false, false_or, exists_false, Evl.rLenS, rSum, wipe, tYes, exists_eq, exists_eq', rIxL, rIxT, rIxS, exists_and_right, gt_iff_lt, not_true_eq_false, not_false_eq_true, Bool.not_true, Bool.not_false, decide_eq_true_eq, Nat.reduceSub, Nat.reduceAdd, List.append_assoc, tChain, tDIn, tDNotIn, sDDel, tAug, ipI, rInt1_int, rInt1_bl, rLenO]
    obtain ⟨dx1, _, _, _, _, _, _, ho1, _⟩ := id hW1
    obtain ⟨dx2, _, _, _, _, _, _, ho2, _⟩ := id hW2
    refine ⟨⟨dx1, _, ho1⟩, lo, s1, rfl, hW1, _, rfl, small (by omega), ⟨dx2, _, ho2⟩, hi, s2, rfl, hW2, _, rfl, small (by omega), by rw [sizeLine_eq]; decide, fun p np => ?_⟩
    have kp := (Kp.new np : Kp [] H (upd H p (.lst [.int 13, .int 9, .int 5, .int (s1.length : Nat), .int (s2.length : Nat), .int 9, .int 5, .int 2])))
    refine ⟨c, p, [13, 9, 5, (s1.length : Nat), (s2.length : Nat), 9, 5, 2], rfl, c0, sq_l upd_same, (show 8 ≤ 100 by decide), fun x hx => ?_, fun dr sh H2 n2 hsh dlen hdr k2 => ?_⟩
    · simp at hx
      omega
    obtain ⟨z0, z1, z2, z3, z4, z5, z6, z7, rfl⟩ : ∃ z0 z1 z2 z3 z4 z5 z6 z7, dr = [z0, z1, z2, z3, z4, z5, z6, z7] := by
      match dr, dlen with
      | [z0, z1, z2, z3, z4, z5, z6, z7], _ => exact ⟨z0, z1, z2, z3, z4, z5, z6, z7, rfl⟩
    have b1 := hdr 1 z1 9 rfl rfl
    have b2 := hdr 2 z2 5 rfl rfl
    have b3 := hdr 3 z3 _ rfl rfl
    have b4 := hdr 4 z4 _ rfl rfl
    have b5 := hdr 5 z5 9 rfl rfl
    have b6 := hdr 6 z6 5 rfl rfl
    have k02 := kp.trans k2
    refine ⟨sh, rfl, _, sq_l hsh, _, rfl, sh, rfl, _, sq_l hsh, _, rfl, by rw [sizeLine_eq]; decide, fun pg npg => ?_⟩
    have kg := (Kp.new npg : Kp [] H2 (upd H2 pg (.tup [.int z3, .int z4])))
    have hpg : (upd H2 pg (.tup [.int z3, .int z4])) pg = some (.tup [.int z3, .int z4]) := upd_same
    generalize upd H2 pg (.tup [.int z3, .int z4]) = H3 at kg hpg ⊢
    have k03 := k02.trans kg
    have hsh3 := kg _ _ not0 hsh
    refine ⟨sh, rfl, _, sq_l hsh3, _, rfl, sh, rfl, _, sq_l hsh3, _, rfl, ?_⟩
    refine ⟨pg, (z3, z4), (s1.length : Nat), (s2.length : Nat), z1, z2, rfl, hpg, b1.1, b1.2, fun lo1 xo po so H4 epo eso nlo hlo hxo k4 => ?_⟩
    have inG : InP s1.length s2.length (z3, z4) := ⟨b3.1, b3.2, b4.1, b4.2⟩
    obtain ⟨po', so', epo', eso', hbad, hval⟩ := odd_bad inG b2.1 z1.toNat (by omega)
    rw [epo] at epo'; rw [eso] at eso'
    cases epo'; cases eso'
    have hsh4 := k4 _ _ not0 hsh3
    have k04 := k03.trans k4
    have ha4 := k04 _ _ not0 ha
    have hus4 : Rw (PrAt H4) us gs := hus.mono fun _ _ z => z.tp k04.tps
    have lus : us.length = gs.length := hus.len
    refine ⟨sh, rfl, _, sq_l hsh4, _, rfl, ?_⟩
    try simp (maxSteps := 1000000) only [tSeq, tTest, tOp, tUn, tCB, tCons, tNil, tVar, tC, rI0, rI, rU, rEq, rNe, tRet, tRetN, tAsg, gName, gSub, tBM, tBM0, tNext, tB, tNot, tAnd, tOr, tIf, tCall, tDrop, tBreak, tCont, L2.start, tDGet, sDPut, tTup, tLst, tDNewK, tRevL, rCat, rAppend, rPop, rSetL, tAndV, tOrV, tNotV, tSl, tPart, tNoPart, tM1, gTup, gCons, gNil, cxK, cxnK, List.map_cons, List.map_nil, List.length_cons, List.length_nil, List.replicate, List.cons_append, List.nil_append, List.append_nil, List.set_cons_zero, List.set_cons_succ, List.getElem?_cons_zero, List.getElem?_cons_succ, Option.some.injEq, V.ref.injEq, V.int.injEq, V.str.injEq, V.bl.injEq, V.ty.injEq, exists_eq_left', exists_eq_left, exists_and_left, List.cons.injEq, and_true, true_and, sc_ii, sc_ss, sc_bb, sc_ni, sc_in, sc_is, sc_si, sc_nn, decide_true, decide_false, reduceCtorEq, Bool.false_eq_true, if_true, if_false, ite_true, ite_false, exists_const, eq_self, false_and, and_false, or_false, false_or, exists_false, Evl.rLenS, rSum, wipe, tYes, exists_eq, exists_eq', rIxL, rIxT, rIxS, exists_and_right, gt_iff_lt, not_true_eq_false, not_false_eq_true, Bool.not_true, Bool.not_false, decide_eq_true_eq, Nat.reduceSub, Nat.reduceAdd, List.append_assoc, tChain, tDIn, tDNotIn, sDDel, tAug, ipI, rInt1_int, rInt1_bl]
    have q0 := Int.emod_nonneg z0 (show ((us.length : Nat) : Int) + 1 ≠ 0 by omega)
    have q1 := Int.emod_lt_of_pos z0 (show (0 : Int) < ((us.length : Nat) : Int) + 1 by omega)
    obtain ⟨pl, hpl⟩ := Int.eq_ofNat_of_zero_le q0
    refine ⟨us, .inl (sq_l ha4), by omega, ?_⟩
    rw [hpl]
    refine ⟨a, us, rfl, sq_l ha4, fun p1 np1 => ?_⟩
    rw [cut_to]
    have ka := (Kp.new np1 : Kp [] H4 (upd H4 p1 (.lst (us.take pl))))
    have hp1 : (upd H4 p1 (.lst (us.take pl))) p1 = some (.lst (us.take pl)) := upd_same
    generalize upd H4 p1 (.lst (us.take pl)) = G1 at ka hp1 ⊢
    refine ⟨_, sq_l (ka _ _ not0 hlo), _, rfl, by rw [sizeLine_eq]; decide, fun p2 np2 => ?_⟩
    have kb := (Kp.new np2 : Kp [] G1 (upd G1 p2 (.lst [xo])))
    have hp2 : (upd G1 p2 (.lst [xo])) p2 = some (.lst [xo]) := upd_same
    generalize upd G1 p2 (.lst [xo]) = G2 at kb hp2 ⊢
    refine ⟨p1, rfl, _, kb _ _ not0 hp1, _, hp2, by rw [List.length_take, sizeLine_eq]; show _ + 1 ≤ _; omega, fun p3 np3 => ?_⟩
    have kc := (Kp.new np3 : Kp [] G2 (upd G2 p3 (.lst (us.take pl ++ [xo]))))
    have hp3 : (upd G2 p3 (.lst (us.take pl ++ [xo]))) p3 = some (.lst (us.take pl ++ [xo])) := upd_same
    generalize upd G2 p3 (.lst (us.take pl ++ [xo])) = G3 at kc hp3 ⊢
    have k43 := (ka.trans kb).trans kc
    refine ⟨a, us, rfl, sq_l (k43 _ _ not0 ha4), fun p4 np4 => ?_⟩
    rw [cut_from]
    have kd := (Kp.new np4 : Kp [] G3 (upd G3 p4 (.lst (us.drop pl))))
    have hp4 : (upd G3 p4 (.lst (us.drop pl))) p4 = some (.lst (us.drop pl)) := upd_same
    generalize upd G3 p4 (.lst (us.drop pl)) = G4 at kd hp4 ⊢
    refine ⟨p4, rfl, _, kd _ _ not0 hp3, _, hp4, by rw [List.length_append, List.length_take, List.length_drop, sizeLine_eq]; show _ + 1 + _ ≤ _; omega, fun p5 np5 => ?_⟩
    have ke := (Kp.new np5 : Kp [] G4 (upd G4 p5 (.lst (us.take pl ++ [xo] ++ us.drop pl))))
    have hp5 : (upd G4 p5 (.lst (us.take pl ++ [xo] ++ us.drop pl))) p5 = some (.lst (us.take pl ++ [xo] ++ us.drop pl)) := upd_same
    generalize upd G4 p5 (.lst (us.take pl ++ [xo] ++ us.drop pl)) = G5 at ke hp5 ⊢
    have k45 := (k43.trans kd).trans ke
    have pvs : ∀ {us : List V} {gs : List Pr}, Rw (PrAt G5) us gs → Rw (PvAt G5) us (gs.map prS) := fun {us gs} h => ⟨by rw [h.len, List.length_map], fun {i u} e => by
      obtain ⟨g, eg, t, et, ht⟩ := h.get e
      exact ⟨prS g, by rw [List.getElem?_map, eg]; rfl, t, et, ht⟩⟩
    have hus5 : Rw (PrAt G5) us gs := hus4.mono fun _ _ z => z.tp k45.tps
    have hbd : Rw (PvAt G5) (us.take pl ++ [xo] ++ us.drop pl) ((gs.take pl).map prS ++ [po] ++ (gs.drop pl).map prS) := ((pvs (hus5.take pl)).snoc (hxo.tp k45.tps)).app (pvs (hus5.drop pl))
    have ltk : ((gs.take pl).map prS).length = pl := by rw [List.length_map, List.length_take]; omega
    have hok : ∀ j y, j < pl → ((gs.take pl).map prS ++ [po] ++ (gs.drop pl).map prS)[j]? = some y → okP s1.length s2.length y = true := fun j y hj e => by
      rw [List.append_assoc, List.getElem?_append_left (by rw [ltk]; exact hj), List.getElem?_map] at e
      obtain ⟨g, eg, rfl⟩ := Option.map_eq_some_iff.mp e
      exact okP_iff.mpr ⟨g, rfl, hin g (List.mem_of_mem_take (List.mem_of_getElem? eg))⟩
    have hat : ((gs.take pl).map prS ++ [po] ++ (gs.drop pl).map prS)[pl]? = some po := by
      rw [List.append_assoc, List.getElem?_append_right (by rw [ltk]; exact Nat.le_refl _), ltk, Nat.sub_self]; rfl
    refine ifs_both (fun σ G => ∃ (us' : List V) (ds' : List (Sc × Sc)), σ = [some (.ref lo), some (.ref hi), some (.ref a), some (.int c), some (.int (s1.length : Nat)), some (.int (s2.length : Nat)), some (.ref sh), some (.ref lo1), some (.int (pl : Nat)), some (.ref p5)] ∧ G p5 = some (.lst us') ∧ Rw (PvAt G) us' ds' ∧ ds'.length ≤ 60 ∧ ds'[pl]? = some po ∧ (∀ j y, j < pl → ds'[j]? = some y → okP s1.length s2.length y = true) ∧ G lo1 = some (.lst [xo, scV so]) ∧ Kp [] H G) (fun Dn hn => ?_) ?_
    · try simp (maxSteps := 1000000) only [tSeq, tIfS, tTest, tOp, tUn, tCB, tCons, tNil, tVar, tC, rI0, rI, rU, rEq, rNe, tRet, tRetN, tAsg, gName, gSub, tBM, tBM0, tNext, tB, tNot, tAnd, tOr, tIf, tCall, tDrop, tBreak, tCont, L2.start, tDGet, sDPut, tTup, tLst, tDNewK, tRevL, rCat, rAppend, rPop, rSetL, tAndV, tOrV, tNotV, tSl, tPart, tNoPart, tM1, gTup, gCons, gNil, cxK, cxnK, List.map_cons, List.map_nil, List.length_cons, List.length_nil, List.replicate, List.cons_append, List.nil_append, List.append_nil, List.set_cons_zero, List.set_cons_succ, List.getElem?_cons_zero, List.getElem?_cons_succ, Option.some.injEq, V.ref.injEq, V.int.injEq, V.str.injEq, V.bl.injEq, V.ty.injEq, exists_eq_left', exists_eq_left, exists_and_left, List.cons.injEq, and_true, true_and, sc_ii, sc_ss, sc_bb, sc_ni, sc_in, sc_is, sc_si, sc_nn, decide_true, decide_false, reduceCtorEq, Bool.false_eq_true, if_true, if_false, ite_true, ite_false, exists_const, eq_self, false_and, and_false, or_false, false_or, exists_false, Evl.rLenS, rSum, wipe, tYes, exists_eq, exists_eq', rIxL, rIxT, rIxS, exists_and_right, gt_iff_lt, not_true_eq_false, not_false_eq_true, Bool.not_true, Bool.not_false, decide_eq_true_eq, Nat.reduceSub, Nat.reduceAdd, List.append_assoc, tChain, tDIn, tDNotIn, sDDel, tAug, ipI, rInt1_int, rInt1_bl]
      have hsh5 := k45 _ _ not0 hsh4
      have ld5 : ((gs.take pl).map prS ++ [po] ++ (gs.drop pl).map prS).length ≤ 41 := by
        rw [List.length_append, List.length_append, List.length_map, List.length_map, List.length_take, List.length_drop, List.length_singleton]; omega
      have k05 := k04.trans k45
      have hsh5' := hsh5
      have hlo5 := k45 _ _ not0 hlo
      have np5H : H p5 = none := (k04.trans (k43.trans kd)).free0 np5
      refine ⟨_, sq_l hsh5', _, rfl, rfl, ite2 (fun h1 => ?_) (fun h1 => hn _ _ ⟨_, _, rfl, hp5, hbd, by omega, hat, hok, hlo5, k05⟩)⟩
      refine ⟨.inl ⟨rfl, _, sq_l hp5⟩, _, sq_l hsh5', _, rfl, _, sq_l hsh5', _, rfl, by rw [sizeLine_eq]; decide, fun pt npt => ?_⟩
      have kt := (Kp.new npt : Kp [] G5 (upd G5 pt (.tup [.int z3, .int z4])))
      have hpt : (upd G5 pt (.tup [.int z3, .int z4])) pt = some (.tup [.int z3, .int z4]) := upd_same
      generalize upd G5 pt (.tup [.int z3, .int z4]) = G6 at kt hpt ⊢
      have hsh6 := kt _ _ not0 hsh5'
      refine ⟨_, sq_l hsh6, _, rfl, _, sq_l hsh6, _, rfl, pt, (z3, z4), (s1.length : Nat), (s2.length : Nat), z5, z6, rfl, hpt, b5.1, b5.2, fun lo2 xo2 po2 so2 G7 epo2 eso2 nlo2 hlo2 hxo2 k7 => ?_⟩
      have k57 := kt.trans k7
      have hp57 := k57 _ _ not0 hp5
      refine ⟨lo2, rfl, _, sq_l hlo2, _, rfl, _, hp57, by rw [(hbd.len)]; rw [sizeLine_eq]; omega, ?_⟩
      have tp : Tp G7 (upd G7 p5 (.lst (us.take pl ++ [xo] ++ us.drop pl ++ [xo2]))) := (Tp.refl G7).putL hp57
      have lop : lo1 ≠ p5 := fun z => by rw [← z, (k43.trans kd) _ _ not0 hlo] at np5; cases np5
      refine hn _ _ ⟨_, _, rfl, upd_same, ((hbd.mono fun _ _ z => z.tp k57.tps).snoc hxo2).mono fun _ _ z => z.tp tp, by rw [List.length_append, List.length_singleton]; omega, ?_, fun j y hj e => ?_, by rw [upd_ne lop]; exact k57 _ _ not0 hlo5, (k05.trans k57).wr np5H⟩
      · rw [List.getElem?_append_left (by have := (List.getElem?_eq_some_iff.mp hat).1; exact this)]; exact hat
      · rw [List.getElem?_append_left (by have := (List.getElem?_eq_some_iff.mp hat).1; omega)] at e
        exact hok j y hj e
    · rintro σ' G ⟨us', ds', rfl, hG, hus', ld, e1, e2, hl, kG⟩
      try simp (maxSteps := 1000000) only [tSeq, tIfS, tTest, tOp, tUn, tCB, tCons, tNil, tVar, tC, rI0, rI, rU, rEq, rNe, tRet, tRetN, tAsg, gName, gSub, tBM, tBM0, tNext, tB, tNot, tAnd, tOr, tIf, tCall, tDrop, tBreak, tCont, L2.start, tDGet, sDPut, tTup, tLst, tDNewK, tRevL, rCat, rAppend, rPop, rSetL, tAndV, tOrV, tNotV, tSl, tPart, tNoPart, tM1, gTup, gCons, gNil, cxK, cxnK, List.map_cons, List.map_nil, List.length_cons, List.length_nil, List.replicate, List.cons_append, List.nil_append, List.append_nil, List.set_cons_zero, List.set_cons_succ, List.getElem?_cons_zero, List.getElem?_cons_succ, Option.some.injEq, V.ref.injEq, V.int.injEq, V.str.injEq, V.bl.injEq, V.ty.injEq, exists_eq_left', exists_eq_left, exists_and_left, List.cons.injEq, and_true, true_and, sc_ii, sc_ss, sc_bb, sc_ni, sc_in, sc_is, sc_si, sc_nn, decide_true, decide_false, reduceCtorEq, Bool.false_eq_true, if_true, if_false, ite_true, ite_false, exists_const, eq_self, false_and, and_false, or_false, false_or, exists_false, Evl.rLenS, rSum, wipe, tYes, exists_eq, exists_eq', rIxL, rIxT, rIxS, exists_and_right, gt_iff_lt, not_true_eq_false, not_false_eq_true, Bool.not_true, Bool.not_false, decide_eq_true_eq, Nat.reduceSub, Nat.reduceAdd, List.append_assoc, tChain, tDIn, tDNotIn, sDDel, tAug, ipI, rInt1_int, rInt1_bl]
      refine ⟨_, sq_l hl, _, rfl, ?_⟩
      exact ⟨lo, hi, p5, so, us', s1, s2, ds', pl, po, rfl, hW1.kp kG, hW2.kp kG, hG, hus', n60, m60, ld, e1, hbad, e2, hval, fun H' k => q H' (kG.trans k)⟩
end
end My

set_option Elab.async false
set_option linter.all false
set_option maxRecDepth 100000
set_option maxHeartbeats 4000000
namespace My
open PySem L2 NdefX
abbrev s_law : Stmt := top 37
theorem sc_law : FnScope ["_law_script", "_law_shape", "_law_menu_here", "_law_low", "_law_high", "_law_size", "_law_width", "_law_first", "_law_second", "_law_webs", "_law_again", "_law_handed", "_law_one", "_law_two", "_law_both", "_law_lower", "_law_upper", "_law_other_here"] ["_law_script"] (defScope s_law) := ⟨rfl, rfl, rfl, by decide +kernel, rfl, by decide +kernel, by decide +kernel⟩
structure BtL (mg : Str → Option Value) : Prop where
  b_len : mg "len" = none
  b_list : mg "list" = none
structure GoodWb (srs : List (List Mv)) : Prop where
  len : srs.length ≤ 100
  good : ∀ r ∈ srs, GoodRw srs.length r
structure PermW (rows srs : List (List Mv)) : Prop where
  len : srs.length = rows.length
  at_ : ∀ {i : Nat} {r : List Mv}, rows[i]? = some r → ∃ s, srs[i]? = some s ∧ s.Perm r
theorem PermW.symm {rows srs : List (List Mv)} (h : PermW rows srs) : PermW srs rows := ⟨h.len.symm, fun {i s} e => by
  have li : i < rows.length := by
    have := (List.getElem?_eq_some_iff.mp e).1
    rw [h.len] at this; exact this
  obtain ⟨s', es, p⟩ := h.at_ (List.getElem?_eq_getElem li)
  rw [e] at es; cases es
  exact ⟨_, List.getElem?_eq_getElem li, p.symm⟩⟩
theorem PermW.good {rows srs : List (List Mv)} (h : PermW rows srs) (g : GoodWb rows) : GoodWb srs := ⟨by rw [h.len]; exact g.len, fun s hs => by
  obtain ⟨i, ei⟩ := List.getElem?_of_mem hs
  obtain ⟨r, er, p⟩ := h.symm.at_ ei
  rw [h.len]
  exact (g.good r (List.mem_of_getElem? er)).perm p.symm⟩
theorem mkWeb {WC : Addr} {H1 : Hp} {aa : Addr} {us : List V} {rows : List (List Mv)} {E : XK} {Qc : VK} (h : H1 aa = some (.lst us)) (hr : Rw (RwAt H1) us rows) (l1 : 1 ≤ rows.length) (hg : GoodWb rows) (q : ∀ o srs H', SrRel rows srs → WebAt WC H' o srs → Kp [] H1 H' → Qc (.ref o) H') :
    ∀ x dx, H1 x = none → H1 dx = none → dx ≠ x → spWI WC [.ref x, .ref aa] (upd (upd H1 dx (.own x)) x (.ins WC dx [])) (fun v H2 => v = .non ∧ Qc (.ref x) H2) E := fun x dx nx ndx ne => by
  have k : Kp [] H1 (upd (upd H1 dx (.own x)) x (.ins WC dx [])) := (Kp.new ndx).wr nx
  exact ⟨x, dx, aa, us, rows, rfl, upd_same, k _ _ not0 h, hr.mono fun _ _ z => z.kd k.kd, l1, hg.len, hg.good, fun srs H' hs hw k2 => ⟨rfl, q x srs H' hs hw (Kp.own k k2 nx)⟩⟩
theorem mkWebT {WC : Addr} {ta : TA} {σ : L2.St} {H : Hp} {Q : VK} {E : XK} (rows : List (List Mv)) (ht : ∀ R : List V → Hp → Prop, (∀ aa us H1, H1 aa = some (.lst us) → Rw (RwAt H1) us rows → Kp [] H H1 → R [.ref aa] H1) → ta σ H R) (l1 : 1 ≤ rows.length) (hg : GoodWb rows)
    (q : ∀ o srs H', SrRel rows srs → WebAt WC H' o srs → Kp [] H H' → Q (.ref o) H') : tMake WC (spWI WC) [] E ta σ H Q :=
  ht _ fun aa us H1 h hr k => mkWeb (Qc := Q) h hr l1 hg fun o srs H' a b c => q o srs H' a b (k.trans c)
theorem SrRel.perm {rows srs : List (List Mv)} (h : SrRel rows srs) : PermW rows srs := ⟨h.len, fun e => by
  obtain ⟨s, es, p⟩ := h.at_ e
  exact ⟨s, es, p.1⟩⟩
theorem PermW.rev (rows : List (List Mv)) : PermW (rows.map List.reverse) rows := ⟨by simp, fun {i r} e => by
  rw [List.getElem?_map] at e
  obtain ⟨s, es, rfl⟩ := Option.map_eq_some_iff.mp e
  exact ⟨s, es, (List.reverse_perm s).symm⟩⟩
theorem PermW.trans {a b c : List (List Mv)} (h : PermW a b) (g : PermW b c) : PermW a c := ⟨g.len.trans h.len, fun e => by
  obtain ⟨s, es, p⟩ := h.at_ e
  obtain ⟨u, eu, q⟩ := g.at_ es
  exact ⟨u, eu, q.trans p⟩⟩
def manyL : List Int := [3, 3, 3, 4, 5, 6, 8]
theorem many_at : ∀ i : Nat, i < 7 → ∃ n : Nat, 3 ≤ n ∧ n ≤ 8 ∧ manyL[i]? = some (n : Int) := by
  intro i h
  match i, h with
  | 0, _ => exact ⟨3, by decide, by decide, rfl⟩
  | 1, _ => exact ⟨3, by decide, by decide, rfl⟩
  | 2, _ => exact ⟨3, by decide, by decide, rfl⟩
  | 3, _ => exact ⟨4, by decide, by decide, rfl⟩
  | 4, _ => exact ⟨5, by decide, by decide, rfl⟩
  | 5, _ => exact ⟨6, by decide, by decide, rfl⟩
  | 6, _ => exact ⟨8, by decide, by decide, rfl⟩
theorem SrRel.rev {rows srs : List (List Mv)} (h : SrRel (rows.map List.reverse) srs) : SrRel rows srs := ⟨by rw [h.len, List.length_map], fun {i r} e => by
  obtain ⟨s, es, p, srt⟩ := h.at_ (i := i) (r := r.reverse) (by rw [List.getElem?_map, e]; rfl)
  exact ⟨s, es, p.trans (List.reverse_perm r), srt⟩⟩
theorem nodup_lenP {α : Type} [DecidableEq α] : ∀ {l m : List α}, l.Nodup → (∀ x ∈ l, x ∈ m) → l.length ≤ m.length
  | [], _, _, _ => Nat.zero_le _
  | x :: l, m, h, s => by
    rw [List.nodup_cons] at h
    have hx := s x (by simp)
    have ih := nodup_lenP (l := l) (m := m.erase x) h.2 fun y hy => (List.mem_erase_of_ne (fun e => h.1 (by rw [← e]; exact hy))).mpr (s y (by simp [hy]))
    rw [List.length_erase_of_mem hx] at ih
    have : 0 < m.length := List.length_pos_of_mem hx
    rw [List.length_cons]; omega
theorem SrtP.nd {ps : List Pr} (h : SrtP ps) : ps.Nodup := List.nodup_iff_pairwise_ne.mpr (h.imp fun {a b} lt e => by rw [e] at lt; omega)
theorem PapAt.srt {PC : Addr} {H : Hp} {o lo hi : Addr} {ps : List Pr} (h : PapAt PC H o lo hi ps) : SrtP ps := by
  obtain ⟨_, _, _, _, _, _, _, _, s⟩ := h
  exact s
theorem PapAt.len {PC : Addr} {H : Hp} {o lo hi : Addr} {ps gs : List Pr} (h : PapAt PC H o lo hi ps) (m : ∀ p, p ∈ ps ↔ p ∈ gs) : ps.length ≤ gs.length := nodup_lenP h.srt.nd fun x hx => (m x).mp hx
def mkP (C : Addr) (sp : Sp) (dvs : List V) (E : XK) (Q : VK) : List V → Hp → Prop := fun vs H1 => ∀ x dx, H1 x = none → H1 dx = none → dx ≠ x → sp (.ref x :: (vs ++ dvs)) (upd (upd H1 dx (.own x)) x (.ins C dx [])) (fun v H2 => v = .non ∧ Q (.ref x) H2) E
theorem make_of {C : Addr} {sp : Sp} {dvs : List V} {E : XK} {ta : TA} {σ : L2.St} {H : Hp} {Q : VK} (h : ta σ H (mkP C sp dvs E Q)) : tMake C sp dvs E ta σ H Q := h
theorem mkP_web {WC : Addr} {H1 : Hp} {aa : Addr} {us : List V} {rows : List (List Mv)} {E : XK} {Q : VK} (h : H1 aa = some (.lst us)) (hr : Rw (RwAt H1) us rows) (l1 : 1 ≤ rows.length) (hg : GoodWb rows) (q : ∀ o srs H', SrRel rows srs → WebAt WC H' o srs → Kp [] H1 H' → Q (.ref o) H') : mkP WC (spWI WC) [] E Q [.ref aa] H1 := mkWeb (Qc := Q) h hr l1 hg q
theorem srRel_uniq {rows s s' : List (List Mv)} (g : GoodWb rows) (h : SrRel rows s) (h' : SrRel rows s') : s = s' := by
  refine List.ext_getElem? fun i => ?_
  by_cases hi : i < rows.length
  · have er : rows[i]? = some rows[i] := List.getElem?_eq_getElem hi
    obtain ⟨x, ex, hx⟩ := h.at_ er
    obtain ⟨y, ey, hy⟩ := h'.at_ er
    rw [ex, ey, srt_uniq (g.good _ (List.getElem_mem hi)) hx hy]
  · rw [List.getElem?_eq_none (by rw [h.len]; omega), List.getElem?_eq_none (by rw [h'.len]; omega)]
section
variable {P : Program} {w : World} {K : PySem.W.Frag} {mg : Str → Option Value} {base : Heap} {WC NS PC OW CE : Addr} {t1 : Tok}
def spLaw (K : PySem.W.Frag) : Sp := fun vs H Q _ => ∃ (a : Addr) (ns : List Int), vs = [.ref a] ∧ Scr K H a ns ∧ ∀ H', Q (.bl true) H'
theorem ok_law {f : Addr} {fd : FuncData} (D : Df K mg "law" s_law ["_law_script"] f fd) (T : BtL mg) (C : WbC K mg WC) (PP : PpC K mg PC)
    {gc : Addr} {gdc : FuncData} (D_law_cell : Df K mg "_law_cell" s_law_cell ["_law_script", "_law_k"] gc gdc) (G_law_cell : FnOk P w K mg base CX0 1 gc gdc ["_law_script", "_law_k"] (spCell K))
    {gw : Addr} {gdw : FuncData} (D_law_draws : Df K mg "_law_draws" s_law_draws ["_law_cell_here", "_law_spans"] gw gdw) (G_law_draws : FnOk P w K mg base CX0 1 gw gdw ["_law_cell_here", "_law_spans"] (spDraws K))
    {gm : Addr} {gdm : FuncData} (D_law_menu : Df K mg "_law_menu" s_law_menu ["_law_cell_here", "_law_many"] gm gdm) (G_law_menu : FnOk P w K mg base CX0 2 gm gdm ["_law_cell_here", "_law_many"] spMenu)
    {gf : Addr} {gdf : FuncData} (D_law_free : Df K mg "_law_free" s_law_free ["_law_cell_here", "_law_menu_here", "_law_most"] gf gdf) (G_law_free : FnOk P w K mg base CX0 2 gf gdf ["_law_cell_here", "_law_menu_here", "_law_most"] spFree)
    {gli : Addr} {gdli : FuncData} (D_law_list : Df K mg "_law_list" s_law_list ["_law_cell_here", "_law_size", "_law_width"] gli gdli) (G_law_list : FnOk P w K mg base CX0 2 gli gdli ["_law_cell_here", "_law_size", "_law_width"] spList)
    {gy : Addr} {gdy : FuncData} (D_law_copy : Df K mg "_law_copy" s_law_copy ["_law_rows"] gy gdy) (G_law_copy : FnOk P w K mg base CX0 1 gy gdy ["_law_rows"] spCopy)
    {gt : Addr} {gdt : FuncData} (D_law_turned : Df K mg "_law_turned" s_law_turned ["_law_rows"] gt gdt) (G_law_turned : FnOk P w K mg base CX0 1 gt gdt ["_law_rows"] spTurned)
    {g2 : Addr} {gd2 : FuncData} (D_law_same : Df K mg "_law_same" s_law_same ["_law_told", "_law_due"] g2 gd2) (G_law_same : FnOk P w K mg base CX0 3 g2 gd2 ["_law_told", "_law_due"] (spSame 2))
    {gh : Addr} {gdh : FuncData} (D_law_has : Df K mg "_law_has" s_law_has ["_law_paper", "_law_due", "_law_size", "_law_width"] gh gdh) (G_law_has : FnOk P w K mg base CX0 6 gh gdh ["_law_paper", "_law_due", "_law_size", "_law_width"] (spHas PC WC))
    {gb : Addr} {gdb : FuncData} (D_law_between : Df K mg "_law_between" s_law_between ["_law_paper", "_law_low", "_law_high"] gb gdb) (G_law_between : FnOk P w K mg base CX0 5 gb gdb ["_law_paper", "_law_low", "_law_high"] (spBtw PC WC))
    {go : Addr} {gdo : FuncData} (D_law_other : Df K mg "_law_other" s_law_other ["_law_rows", "_law_menu_here", "_law_cell_here"] go gdo) (G_law_other : FnOk P w K mg base CX0 2 go gdo ["_law_rows", "_law_menu_here", "_law_cell_here"] spOther)
    {ga : Addr} {gda : FuncData} (D_law_apart : Df K mg "_law_apart" s_law_apart ["_law_first", "_law_second"] ga gda) (G_law_apart : FnOk P w K mg base CX0 8 ga gda ["_law_first", "_law_second"] (spApart PC WC))
    {gp : Addr} {gdp : FuncData} (D_law_bad_pairs : Df K mg "_law_bad_pairs" s_law_bad_pairs ["_law_low", "_law_high", "_law_pairs", "_law_cell_here"] gp gdp) (G_law_bad_pairs : FnOk P w K mg base CX0 8 gp gdp ["_law_low", "_law_high", "_law_pairs", "_law_cell_here"] (spBadP WC))
    {fo : Addr} {fdo : FuncData} (BC_Paper_or : BinC K PC fo .BitOr) (b_Paper_or : Binds K fdo ["self", "other"] []) (G_Paper_or : FnOk P w K mg base (L2.CX P w) 6 fo fdo ["self", "other"] (spPOr PC WC OW))
    {fP : Addr} {fdP : FuncData} (M_Paper : Mk K PC fP) (bI_Paper : Binds K fdP ["self", "low", "high", "pairs"] []) (G_Paper_init : FnOk P w K mg base (L2.CX P w) 4 fP fdP ["self", "low", "high", "pairs"] (spPapI PC WC NS))
    {fI : Addr} {fdI : FuncData} (M_Web : Mk K WC fI) (bI_Web : Binds K fdI ["self", "rows"] []) (G_Web_init : FnOk P w K mg base (L2.CX P w) 5 fI fdI ["self", "rows"] (spWI WC)) : FnOk P w K mg base CX0 9 f fd ["_law_script"] (spLaw K) := by
  refine D.F.ok sc_law (fun vs H Q E h => ?_) (fun cdv A outer s H vs Q E hr h => ?_)
  · obtain ⟨_, _, rfl, _⟩ := h
    rfl
  · obtain ⟨a, ns, rfl, hS, q⟩ := h
    refine ⟨_, (pss_cons (ps_set (i := 1) sc_law.nd rfl (Or.inl rfl) (pe_call G_law_draws (hr.mono (by decide)) rfl D_law_draws.g D_law_draws.F.kp D_law_draws.b .nil pass0 (pa_cons (pe_call G_law_cell (hr.mono (by decide)) rfl D_law_cell.g D_law_cell.F.kp D_law_cell.b .nil pass0 (pa_cons (pv 0) (pa_cons pe_int pa_nil))) (pa_cons (pe_lst (pa_cons pe_int pa_nil)) pa_nil))))
      (pss_cons (ps_set (i := 2) sc_law.nd rfl (Or.inl rfl) (pe_call G_law_menu (hr.mono (by decide)) rfl D_law_menu.g D_law_menu.F.kp D_law_menu.b .nil pass0 (pa_cons (pe_call G_law_cell (hr.mono (by decide)) rfl D_law_cell.g D_law_cell.F.kp D_law_cell.b .nil pass0 (pa_cons (pv 0) (pa_cons pe_int pa_nil))) (pa_cons (pe_ix (r := rIxL K) ix_list (pe_lst (pa_cons pe_int (pa_cons pe_int (pa_cons pe_int (pa_cons pe_int (pa_cons pe_int (pa_cons pe_int (pa_cons pe_int pa_nil)))))))) (pe_ix (r := rIxL K) ix_list (pv 1) pe_int (fun _ _ => rfl)) (fun _ _ => rfl)) pa_nil))))
      (pss_cons (ps_set (i := 3) sc_law.nd rfl (Or.inl rfl) (pe_call G_law_free (hr.mono (by decide)) rfl D_law_free.g D_law_free.F.kp D_law_free.b .nil pass0 (pa_cons (pe_call G_law_cell (hr.mono (by decide)) rfl D_law_cell.g D_law_cell.F.kp D_law_cell.b .nil pass0 (pa_cons (pv 0) (pa_cons pe_int pa_nil))) (pa_cons (pv 2) (pa_cons pe_int pa_nil)))))
      (pss_cons (ps_set (i := 4) sc_law.nd rfl (Or.inl rfl) (pe_call G_law_free (hr.mono (by decide)) rfl D_law_free.g D_law_free.F.kp D_law_free.b .nil pass0 (pa_cons (pe_call G_law_cell (hr.mono (by decide)) rfl D_law_cell.g D_law_cell.F.kp D_law_cell.b .nil pass0 (pa_cons (pv 0) (pa_cons pe_int pa_nil))) (pa_cons (pv 2) (pa_cons pe_int pa_nil)))))
      (pss_cons (ps_set (i := 5) sc_law.nd rfl (Or.inl rfl) (pe_callB (id := "len") (r := Evl.rLenS K) call_len_seq (by rfl) T.b_len PySem.boot_len (pa_cons (pv 3) pa_nil)))
      (pss_cons (ps_set (i := 6) sc_law.nd rfl (Or.inl rfl) (pe_callB (id := "len") (r := Evl.rLenS K) call_len_seq (by rfl) T.b_len PySem.boot_len (pa_cons (pv 4) pa_nil)))
      (pss_cons (ps_set (i := 7) sc_law.nd rfl (Or.inl rfl) (pe_call G_law_list (hr.mono (by decide)) rfl D_law_list.g D_law_list.F.kp D_law_list.b .nil pass0 (pa_cons (pe_call G_law_cell (hr.mono (by decide)) rfl D_law_cell.g D_law_cell.F.kp D_law_cell.b .nil pass0 (pa_cons (pv 0) (pa_cons pe_int pa_nil))) (pa_cons (pv 5) (pa_cons (pv 6) pa_nil)))))
      (pss_cons (ps_set (i := 8) sc_law.nd rfl (Or.inl rfl) (pe_call G_law_list (hr.mono (by decide)) rfl D_law_list.g D_law_list.F.kp D_law_list.b .nil pass0 (pa_cons (pe_call G_law_cell (hr.mono (by decide)) rfl D_law_cell.g D_law_cell.F.kp D_law_cell.b .nil pass0 (pa_cons (pv 0) (pa_cons pe_int pa_nil))) (pa_cons (pv 5) (pa_cons (pv 6) pa_nil)))))
      (pss_cons (ps_set (i := 9) sc_law.nd rfl (Or.inl rfl) (pe_lst (pa_cons (pe_make M_Web G_Web_init (hr.mono (by decide)) rfl C.k bI_Web .nil passL (pa_cons (pe_call G_law_copy (hr.mono (by decide)) rfl D_law_copy.g D_law_copy.F.kp D_law_copy.b .nil pass0 (pa_cons (pv 3) pa_nil)) pa_nil)) (pa_cons (pe_make M_Web G_Web_init (hr.mono (by decide)) rfl C.k bI_Web .nil passL (pa_cons (pe_call G_law_copy (hr.mono (by decide)) rfl D_law_copy.g D_law_copy.F.kp D_law_copy.b .nil pass0 (pa_cons (pv 4) pa_nil)) pa_nil)) pa_nil))))
      (pss_cons (ps_set (i := 10) sc_law.nd rfl (Or.inl rfl) (pe_lst (pa_cons (pe_make M_Web G_Web_init (hr.mono (by decide)) rfl C.k bI_Web .nil passL (pa_cons (pe_call G_law_turned (hr.mono (by decide)) rfl D_law_turned.g D_law_turned.F.kp D_law_turned.b .nil pass0 (pa_cons (pv 3) pa_nil)) pa_nil)) (pa_cons (pe_make M_Web G_Web_init (hr.mono (by decide)) rfl C.k bI_Web .nil passL (pa_cons (pe_call G_law_turned (hr.mono (by decide)) rfl D_law_turned.g D_law_turned.F.kp D_law_turned.b .nil pass0 (pa_cons (pv 4) pa_nil)) pa_nil)) pa_nil))))
      (pss_cons (ps_set (i := 11) sc_law.nd rfl (Or.inl rfl) (pe_callTy call_list_of (by rfl) T.b_list (by decide +kernel) (pa_cons (pv 7) pa_nil)))
      (pss_cons (ps_set (i := 12) sc_law.nd rfl (Or.inl rfl) (pe_make M_Paper G_Paper_init (hr.mono (by decide)) rfl PP.k bI_Paper .nil passL (pa_cons (pe_ix (r := rIxL K) ix_list (pv 9) pe_int (fun _ _ => rfl)) (pa_cons (pe_ix (r := rIxL K) ix_list (pv 9) pe_int (fun _ _ => rfl)) (pa_cons (pv 11) pa_nil)))))
      (pss_cons (ps_set (i := 13) sc_law.nd rfl (Or.inl rfl) (pe_make M_Paper G_Paper_init (hr.mono (by decide)) rfl PP.k bI_Paper .nil passL (pa_cons (pe_ix (r := rIxL K) ix_list (pv 10) pe_int (fun _ _ => rfl)) (pa_cons (pe_ix (r := rIxL K) ix_list (pv 10) pe_int (fun _ _ => rfl)) (pa_cons (pe_callTy call_list_of (by rfl) T.b_list (by decide +kernel) (pa_cons (pv 8) pa_nil)) pa_nil)))))
      (pss_cons (ps_if (pt_not (pt_val (pe_call G_law_same (hr.mono (by decide)) rfl D_law_same.g D_law_same.F.kp D_law_same.b .nil pass0 (pa_cons (pv 11) (pa_cons (pv 7) pa_nil))))) (pss_one (ps_ret pe_bl)) pss_nil)
      (pss_cons (ps_expr (pe_bm PySem.F.plainAttrs_list PySem.F.slot_list_append PySem.F.type_list_append mt_append (pv 11) (pa_cons (pe_tup (pa_cons (pe_op op_sub (pv 5) pe_int) (pa_cons (pe_op op_sub (pv 6) pe_int) pa_nil))) pa_nil)))
      (pss_cons (ps_set (i := 14) sc_law.nd rfl (Or.inl rfl) (pe_op (op_binO BC_Paper_or G_Paper_or b_Paper_or (hr.mono (by decide)) passL) (pv 12) (pv 13)))
      (pss_cons (ps_if (PW.pt (pw_or (pt_not (pt_val (pe_call G_law_has (hr.mono (by decide)) rfl D_law_has.g D_law_has.F.kp D_law_has.b .nil pass0 (pa_cons (pv 14) (pa_cons (pe_op op_cat (pv 7) (pv 8)) (pa_cons (pv 5) (pa_cons (pv 6) pa_nil))))))) (pw_or1 (pt_not (pt_val (pe_call G_law_has (hr.mono (by decide)) rfl D_law_has.g D_law_has.F.kp D_law_has.b .nil pass0 (pa_cons (pv 12) (pa_cons (pv 7) (pa_cons (pv 5) (pa_cons (pv 6) pa_nil)))))))))) (pss_one (ps_ret pe_bl)) pss_nil)
      (pss_cons (ps_if (PW.pt (pw_or (pt_not (pt_val (pe_call G_law_has (hr.mono (by decide)) rfl D_law_has.g D_law_has.F.kp D_law_has.b .nil pass0 (pa_cons (pe_op (op_binO BC_Paper_or G_Paper_or b_Paper_or (hr.mono (by decide)) passL) (pv 13) (pv 12)) (pa_cons (pe_op op_cat (pv 7) (pv 8)) (pa_cons (pv 5) (pa_cons (pv 6) pa_nil))))))) (pw_or1 (pt_not (pt_val (pe_call G_law_has (hr.mono (by decide)) rfl D_law_has.g D_law_has.F.kp D_law_has.b .nil pass0 (pa_cons (pv 13) (pa_cons (pv 8) (pa_cons (pv 5) (pa_cons (pv 6) pa_nil)))))))))) (pss_one (ps_ret pe_bl)) pss_nil)
      (pss_cons (ps_if (PW.pt (pw_or (pt_not (pt_val (pe_call G_law_between (hr.mono (by decide)) rfl D_law_between.g D_law_between.F.kp D_law_between.b .nil pass0 (pa_cons (pv 12) (pa_cons (pv 3) (pa_cons (pv 4) pa_nil)))))) (pw_or (pt_not (pt_val (pe_call G_law_between (hr.mono (by decide)) rfl D_law_between.g D_law_between.F.kp D_law_between.b .nil pass0 (pa_cons (pv 14) (pa_cons (pv 3) (pa_cons (pv 4) pa_nil)))))) (pw_or1 (pt_not (pt_val (pe_call G_law_between (hr.mono (by decide)) rfl D_law_between.g D_law_between.F.kp D_law_between.b .nil pass0 (pa_cons (pv 13) (pa_cons (pv 3) (pa_cons (pv 4) pa_nil)))))))))) (pss_one (ps_ret pe_bl)) pss_nil)
      (pss_cons (ps_set (i := 15) sc_law.nd rfl (Or.inl rfl) (pe_make M_Web G_Web_init (hr.mono (by decide)) rfl C.k bI_Web .nil passL (pa_cons (pe_call G_law_other (hr.mono (by decide)) rfl D_law_other.g D_law_other.F.kp D_law_other.b .nil pass0 (pa_cons (pv 3) (pa_cons (pv 2) (pa_cons (pe_call G_law_cell (hr.mono (by decide)) rfl D_law_cell.g D_law_cell.F.kp D_law_cell.b .nil pass0 (pa_cons (pv 0) (pa_cons pe_int pa_nil))) pa_nil)))) pa_nil)))
      (pss_cons (ps_set (i := 16) sc_law.nd rfl (Or.inl rfl) (pe_make M_Web G_Web_init (hr.mono (by decide)) rfl C.k bI_Web .nil passL (pa_cons (pe_call G_law_other (hr.mono (by decide)) rfl D_law_other.g D_law_other.F.kp D_law_other.b .nil pass0 (pa_cons (pv 4) (pa_cons (pv 2) (pa_cons (pe_call G_law_cell (hr.mono (by decide)) rfl D_law_cell.g D_law_cell.F.kp D_law_cell.b .nil pass0 (pa_cons (pv 0) (pa_cons pe_int pa_nil))) pa_nil)))) pa_nil)))
      (pss_cons (ps_for PassesOwn.never rfl (pi_list (pe_lst (pa_cons (pe_make M_Paper G_Paper_init (hr.mono (by decide)) rfl PP.k bI_Paper .nil passL (pa_cons (pv 15) (pa_cons (pe_ix (r := rIxL K) ix_list (pv 10) pe_int (fun _ _ => rfl)) (pa_cons (pe_callTy call_list_of (by rfl) T.b_list (by decide +kernel) (pa_cons (pv 8) pa_nil)) pa_nil)))) (pa_cons (pe_make M_Paper G_Paper_init (hr.mono (by decide)) rfl PP.k bI_Paper .nil passL (pa_cons (pe_ix (r := rIxL K) ix_list (pv 10) pe_int (fun _ _ => rfl)) (pa_cons (pv 16) (pa_cons (pe_callTy call_list_of (by rfl) T.b_list (by decide +kernel) (pa_cons (pv 8) pa_nil)) pa_nil)))) (pa_cons (pe_make M_Paper G_Paper_init (hr.mono (by decide)) rfl PP.k bI_Paper .nil passL (pa_cons (pv 15) (pa_cons (pv 16) (pa_cons (pe_lst pa_nil) pa_nil)))) pa_nil))))) (pg_name (i := 17) sc_law.nd rfl (Or.inl rfl)) (pss_one (ps_if (PW.pt (pw_or (pt_not (pt_val (pe_call G_law_apart (hr.mono (by decide)) rfl D_law_apart.g D_law_apart.F.kp D_law_apart.b .nil pass0 (pa_cons (pv 12) (pa_cons (pv 17) pa_nil))))) (pw_or1 (pt_not (pt_val (pe_call G_law_apart (hr.mono (by decide)) rfl D_law_apart.g D_law_apart.F.kp D_law_apart.b .nil pass0 (pa_cons (pv 17) (pa_cons (pv 12) pa_nil)))))))) (pss_one (ps_ret pe_bl)) pss_nil)))
      (pss_cons (ps_if (pt_not (pt_val (pe_call G_law_has (hr.mono (by decide)) rfl D_law_has.g D_law_has.F.kp D_law_has.b .nil pass0 (pa_cons (pe_make M_Paper G_Paper_init (hr.mono (by decide)) rfl PP.k bI_Paper .nil passL (pa_cons (pv 15) (pa_cons (pv 16) (pa_cons (pe_lst pa_nil) pa_nil)))) (pa_cons (pe_lst pa_nil) (pa_cons (pv 5) (pa_cons (pv 6) pa_nil))))))) (pss_one (ps_ret pe_bl)) pss_nil)
      (pss_one (ps_ret (pe_call G_law_bad_pairs (hr.mono (by decide)) rfl D_law_bad_pairs.g D_law_bad_pairs.F.kp D_law_bad_pairs.b .nil pass0 (pa_cons (pe_ix (r := rIxL K) ix_list (pv 9) pe_int (fun _ _ => rfl)) (pa_cons (pe_ix (r := rIxL K) ix_list (pv 9) pe_int (fun _ _ => rfl)) (pa_cons (pv 7) (pa_cons (pe_call G_law_cell (hr.mono (by decide)) rfl D_law_cell.g D_law_cell.F.kp D_law_cell.b .nil pass0 (pa_cons (pv 0) (pa_cons pe_int pa_nil))) pa_nil)))))))))))))))))))))))))))))), ?_⟩
    try simp (maxSteps := 1000000) only [tSeq, tTest, tOp, tUn, tCB, tCons, tNil, tVar, tC, rI0, rI, rU, rEq, rNe, tRet, tRetN, tAsg, gName, gSub, tBM, tBM0, tNext, tB, tNot, tAnd, tOr, tIf, tCall, tDrop, tBreak, tCont, L2.start, tDGet, sDPut, tTup, tLst, tDNewK, tRevL, rCat, rAppend, rPop, rSetL, tAndV, tOrV, tNotV, tSl, tPart, tNoPart, tM1, gTup, gCons, gNil, cxK, cxnK, List.map_cons, List.map_nil, List.length_cons, List.length_nil, List.replicate, List.cons_append, List.nil_append, List.append_nil, List.set_cons_zero, List.set_cons_succ, List.getElem?_cons_zero, List.getElem?_cons_succ, Option.some.injEq, V.ref.injEq, V.int.injEq, V.str.injEq, V.bl.injEq, V.ty.injEq, exists_eq_left', exists_eq_left, exists_and_left, List.cons.injEq, and_true, true_and, sc_ii, sc_ss, sc_bb, sc_ni, sc_in, sc_is, sc_si, sc_nn, decide_true, decide_false, reduceCtorEq, Bool.false_eq_true, if_true, if_false, ite_true, ite_false, exists_const, eq_self, false_and, and_false, or_false, false_or, exists_false, Evl.rLenS, rSum, wipe, tYes, exists_eq, exists_eq', rIxL, rIxT, rIxS, exists_and_right, gt_iff_lt, not_true_eq_false, not_false_eq_true, Bool.not_true, Bool.not_false, decide_eq_true_eq, Nat.reduceSub, Nat.reduceAdd, List.append_assoc, tChain, tDIn, tDNotIn, sDDel, tAug, ipI, rInt1_int, rInt1_bl]
    refine ⟨a, 0, ns, rfl, hS, by decide, fun r0 H1 r00 k1 => ⟨by rw [sizeLine_eq]; decide, fun p np => ?_⟩⟩
    have kp := (Kp.new np : Kp [] H1 (upd H1 p (.lst [.int 7])))
    refine ⟨r0, p, [7], rfl, r00, sq_l upd_same, by decide, fun x hx => ?_, fun dr sh H2 n2 hsh dlen hdr k2 => ?_⟩
    · rw [List.mem_singleton.mp hx]; decide
    obtain ⟨z0, rfl⟩ : ∃ z0, dr = [z0] := by
      match dr, dlen with
      | [z0], _ => exact ⟨z0, rfl⟩
    have b0 := hdr 0 z0 7 rfl rfl
    have k02 := (k1.trans kp).trans k2
    refine ⟨a, 1, ns, rfl, hS.kp k02, by decide, fun r1 H3 r10 k3 => ⟨by rw [sizeLine_eq]; decide, fun p2 np2 => ?_⟩⟩
    have kp2 := (Kp.new np2 : Kp [] H3 (upd H3 p2 (.lst [.int 3, .int 3, .int 3, .int 4, .int 5, .int 6, .int 8])))
    have hp2 : (upd H3 p2 (.lst [.int 3, .int 3, .int 3, .int 4, .int 5, .int 6, .int 8])) p2 = some (.lst (manyL.map V.int)) := upd_same
    generalize upd H3 p2 (.lst [.int 3, .int 3, .int 3, .int 4, .int 5, .int 6, .int 8]) = H4 at kp2 hp2 ⊢
    obtain ⟨n1, en1⟩ := Int.eq_ofNat_of_zero_le b0.1
    obtain ⟨m, m3, m8, em⟩ := many_at n1 (by omega)
    have hsh4 := (k3.trans kp2) _ _ not0 hsh
    refine ⟨sh, rfl, _, sq_l hsh4, _, rfl, _, z0, rfl, sq_l hp2, _, atI_of b0.1 (by rw [List.getElem?_map, show z0.toNat = n1 by omega, em]; rfl), ?_⟩
    refine ⟨r1, m, rfl, r10, m3, m8, fun mn us ds H5 nm hmn hus hm k5 => ?_⟩
    have k05 := ((k02.trans k3).trans kp2).trans k5
    refine ⟨a, 2, ns, rfl, hS.kp k05, by decide, fun r2 H6 r20 k6 => ?_⟩
    have hmn6 := k6 _ _ not0 hmn
    have hus6 : Rw (TDv H6) us ds := hus.mono fun _ _ z => z.tp k6.tps
    refine ⟨r2, mn, us, ds, rfl, r20, hmn6, hus6, hm, fun al rs1 rows1 H7 nal hal hrs1 l11 l16 hg1 k7 => ?_⟩
    have k07 := (k05.trans k6).trans k7
    refine ⟨a, 3, ns, rfl, hS.kp k07, by decide, fun r3 H8 r30 k8 => ?_⟩
    have k78 := k7.trans k8
    refine ⟨r3, mn, us, ds, rfl, r30, k78 _ _ not0 hmn6, hus6.mono fun _ _ z => z.tp k78.tps, hm, fun ah rs2 rows2 H9 nah hah hrs2 l21 l26 hg2 k9 => ?_⟩
    have k89 := k8.trans k9
    have k09 := k07.trans k89
    have hal9 := k89 _ _ not0 hal
    have hrs1A : Rw (RwAt H9) rs1 rows1 := (hrs1.mono fun _ _ z => z.rw_).mono fun _ _ z => z.kd k89.kd
    have hrs2A : Rw (RwAt H9) rs2 rows2 := hrs2.mono fun _ _ z => z.rw_
    have hmn9 := (k78.trans k9) _ _ not0 hmn6
    have hus9 : Rw (TDv H9) us ds := hus6.mono fun _ _ z => z.tp (k78.trans k9).tps
    have lr1 : rs1.length = rows1.length := hrs1.len
    have lr2 : rs2.length = rows2.length := hrs2.len
    have gw1 : GoodWb rows1 := ⟨by omega, fun r hr2 => (hg1 r hr2).1⟩
    have gw2 : GoodWb rows2 := ⟨by omega, fun r hr2 => (hg2 r hr2).1⟩
    refine ⟨al, rfl, _, .inl (sq_l hal9), ah, rfl, _, .inl (sq_l hah), ?_⟩
    rw [lr1, lr2]
    have hdum : True := trivial
    refine ⟨a, 4, ns, rfl, hS.kp k09, by decide, fun r4 H10 r40 k10 => ?_⟩
    refine ⟨r4, rows1.length, rows2.length, rfl, r40, by omega, by omega, by omega, by omega, fun lf us1 gs1 H11 nlf hlf hus1 lg1 hin1 k11 => ?_⟩
    have k911 := k10.trans k11
    refine ⟨a, 5, ns, rfl, hS.kp (k09.trans k911), by decide, fun r5 H12 r50 k12 => ?_⟩
    refine ⟨r5, rows1.length, rows2.length, rfl, r50, by omega, by omega, by omega, by omega, fun lsd us2 gs2 H13 nls hls hus2 lg2 hin2 k13 => ?_⟩
    have k1113 := k12.trans k13
    have k913 := k911.trans k1113
    have hal13 := k913 _ _ not0 hal9
    have hah13 := k913 _ _ not0 hah
    have hrs1B : Rw (RwAt H13) rs1 rows1 := hrs1A.mono fun _ _ z => z.kd k913.kd
    have hrs2B : Rw (RwAt H13) rs2 rows2 := hrs2A.mono fun _ _ z => z.kd k913.kd
    have hlf13 := k1113 _ _ not0 hlf
    have hus1B : Rw (PrAt H13) us1 gs1 := hus1.mono fun _ _ z => z.tp k1113.tps
    have cpy : ∀ (G : Hp) (al : Addr) (rs : List V) (rows : List (List Mv)) (R : List V → Hp → Prop), G al = some (.lst rs) → Rw (RwAt G) rs rows → rows.length ≤ 100 → (∀ aa us H1, H1 aa = some (.lst us) → Rw (RwAt H1) us rows → Kp [] G H1 → R [.ref aa] H1) → spCopy [.ref al] G (fun x H1 => R [x] H1) E0 := fun G al rs rows R h1 h2 h3 h => ⟨al, rs, rows, rfl, h1, h2, h3, fun ld rs' G1 nld hld hr' k => h ld rs' G1 hld (hr'.mono fun _ _ z => z.rw_) k⟩
    have trn : ∀ (G : Hp) (al : Addr) (rs : List V) (rows : List (List Mv)) (R : List V → Hp → Prop), G al = some (.lst rs) → Rw (RwAt G) rs rows → rows.length ≤ 100 → (∀ aa us H1, H1 aa = some (.lst us) → Rw (RwAt H1) us (rows.map List.reverse) → Kp [] G H1 → R [.ref aa] H1) → spTurned [.ref al] G (fun x H1 => R [x] H1) E0 := fun G al rs rows R h1 h2 h3 h => ⟨al, rs, rows, rfl, h1, h2, h3, fun ld rs' G1 nld hld hr' k => h ld rs' G1 hld hr' k⟩
    try simp (maxSteps := 1000000) only [tSeq, tTest, tOp, tUn, tCB, tCons, tNil, tVar, tC, rI0, rI, rU, rEq, rNe, tRet, tRetN, tAsg, gName, gSub, tBM, tBM0, tNext, tB, tNot, tAnd, tOr, tIf, tCall, tDrop, tBreak, tCont, L2.start, tDGet, sDPut, tTup, tLst, tDNewK, tRevL, rCat, rAppend, rPop, rSetL, tAndV, tOrV, tNotV, tSl, tPart, tNoPart, tM1, gTup, gCons, gNil, cxK, cxnK, List.map_cons, List.map_nil, List.length_cons, List.length_nil, List.replicate, List.cons_append, List.nil_append, List.append_nil, List.set_cons_zero, List.set_cons_succ, List.getElem?_cons_zero, List.getElem?_cons_succ, Option.some.injEq, V.ref.injEq, V.int.injEq, V.str.injEq, V.bl.injEq, V.ty.injEq, exists_eq_left', exists_eq_left, exists_and_left, List.cons.injEq, and_true, true_and, sc_ii, sc_ss, sc_bb, sc_ni, sc_in, sc_is, sc_si, sc_nn, decide_true, decide_false, reduceCtorEq, Bool.false_eq_true, if_true, if_false, ite_true, ite_false, exists_const, eq_self, false_and, and_false, or_false, false_or, exists_false, Evl.rLenS, rSum, wipe, tYes, exists_eq, exists_eq', rIxL, rIxT, rIxS, exists_and_right, gt_iff_lt, not_true_eq_false, not_false_eq_true, Bool.not_true, Bool.not_false, decide_eq_true_eq, Nat.reduceSub, Nat.reduceAdd, List.append_assoc, tChain, tDIn, tDNotIn, sDDel, tAug, ipI, rInt1_int, rInt1_bl]
    refine mkWebT rows1 (fun R r => ?_) l11 gw1 fun w1 s1 G1 rel1 W1 kw1 => ?_
    · try simp (maxSteps := 1000000) only [tSeq, tIfS, tTest, tOp, tUn, tCB, tCons, tNil, tVar, tC, rI0, rI, rU, rEq, rNe, tRet, tRetN, tAsg, gName, gSub, tBM, tBM0, tNext, tB, tNot, tAnd, tOr, tIf, tCall, tDrop, tBreak, tCont, L2.start, tDGet, sDPut, tTup, tLst, tDNewK, tRevL, rCat, rAppend, rPop, rSetL, tAndV, tOrV, tNotV, tSl, tPart, tNoPart, tM1, gTup, gCons, gNil, cxK, cxnK, List.map_cons, List.map_nil, List.length_cons, List.length_nil, List.replicate, List.cons_append, List.nil_append, List.append_nil, List.set_cons_zero, List.set_cons_succ, List.getElem?_cons_zero, List.getElem?_cons_succ, Option.some.injEq, V.ref.injEq, V.int.injEq, V.str.injEq, V.bl.injEq, V.ty.injEq, exists_eq_left', exists_eq_left, exists_and_left, List.cons.injEq, and_true, true_and, sc_ii, sc_ss, sc_bb, sc_ni, sc_in, sc_is, sc_si, sc_nn, decide_true, decide_false, reduceCtorEq, Bool.false_eq_true, if_true, if_false, ite_true, ite_false, exists_const, eq_self, false_and, and_false, or_false, false_or, exists_false, Evl.rLenS, rSum, wipe, tYes, exists_eq, exists_eq', rIxL, rIxT, rIxS, exists_and_right, gt_iff_lt, not_true_eq_false, not_false_eq_true, Bool.not_true, Bool.not_false, decide_eq_true_eq, Nat.reduceSub, Nat.reduceAdd, List.append_assoc, tChain, tDIn, tDNotIn, sDDel, tAug, ipI, rInt1_int, rInt1_bl]
      exact cpy H13 al rs1 rows1 R hal13 hrs1B (by omega) r
    try simp (maxSteps := 1000000) only [tSeq, tTest, tOp, tUn, tCB, tCons, tNil, tVar, tC, rI0, rI, rU, rEq, rNe, tRet, tRetN, tAsg, gName, gSub, tBM, tBM0, tNext, tB, tNot, tAnd, tOr, tIf, tCall, tDrop, tBreak, tCont, L2.start, tDGet, sDPut, tTup, tLst, tDNewK, tRevL, rCat, rAppend, rPop, rSetL, tAndV, tOrV, tNotV, tSl, tPart, tNoPart, tM1, gTup, gCons, gNil, cxK, cxnK, List.map_cons, List.map_nil, List.length_cons, List.length_nil, List.replicate, List.cons_append, List.nil_append, List.append_nil, List.set_cons_zero, List.set_cons_succ, List.getElem?_cons_zero, List.getElem?_cons_succ, Option.some.injEq, V.ref.injEq, V.int.injEq, V.str.injEq, V.bl.injEq, V.ty.injEq, exists_eq_left', exists_eq_left, exists_and_left, List.cons.injEq, and_true, true_and, sc_ii, sc_ss, sc_bb, sc_ni, sc_in, sc_is, sc_si, sc_nn, decide_true, decide_false, reduceCtorEq, Bool.false_eq_true, if_true, if_false, ite_true, ite_false, exists_const, eq_self, false_and, and_false, or_false, false_or, exists_false, Evl.rLenS, rSum, wipe, tYes, exists_eq, exists_eq', rIxL, rIxT, rIxS, exists_and_right, gt_iff_lt, not_true_eq_false, not_false_eq_true, Bool.not_true, Bool.not_false, decide_eq_true_eq, Nat.reduceSub, Nat.reduceAdd, List.append_assoc, tChain, tDIn, tDNotIn, sDDel, tAug, ipI, rInt1_int, rInt1_bl]
    refine mkWebT rows2 (fun R r => ?_) l21 gw2 fun w2 s2 G2 rel2 W2 kw2 => ?_
    · try simp (maxSteps := 1000000) only [tSeq, tIfS, tTest, tOp, tUn, tCB, tCons, tNil, tVar, tC, rI0, rI, rU, rEq, rNe, tRet, tRetN, tAsg, gName, gSub, tBM, tBM0, tNext, tB, tNot, tAnd, tOr, tIf, tCall, tDrop, tBreak, tCont, L2.start, tDGet, sDPut, tTup, tLst, tDNewK, tRevL, rCat, rAppend, rPop, rSetL, tAndV, tOrV, tNotV, tSl, tPart, tNoPart, tM1, gTup, gCons, gNil, cxK, cxnK, List.map_cons, List.map_nil, List.length_cons, List.length_nil, List.replicate, List.cons_append, List.nil_append, List.append_nil, List.set_cons_zero, List.set_cons_succ, List.getElem?_cons_zero, List.getElem?_cons_succ, Option.some.injEq, V.ref.injEq, V.int.injEq, V.str.injEq, V.bl.injEq, V.ty.injEq, exists_eq_left', exists_eq_left, exists_and_left, List.cons.injEq, and_true, true_and, sc_ii, sc_ss, sc_bb, sc_ni, sc_in, sc_is, sc_si, sc_nn, decide_true, decide_false, reduceCtorEq, Bool.false_eq_true, if_true, if_false, ite_true, ite_false, exists_const, eq_self, false_and, and_false, or_false, false_or, exists_false, Evl.rLenS, rSum, wipe, tYes, exists_eq, exists_eq', rIxL, rIxT, rIxS, exists_and_right, gt_iff_lt, not_true_eq_false, not_false_eq_true, Bool.not_true, Bool.not_false, decide_eq_true_eq, Nat.reduceSub, Nat.reduceAdd, List.append_assoc, tChain, tDIn, tDNotIn, sDDel, tAug, ipI, rInt1_int, rInt1_bl]
      exact cpy G1 ah rs2 rows2 R (kw1 _ _ not0 hah13) (hrs2B.mono fun _ _ z => z.kd kw1.kd) (by omega) r
    try simp (maxSteps := 1000000) only [tSeq, tTest, tOp, tUn, tCB, tCons, tNil, tVar, tC, rI0, rI, rU, rEq, rNe, tRet, tRetN, tAsg, gName, gSub, tBM, tBM0, tNext, tB, tNot, tAnd, tOr, tIf, tCall, tDrop, tBreak, tCont, L2.start, tDGet, sDPut, tTup, tLst, tDNewK, tRevL, rCat, rAppend, rPop, rSetL, tAndV, tOrV, tNotV, tSl, tPart, tNoPart, tM1, gTup, gCons, gNil, cxK, cxnK, List.map_cons, List.map_nil, List.length_cons, List.length_nil, List.replicate, List.cons_append, List.nil_append, List.append_nil, List.set_cons_zero, List.set_cons_succ, List.getElem?_cons_zero, List.getElem?_cons_succ, Option.some.injEq, V.ref.injEq, V.int.injEq, V.str.injEq, V.bl.injEq, V.ty.injEq, exists_eq_left', exists_eq_left, exists_and_left, List.cons.injEq, and_true, true_and, sc_ii, sc_ss, sc_bb, sc_ni, sc_in, sc_is, sc_si, sc_nn, decide_true, decide_false, reduceCtorEq, Bool.false_eq_true, if_true, if_false, ite_true, ite_false, exists_const, eq_self, false_and, and_false, or_false, false_or, exists_false, Evl.rLenS, rSum, wipe, tYes, exists_eq, exists_eq', rIxL, rIxT, rIxS, exists_and_right, gt_iff_lt, not_true_eq_false, not_false_eq_true, Bool.not_true, Bool.not_false, decide_eq_true_eq, Nat.reduceSub, Nat.reduceAdd, List.append_assoc, tChain, tDIn, tDNotIn, sDDel, tAug, ipI, rInt1_int, rInt1_bl]
    have kw12 := kw1.trans kw2
    refine ⟨by rw [sizeLine_eq]; decide, fun pw npw => ?_⟩
    have kpw := (Kp.new npw : Kp [] G2 (upd G2 pw (.lst [.ref w1, .ref w2])))
    have hpw : (upd G2 pw (.lst [.ref w1, .ref w2])) pw = some (.lst [.ref w1, .ref w2]) := upd_same
    generalize upd G2 pw (.lst [.ref w1, .ref w2]) = G3 at kpw hpw ⊢
    have k3 := kw12.trans kpw
    refine mkWebT (rows1.map List.reverse) (fun R r => ?_) (by rw [List.length_map]; exact l11) ((PermW.rev rows1).symm.good gw1) fun w3 s3 G4 rel3 W3 kw3 => ?_
    · try simp (maxSteps := 1000000) only [tSeq, tIfS, tTest, tOp, tUn, tCB, tCons, tNil, tVar, tC, rI0, rI, rU, rEq, rNe, tRet, tRetN, tAsg, gName, gSub, tBM, tBM0, tNext, tB, tNot, tAnd, tOr, tIf, tCall, tDrop, tBreak, tCont, L2.start, tDGet, sDPut, tTup, tLst, tDNewK, tRevL, rCat, rAppend, rPop, rSetL, tAndV, tOrV, tNotV, tSl, tPart, tNoPart, tM1, gTup, gCons, gNil, cxK, cxnK, List.map_cons, List.map_nil, List.length_cons, List.length_nil, List.replicate, List.cons_append, List.nil_append, List.append_nil, List.set_cons_zero, List.set_cons_succ, List.getElem?_cons_zero, List.getElem?_cons_succ, Option.some.injEq, V.ref.injEq, V.int.injEq, V.str.injEq, V.bl.injEq, V.ty.injEq, exists_eq_left', exists_eq_left, exists_and_left, List.cons.injEq, and_true, true_and, sc_ii, sc_ss, sc_bb, sc_ni, sc_in, sc_is, sc_si, sc_nn, decide_true, decide_false, reduceCtorEq, Bool.false_eq_true, if_true, if_false, ite_true, ite_false, exists_const, eq_self, false_and, and_false, or_false, false_or, exists_false, Evl.rLenS, rSum, wipe, tYes, exists_eq, exists_eq', rIxL, rIxT, rIxS, exists_and_right, gt_iff_lt, not_true_eq_false, not_false_eq_true, Bool.not_true, Bool.not_false, decide_eq_true_eq, Nat.reduceSub, Nat.reduceAdd, List.append_assoc, tChain, tDIn, tDNotIn, sDDel, tAug, ipI, rInt1_int, rInt1_bl]
      exact trn G3 al rs1 rows1 R (k3 _ _ not0 hal13) (hrs1B.mono fun _ _ z => z.kd k3.kd) (by omega) r
    try simp (maxSteps := 1000000) only [tSeq, tTest, tOp, tUn, tCB, tCons, tNil, tVar, tC, rI0, rI, rU, rEq, rNe, tRet, tRetN, tAsg, gName, gSub, tBM, tBM0, tNext, tB, tNot, tAnd, tOr, tIf, tCall, tDrop, tBreak, tCont, L2.start, tDGet, sDPut, tTup, tLst, tDNewK, tRevL, rCat, rAppend, rPop, rSetL, tAndV, tOrV, tNotV, tSl, tPart, tNoPart, tM1, gTup, gCons, gNil, cxK, cxnK, List.map_cons, List.map_nil, List.length_cons, List.length_nil, List.replicate, List.cons_append, List.nil_append, List.append_nil, List.set_cons_zero, List.set_cons_succ, List.getElem?_cons_zero, List.getElem?_cons_succ, Option.some.injEq, V.ref.injEq, V.int.injEq, V.str.injEq, V.bl.injEq, V.ty.injEq, exists_eq_left', exists_eq_left, exists_and_left, List.cons.injEq, and_true, true_and, sc_ii, sc_ss, sc_bb, sc_ni, sc_in, sc_is, sc_si, sc_nn, decide_true, decide_false, reduceCtorEq, Bool.false_eq_true, if_true, if_false, ite_true, ite_false, exists_const, eq_self, false_and, and_false, or_false, false_or, exists_false, Evl.rLenS, rSum, wipe, tYes, exists_eq, exists_eq', rIxL, rIxT, rIxS, exists_and_right, gt_iff_lt, not_true_eq_false, not_false_eq_true, Bool.not_true, Bool.not_false, decide_eq_true_eq, Nat.reduceSub, Nat.reduceAdd, List.append_assoc, tChain, tDIn, tDNotIn, sDDel, tAug, ipI, rInt1_int, rInt1_bl]
    have k4 := k3.trans kw3
    refine mkWebT (rows2.map List.reverse) (fun R r => ?_) (by rw [List.length_map]; exact l21) ((PermW.rev rows2).symm.good gw2) fun w4 s4 G5 rel4 W4 kw4 => ?_
    · try simp (maxSteps := 1000000) only [tSeq, tIfS, tTest, tOp, tUn, tCB, tCons, tNil, tVar, tC, rI0, rI, rU, rEq, rNe, tRet, tRetN, tAsg, gName, gSub, tBM, tBM0, tNext, tB, tNot, tAnd, tOr, tIf, tCall, tDrop, tBreak, tCont, L2.start, tDGet, sDPut, tTup, tLst, tDNewK, tRevL, rCat, rAppend, rPop, rSetL, tAndV, tOrV, tNotV, tSl, tPart, tNoPart, tM1, gTup, gCons, gNil, cxK, cxnK, List.map_cons, List.map_nil, List.length_cons, List.length_nil, List.replicate, List.cons_append, List.nil_append, List.append_nil, List.set_cons_zero, List.set_cons_succ, List.getElem?_cons_zero, List.getElem?_cons_succ, Option.some.injEq, V.ref.injEq, V.int.injEq, V.str.injEq, V.bl.injEq, V.ty.injEq, exists_eq_left', exists_eq_left, exists_and_left, List.cons.injEq, and_true, true_and, sc_ii, sc_ss, sc_bb, sc_ni, sc_in, sc_is, sc_si, sc_nn, decide_true, decide_false, reduceCtorEq, Bool.false_eq_true, if_true, if_false, ite_true, ite_false, exists_const, eq_self, false_and, and_false, or_false, false_or, exists_false, Evl.rLenS, rSum, wipe, tYes, exists_eq, exists_eq', rIxL, rIxT, rIxS, exists_and_right, gt_iff_lt, not_true_eq_false, not_false_eq_true, Bool.not_true, Bool.not_false, decide_eq_true_eq, Nat.reduceSub, Nat.reduceAdd, List.append_assoc, tChain, tDIn, tDNotIn, sDDel, tAug, ipI, rInt1_int, rInt1_bl]
      exact trn G4 ah rs2 rows2 R (k4 _ _ not0 hah13) (hrs2B.mono fun _ _ z => z.kd k4.kd) (by omega) r
    try simp (maxSteps := 1000000) only [tSeq, tTest, tOp, tUn, tCB, tCons, tNil, tVar, tC, rI0, rI, rU, rEq, rNe, tRet, tRetN, tAsg, gName, gSub, tBM, tBM0, tNext, tB, tNot, tAnd, tOr, tIf, tCall, tDrop, tBreak, tCont, L2.start, tDGet, sDPut, tTup, tLst, tDNewK, tRevL, rCat, rAppend, rPop, rSetL, tAndV, tOrV, tNotV, tSl, tPart, tNoPart, tM1, gTup, gCons, gNil, cxK, cxnK, List.map_cons, List.map_nil, List.length_cons, List.length_nil, List.replicate, List.cons_append, List.nil_append, List.append_nil, List.set_cons_zero, List.set_cons_succ, List.getElem?_cons_zero, List.getElem?_cons_succ, Option.some.injEq, V.ref.injEq, V.int.injEq, V.str.injEq, V.bl.injEq, V.ty.injEq, exists_eq_left', exists_eq_left, exists_and_left, List.cons.injEq, and_true, true_and, sc_ii, sc_ss, sc_bb, sc_ni, sc_in, sc_is, sc_si, sc_nn, decide_true, decide_false, reduceCtorEq, Bool.false_eq_true, if_true, if_false, ite_true, ite_false, exists_const, eq_self, false_and, and_false, or_false, false_or, exists_false, Evl.rLenS, rSum, wipe, tYes, exists_eq, exists_eq', rIxL, rIxT, rIxS, exists_and_right, gt_iff_lt, not_true_eq_false, not_false_eq_true, Bool.not_true, Bool.not_false, decide_eq_true_eq, Nat.reduceSub, Nat.reduceAdd, List.append_assoc, tChain, tDIn, tDNotIn, sDDel, tAug, ipI, rInt1_int, rInt1_bl]
    have k5 := k4.trans kw4
    refine ⟨by rw [sizeLine_eq]; decide, fun pa npa => ?_⟩
    have kpa := (Kp.new npa : Kp [] G5 (upd G5 pa (.lst [.ref w3, .ref w4])))
    have hpa : (upd G5 pa (.lst [.ref w3, .ref w4])) pa = some (.lst [.ref w3, .ref w4]) := upd_same
    generalize upd G5 pa (.lst [.ref w3, .ref w4]) = G6 at kpa hpa ⊢
    have k6 := k5.trans kpa
    have hlf6 := k6 _ _ not0 hlf13
    refine ⟨_, .inl (sq_l hlf6), fun hn nhn => ?_⟩
    have khn := (Kp.new nhn : Kp [] G6 (upd G6 hn (.lst us1)))
    have hhn : (upd G6 hn (.lst us1)) hn = some (.lst us1) := upd_same
    generalize hG7 : upd G6 hn (.lst us1) = G7 at khn hhn ⊢
    have k7 := k6.trans khn
    have rel3' := rel3.rev
    have rel4' := rel4.rev
    have e13 : s1 = s3 := srRel_uniq gw1 rel1 rel3'
    have e24 : s2 = s4 := srRel_uniq gw2 rel2 rel4'
    have W1_6 := W1.kp ((((kw2.trans kpw).trans kw3).trans kw4).trans kpa)
    have W2_6 := W2.kp (((kpw.trans kw3).trans kw4).trans kpa)
    have W3_6 := W3.kp (kw4.trans kpa)
    have W4_6 := W4.kp kpa
    have W1_7 := W1_6.kp khn
    have W2_7 := W2_6.kp khn
    have hpw6 := ((kw3.trans kw4).trans kpa) _ _ not0 hpw
    have hpw7 := khn _ _ not0 hpw6
    have hls6 := k6 _ _ not0 hls
    have hus2_6 : Rw (PrAt G6) us2 gs2 := hus2.mono fun _ _ z => z.tp k6.tps
    have ls1 : s1.length = rows1.length := rel1.len
    have ls2 : s2.length = rows2.length := rel2.len
    have hus1_7 : Rw (PrAt G7) us1 gs1 := hus1B.mono fun _ _ z => z.tp k7.tps
    refine mkPap w1 w2 s1 s2 gs1 W1_7 W2_7 (by omega) (by omega) (by omega) (by rw [ls1, ls2]; exact hin1) (fun R r => ?_) fun o1 ps1 G7' G8 P1 S1 m1 kq1 kq2 => ?_
    · try simp (maxSteps := 1000000) only [tSeq, tIfS, tTest, tOp, tUn, tCB, tCons, tNil, tVar, tC, rI0, rI, rU, rEq, rNe, tRet, tRetN, tAsg, gName, gSub, tBM, tBM0, tNext, tB, tNot, tAnd, tOr, tIf, tCall, tDrop, tBreak, tCont, L2.start, tDGet, sDPut, tTup, tLst, tDNewK, tRevL, rCat, rAppend, rPop, rSetL, tAndV, tOrV, tNotV, tSl, tPart, tNoPart, tM1, gTup, gCons, gNil, cxK, cxnK, List.map_cons, List.map_nil, List.length_cons, List.length_nil, List.replicate, List.cons_append, List.nil_append, List.append_nil, List.set_cons_zero, List.set_cons_succ, List.getElem?_cons_zero, List.getElem?_cons_succ, Option.some.injEq, V.ref.injEq, V.int.injEq, V.str.injEq, V.bl.injEq, V.ty.injEq, exists_eq_left', exists_eq_left, exists_and_left, List.cons.injEq, and_true, true_and, sc_ii, sc_ss, sc_bb, sc_ni, sc_in, sc_is, sc_si, sc_nn, decide_true, decide_false, reduceCtorEq, Bool.false_eq_true, if_true, if_false, ite_true, ite_false, exists_const, eq_self, false_and, and_false, or_false, false_or, exists_false, Evl.rLenS, rSum, wipe, tYes, exists_eq, exists_eq', rIxL, rIxT, rIxS, exists_and_right, gt_iff_lt, not_true_eq_false, not_false_eq_true, Bool.not_true, Bool.not_false, decide_eq_true_eq, Nat.reduceSub, Nat.reduceAdd, List.append_assoc, tChain, tDIn, tDNotIn, sDDel, tAug, ipI, rInt1_int, rInt1_bl]
      exact ⟨_, sq_l hpw7, _, rfl, _, sq_l hpw7, _, rfl, r hn us1 G7 hhn hus1_7 (Kp.refl _ _)⟩
    try simp (maxSteps := 1000000) only [tSeq, tTest, tOp, tUn, tCB, tCons, tNil, tVar, tC, rI0, rI, rU, rEq, rNe, tRet, tRetN, tAsg, gName, gSub, tBM, tBM0, tNext, tB, tNot, tAnd, tOr, tIf, tCall, tDrop, tBreak, tCont, L2.start, tDGet, sDPut, tTup, tLst, tDNewK, tRevL, rCat, rAppend, rPop, rSetL, tAndV, tOrV, tNotV, tSl, tPart, tNoPart, tM1, gTup, gCons, gNil, cxK, cxnK, List.map_cons, List.map_nil, List.length_cons, List.length_nil, List.replicate, List.cons_append, List.nil_append, List.append_nil, List.set_cons_zero, List.set_cons_succ, List.getElem?_cons_zero, List.getElem?_cons_succ, Option.some.injEq, V.ref.injEq, V.int.injEq, V.str.injEq, V.bl.injEq, V.ty.injEq, exists_eq_left', exists_eq_left, exists_and_left, List.cons.injEq, and_true, true_and, sc_ii, sc_ss, sc_bb, sc_ni, sc_in, sc_is, sc_si, sc_nn, decide_true, decide_false, reduceCtorEq, Bool.false_eq_true, if_true, if_false, ite_true, ite_false, exists_const, eq_self, false_and, and_false, or_false, false_or, exists_false, Evl.rLenS, rSum, wipe, tYes, exists_eq, exists_eq', rIxL, rIxT, rIxS, exists_and_right, gt_iff_lt, not_true_eq_false, not_false_eq_true, Bool.not_true, Bool.not_false, decide_eq_true_eq, Nat.reduceSub, Nat.reduceAdd, List.append_assoc, tChain, tDIn, tDNotIn, sDDel, tAug, ipI, rInt1_int, rInt1_bl]
    have k78 := kq1.trans kq2
    have k68 := khn.trans k78
    have hpa8 := k68 _ _ not0 hpa
    have hls8 := k68 _ _ not0 hls6
    have lu2 : us2.length = gs2.length := hus2.len
    refine mkPap w3 w4 s3 s4 gs2 (W3_6.kp k68) (W4_6.kp k68) (by rw [← e13]; omega) (by rw [← e24]; omega) (by omega) (by rw [← e13, ← e24, ls1, ls2]; exact hin2) (fun R r => ?_) fun o2 ps2 G8' G9 P2 S2 m2 kr1 kr2 => ?_
    · try simp (maxSteps := 1000000) only [tSeq, tIfS, tTest, tOp, tUn, tCB, tCons, tNil, tVar, tC, rI0, rI, rU, rEq, rNe, tRet, tRetN, tAsg, gName, gSub, tBM, tBM0, tNext, tB, tNot, tAnd, tOr, tIf, tCall, tDrop, tBreak, tCont, L2.start, tDGet, sDPut, tTup, tLst, tDNewK, tRevL, rCat, rAppend, rPop, rSetL, tAndV, tOrV, tNotV, tSl, tPart, tNoPart, tM1, gTup, gCons, gNil, cxK, cxnK, List.map_cons, List.map_nil, List.length_cons, List.length_nil, List.replicate, List.cons_append, List.nil_append, List.append_nil, List.set_cons_zero, List.set_cons_succ, List.getElem?_cons_zero, List.getElem?_cons_succ, Option.some.injEq, V.ref.injEq, V.int.injEq, V.str.injEq, V.bl.injEq, V.ty.injEq, exists_eq_left', exists_eq_left, exists_and_left, List.cons.injEq, and_true, true_and, sc_ii, sc_ss, sc_bb, sc_ni, sc_in, sc_is, sc_si, sc_nn, decide_true, decide_false, reduceCtorEq, Bool.false_eq_true, if_true, if_false, ite_true, ite_false, exists_const, eq_self, false_and, and_false, or_false, false_or, exists_false, Evl.rLenS, rSum, wipe, tYes, exists_eq, exists_eq', rIxL, rIxT, rIxS, exists_and_right, gt_iff_lt, not_true_eq_false, not_false_eq_true, Bool.not_true, Bool.not_false, decide_eq_true_eq, Nat.reduceSub, Nat.reduceAdd, List.append_assoc, tChain, tDIn, tDNotIn, sDDel, tAug, ipI, rInt1_int, rInt1_bl]
      refine ⟨_, sq_l hpa8, _, rfl, _, sq_l hpa8, _, rfl, _, .inl (sq_l hls8), fun l nl => ?_⟩
      have kl := (Kp.new nl : Kp [] G8 (upd G8 l (.lst us2)))
      exact r l us2 _ upd_same (hus2_6.mono fun _ _ z => z.tp (k68.trans kl).tps) kl
    try simp (maxSteps := 1000000) only [tSeq, tTest, tOp, tUn, tCB, tCons, tNil, tVar, tC, rI0, rI, rU, rEq, rNe, tRet, tRetN, tAsg, gName, gSub, tBM, tBM0, tNext, tB, tNot, tAnd, tOr, tIf, tCall, tDrop, tBreak, tCont, L2.start, tDGet, sDPut, tTup, tLst, tDNewK, tRevL, rCat, rAppend, rPop, rSetL, tAndV, tOrV, tNotV, tSl, tPart, tNoPart, tM1, gTup, gCons, gNil, cxK, cxnK, List.map_cons, List.map_nil, List.length_cons, List.length_nil, List.replicate, List.cons_append, List.nil_append, List.append_nil, List.set_cons_zero, List.set_cons_succ, List.getElem?_cons_zero, List.getElem?_cons_succ, Option.some.injEq, V.ref.injEq, V.int.injEq, V.str.injEq, V.bl.injEq, V.ty.injEq, exists_eq_left', exists_eq_left, exists_and_left, List.cons.injEq, and_true, true_and, sc_ii, sc_ss, sc_bb, sc_ni, sc_in, sc_is, sc_si, sc_nn, decide_true, decide_false, reduceCtorEq, Bool.false_eq_true, if_true, if_false, ite_true, ite_false, exists_const, eq_self, false_and, and_false, or_false, false_or, exists_false, Evl.rLenS, rSum, wipe, tYes, exists_eq, exists_eq', rIxL, rIxT, rIxS, exists_and_right, gt_iff_lt, not_true_eq_false, not_false_eq_true, Bool.not_true, Bool.not_false, decide_eq_true_eq, Nat.reduceSub, Nat.reduceAdd, List.append_assoc, tChain, tDIn, tDNotIn, sDDel, tAug, ipI, rInt1_int, rInt1_bl]
    have k89 := kr1.trans kr2
    have k69 := k68.trans k89
    have k79 := k78.trans k89
    have hhn9 := k79 _ _ not0 hhn
    have hlf9 := k69 _ _ not0 hlf6
    have hus1_9 : Rw (PrAt G9) us1 gs1 := hus1_7.mono fun _ _ z => z.tp k79.tps
    refine ifs_both (fun σ' G => σ' = [some (V.ref a), some (V.ref sh), some (V.ref mn), some (V.ref al), some (V.ref ah), some (V.int rows1.length), some (V.int rows2.length), some (V.ref lf), some (V.ref lsd), some (V.ref pw), some (V.ref pa), some (V.ref hn), some (V.ref o1), some (V.ref o2), none, none, none, none] ∧ G = G9) (fun Dn hn2 => ?_) ?_
    · try simp (maxSteps := 1000000) only [tSeq, tIfS, tTest, tOp, tUn, tCB, tCons, tNil, tVar, tC, rI0, rI, rU, rEq, rNe, tRet, tRetN, tAsg, gName, gSub, tBM, tBM0, tNext, tB, tNot, tAnd, tOr, tIf, tCall, tDrop, tBreak, tCont, L2.start, tDGet, sDPut, tTup, tLst, tDNewK, tRevL, rCat, rAppend, rPop, rSetL, tAndV, tOrV, tNotV, tSl, tPart, tNoPart, tM1, gTup, gCons, gNil, cxK, cxnK, List.map_cons, List.map_nil, List.length_cons, List.length_nil, List.replicate, List.cons_append, List.nil_append, List.append_nil, List.set_cons_zero, List.set_cons_succ, List.getElem?_cons_zero, List.getElem?_cons_succ, Option.some.injEq, V.ref.injEq, V.int.injEq, V.str.injEq, V.bl.injEq, V.ty.injEq, exists_eq_left', exists_eq_left, exists_and_left, List.cons.injEq, and_true, true_and, sc_ii, sc_ss, sc_bb, sc_ni, sc_in, sc_is, sc_si, sc_nn, decide_true, decide_false, reduceCtorEq, Bool.false_eq_true, if_true, if_false, ite_true, ite_false, exists_const, eq_self, false_and, and_false, or_false, false_or, exists_false, Evl.rLenS, rSum, wipe, tYes, exists_eq, exists_eq', rIxL, rIxT, rIxS, exists_and_right, gt_iff_lt, not_true_eq_false, not_false_eq_true, Bool.not_true, Bool.not_false, decide_eq_true_eq, Nat.reduceSub, Nat.reduceAdd, List.append_assoc, tChain, tDIn, tDNotIn, sDDel, tAug, ipI, rInt1_int, rInt1_bl]
      refine ⟨_, _, rfl, prs_same hhn9 hlf9 hus1_9 hus1_9 (by omega), true, rfl, ?_⟩
      rw [if_neg (by decide)]
      exact hn2 _ _ ⟨rfl, rfl⟩
    rintro σ' G ⟨rfl, rfl⟩
    try simp (maxSteps := 1000000) only [tSeq, tTest, tOp, tUn, tCB, tCons, tNil, tVar, tC, rI0, rI, rU, rEq, rNe, tRet, tRetN, tAsg, gName, gSub, tBM, tBM0, tNext, tB, tNot, tAnd, tOr, tIf, tCall, tDrop, tBreak, tCont, L2.start, tDGet, sDPut, tTup, tLst, tDNewK, tRevL, rCat, rAppend, rPop, rSetL, tAndV, tOrV, tNotV, tSl, tPart, tNoPart, tM1, gTup, gCons, gNil, cxK, cxnK, List.map_cons, List.map_nil, List.length_cons, List.length_nil, List.replicate, List.cons_append, List.nil_append, List.append_nil, List.set_cons_zero, List.set_cons_succ, List.getElem?_cons_zero, List.getElem?_cons_succ, Option.some.injEq, V.ref.injEq, V.int.injEq, V.str.injEq, V.bl.injEq, V.ty.injEq, exists_eq_left', exists_eq_left, exists_and_left, List.cons.injEq, and_true, true_and, sc_ii, sc_ss, sc_bb, sc_ni, sc_in, sc_is, sc_si, sc_nn, decide_true, decide_false, reduceCtorEq, Bool.false_eq_true, if_true, if_false, ite_true, ite_false, exists_const, eq_self, false_and, and_false, or_false, false_or, exists_false, Evl.rLenS, rSum, wipe, tYes, exists_eq, exists_eq', rIxL, rIxT, rIxS, exists_and_right, gt_iff_lt, not_true_eq_false, not_false_eq_true, Bool.not_true, Bool.not_false, decide_eq_true_eq, Nat.reduceSub, Nat.reduceAdd, List.append_assoc, tChain, tDIn, tDNotIn, sDDel, tAug, ipI, rInt1_int, rInt1_bl]
    refine ⟨.inl ⟨rfl, _, sq_l hhn9⟩, by rw [sizeLine_eq]; decide, fun pt npt => ?_⟩
    have kt := (Kp.new npt : Kp [] G (upd G pt (.tup [.int ((rows1.length : Nat) - 1), .int ((rows2.length : Nat) - 1)])))
    generalize upd G pt (.tup [.int ((rows1.length : Nat) - 1), .int ((rows2.length : Nat) - 1)]) = Gt at kt ⊢
    have hhnt := kt _ _ not0 hhn9
    have lu1 : us1.length = gs1.length := hus1.len
    refine ⟨us1, hhnt, by rw [lu1, sizeLine_eq]; omega, ?_⟩
    have kB : Kp [] G6 (upd Gt hn (.lst (us1 ++ [.ref pt]))) := (k69.trans kt).wr nhn
    have P1B : PapAt PC (upd Gt hn (.lst (us1 ++ [.ref pt]))) o1 w1 w2 ps1 := S1 [hn] _ (fun x hx => by
      rw [List.mem_singleton.mp hx]; exact ⟨_, kq1 _ _ not0 hhn⟩) (((k89.trans kt).of0).put (by simp))
    have P2B : PapAt PC (upd Gt hn (.lst (us1 ++ [.ref pt]))) o2 w3 w4 ps2 := S2 [hn] _ (fun x hx => by
      rw [List.mem_singleton.mp hx]; exact ⟨_, (k78.trans kr1) _ _ not0 hhn⟩) ((kt.of0).put (by simp))
    generalize upd Gt hn (.lst (us1 ++ [.ref pt])) = B at kB P1B P2B ⊢
    have k0B := k6.trans kB
    have W1B := W1_6.kp kB
    have W2B := W2_6.kp kB
    have W3B := W3_6.kp kB
    have W4B := W4_6.kp kB
    have hlfB := kB _ _ not0 hlf6
    have hlsB := kB _ _ not0 hls6
    have halB := k0B _ _ not0 hal13
    have hahB := k0B _ _ not0 hah13
    have hpaB := kB _ _ not0 hpa
    have hpwB := kB _ _ not0 hpw6
    have hrs1B' : Rw (RwAt B) rs1 rows1 := hrs1B.mono fun _ _ z => z.kd k0B.kd
    have hrs2B' : Rw (RwAt B) rs2 rows2 := hrs2B.mono fun _ _ z => z.kd k0B.kd
    have hus1_B : Rw (PrAt B) us1 gs1 := hus1B.mono fun _ _ z => z.tp k0B.tps
    have hus2_B : Rw (PrAt B) us2 gs2 := hus2_6.mono fun _ _ z => z.tp kB.tps
    have hmnB := (k913.trans k0B) _ _ not0 hmn9
    have husB : Rw (TDv B) us ds := hus9.mono fun _ _ z => z.tp (k913.trans k0B).tps
    have hSB := hS.kp (k09.trans (k913.trans k0B))
    have gs1w := rel1.perm.good gw1
    have gs2w := rel2.perm.good gw2
    subst e13
    subst e24
    have lp1 : ps1.length ≤ 12 := Nat.le_trans (P1B.len m1) lg1
    have lp2 : ps2.length ≤ 12 := Nat.le_trans (P2B.len m2) lg2
    have allG : ∀ r ∈ s1 ++ s2 ++ s1 ++ s2, ∀ m ∈ r, GoodDd m.1 := fun r hr => by
      simp only [List.mem_append] at hr
      rcases hr with ((hr | hr) | hr) | hr
      · exact (gs1w.good r hr).deed
      · exact (gs2w.good r hr).deed
      · exact (gs1w.good r hr).deed
      · exact (gs2w.good r hr).deed
    have in1 : ∀ p ∈ ps1, InP s1.length s2.length p := fun p hp => by rw [ls1, ls2]; exact hin1 p ((m1 p).mp hp)
    have in2 : ∀ p ∈ ps2, InP s1.length s2.length p := fun p hp => by rw [ls1, ls2]; exact hin2 p ((m2 p).mp hp)
    have orI : ∀ (G : Hp) (Q' : VK) (x y lx hx ly hy : Addr) (ps qs : List Pr), PapAt PC G x lx hx ps → PapAt PC G y ly hy qs → WebAt WC G lx s1 → WebAt WC G hx s2 → WebAt WC G ly s1 → WebAt WC G hy s2 → ps.length ≤ 12 → qs.length ≤ 12 → (∀ p ∈ ps, InP s1.length s2.length p) → (∀ p ∈ qs, InP s1.length s2.length p) → (∀ (o : Addr) (rs : List Pr) H', PapAt PC H' o lx hx rs → (∀ p, p ∈ rs ↔ p ∈ ps ∨ p ∈ qs) → Kp [] G H' → Q' (.ref o) H') → rBinO PC (spPOr PC WC OW) E0 (.ref x) (.ref y) G Q' := by
      intro G Q' x y lx hx ly hy ps qs hP hQ w1 w2 w3 w4 l1 l2 i1 i2 hq
      obtain ⟨dxa, _, _, _, ha, _⟩ := id hP
      obtain ⟨dxb, _, _, _, hb, _⟩ := id hQ
      exact ⟨x, dxa, _, y, dxb, _, rfl, rfl, ha, hb, x, y, lx, hx, ly, hy, s1, s2, s1, s2, ps, qs, rfl, hP, hQ, w1, w2, w3, w4, allG, by omega, by omega, by omega, fun p hp _ _ => by
        rcases List.mem_append.mp hp with h | h
        · exact i1 p h
        · exact i2 p h, fun _ _ o rs H' hR mem k => hq o rs H' hR mem k, fun h => absurd ⟨rfl, rfl⟩ h⟩
    refine orI B _ o1 o2 w1 w2 w3 w4 ps1 ps2 P1B P2B W1B W2B W3B W4B lp1 lp2 in1 in2 fun ob rs3 B2 PBo mem3 kb2 => ?_
    have hasI : ∀ (G : Hp) (Q' : VK) (o lo hi d : Addr) (ps gs : List Pr) (us : List V), PapAt PC G o lo hi ps → WebAt WC G lo s1 → WebAt WC G hi s2 → G d = some (.lst us) → Rw (PrAt G) us gs → (∀ p, p ∈ ps ↔ p ∈ gs) → (∀ g ∈ gs, InP rows1.length rows2.length g) → gs.length ≤ 24 → (∀ H', Kp [] G H' → Q' (.bl true) H') → spHas PC WC [.ref o, .ref d, .int (rows1.length : Nat), .int (rows2.length : Nat)] G Q' E0 := by
      intro G Q' o lo hi d ps gs us hP w1 w2 hd hus mem hin hl hq
      exact ⟨o, lo, hi, d, rows1.length, rows2.length, ps, gs, s1, s2, us, rfl, hP, w1, w2, by omega, by omega, hd, hus, l11, by omega, l21, by omega, mem, hin, fun p hp => by rw [ls1, ls2]; exact hin p ((mem p).mp hp), by omega, hq⟩
    have inA : ∀ g ∈ gs1 ++ gs2, InP rows1.length rows2.length g := fun g hg => by
      rcases List.mem_append.mp hg with h | h
      · exact hin1 g h
      · exact hin2 g h
    refine ifs_both (fun σ' G => σ' = [some (V.ref a), some (V.ref sh), some (V.ref mn), some (V.ref al), some (V.ref ah), some (V.int rows1.length), some (V.int rows2.length), some (V.ref lf), some (V.ref lsd), some (V.ref pw), some (V.ref pa), some (V.ref hn), some (V.ref o1), some (V.ref o2), some (V.ref ob), none, none, none] ∧ Kp [] B2 G) (fun Dn hn2 => ?_) ?_
    · try simp (maxSteps := 1000000) only [tSeq, tIfS, tTest, tOp, tUn, tCB, tCons, tNil, tVar, tC, rI0, rI, rU, rEq, rNe, tRet, tRetN, tAsg, gName, gSub, tBM, tBM0, tNext, tB, tNot, tAnd, tOr, tIf, tCall, tDrop, tBreak, tCont, L2.start, tDGet, sDPut, tTup, tLst, tDNewK, tRevL, rCat, rAppend, rPop, rSetL, tAndV, tOrV, tNotV, tSl, tPart, tNoPart, tM1, gTup, gCons, gNil, cxK, cxnK, List.map_cons, List.map_nil, List.length_cons, List.length_nil, List.replicate, List.cons_append, List.nil_append, List.append_nil, List.set_cons_zero, List.set_cons_succ, List.getElem?_cons_zero, List.getElem?_cons_succ, Option.some.injEq, V.ref.injEq, V.int.injEq, V.str.injEq, V.bl.injEq, V.ty.injEq, exists_eq_left', exists_eq_left, exists_and_left, List.cons.injEq, and_true, true_and, sc_ii, sc_ss, sc_bb, sc_ni, sc_in, sc_is, sc_si, sc_nn, decide_true, decide_false, reduceCtorEq, Bool.false_eq_true, if_true, if_false, ite_true, ite_false, exists_const, eq_self, false_and, and_false, or_false, false_or, exists_false, Evl.rLenS, rSum, wipe, tYes, exists_eq, exists_eq', rIxL, rIxT, rIxS, exists_and_right, gt_iff_lt, not_true_eq_false, not_false_eq_true, Bool.not_true, Bool.not_false, decide_eq_true_eq, Nat.reduceSub, Nat.reduceAdd, List.append_assoc, tChain, tDIn, tDNotIn, sDDel, tAug, ipI, rInt1_int, rInt1_bl]
      have hlf2 := kb2 _ _ not0 hlfB
      have hls2 := kb2 _ _ not0 hlsB
      refine ⟨_, hlf2, _, hls2, by rw [lu1, lu2, sizeLine_eq]; omega, fun p np => ?_⟩
      have kp := (Kp.new np : Kp [] B2 (upd B2 p (.lst (us1 ++ us2))))
      have hp : (upd B2 p (.lst (us1 ++ us2))) p = some (.lst (us1 ++ us2)) := upd_same
      generalize upd B2 p (.lst (us1 ++ us2)) = B3 at kp hp ⊢
      have kB3 := kb2.trans kp
      refine hasI B3 _ ob w1 w2 p rs3 (gs1 ++ gs2) (us1 ++ us2) (PBo.kp kp) (W1B.kp kB3) (W2B.kp kB3) hp ((hus1_B.app hus2_B).mono fun _ _ z => z.tp kB3.tps) (fun x => by rw [mem3, m1, m2, List.mem_append]) inA (by rw [List.length_append]; omega) fun H' k => ⟨true, rfl, ?_⟩
      rw [if_neg (by decide)]
      have kB4 := kB3.trans k
      refine hasI H' _ o1 w1 w2 lf ps1 gs1 us1 (P1B.kp kB4) (W1B.kp kB4) (W2B.kp kB4) (kB4 _ _ not0 hlfB) (hus1_B.mono fun _ _ z => z.tp kB4.tps) m1 hin1 (by omega) fun H'' k2 => ⟨true, rfl, ?_⟩
      rw [if_neg (by decide)]
      exact hn2 _ _ ⟨rfl, (kp.trans k).trans k2⟩
    rintro σ' B3 ⟨rfl, kb3⟩
    try simp (maxSteps := 1000000) only [tSeq, tTest, tOp, tUn, tCB, tCons, tNil, tVar, tC, rI0, rI, rU, rEq, rNe, tRet, tRetN, tAsg, gName, gSub, tBM, tBM0, tNext, tB, tNot, tAnd, tOr, tIf, tCall, tDrop, tBreak, tCont, L2.start, tDGet, sDPut, tTup, tLst, tDNewK, tRevL, rCat, rAppend, rPop, rSetL, tAndV, tOrV, tNotV, tSl, tPart, tNoPart, tM1, gTup, gCons, gNil, cxK, cxnK, List.map_cons, List.map_nil, List.length_cons, List.length_nil, List.replicate, List.cons_append, List.nil_append, List.append_nil, List.set_cons_zero, List.set_cons_succ, List.getElem?_cons_zero, List.getElem?_cons_succ, Option.some.injEq, V.ref.injEq, V.int.injEq, V.str.injEq, V.bl.injEq, V.ty.injEq, exists_eq_left', exists_eq_left, exists_and_left, List.cons.injEq, and_true, true_and, sc_ii, sc_ss, sc_bb, sc_ni, sc_in, sc_is, sc_si, sc_nn, decide_true, decide_false, reduceCtorEq, Bool.false_eq_true, if_true, if_false, ite_true, ite_false, exists_const, eq_self, false_and, and_false, or_false, false_or, exists_false, Evl.rLenS, rSum, wipe, tYes, exists_eq, exists_eq', rIxL, rIxT, rIxS, exists_and_right, gt_iff_lt, not_true_eq_false, not_false_eq_true, Bool.not_true, Bool.not_false, decide_eq_true_eq, Nat.reduceSub, Nat.reduceAdd, List.append_assoc, tChain, tDIn, tDNotIn, sDDel, tAug, ipI, rInt1_int, rInt1_bl]
    have kB3 := kb2.trans kb3
    refine ifs_both (fun σ' G => σ' = [some (V.ref a), some (V.ref sh), some (V.ref mn), some (V.ref al), some (V.ref ah), some (V.int rows1.length), some (V.int rows2.length), some (V.ref lf), some (V.ref lsd), some (V.ref pw), some (V.ref pa), some (V.ref hn), some (V.ref o1), some (V.ref o2), some (V.ref ob), none, none, none] ∧ Kp [] B3 G) (fun Dn hn2 => ?_) ?_
    · try simp (maxSteps := 1000000) only [tSeq, tIfS, tTest, tOp, tUn, tCB, tCons, tNil, tVar, tC, rI0, rI, rU, rEq, rNe, tRet, tRetN, tAsg, gName, gSub, tBM, tBM0, tNext, tB, tNot, tAnd, tOr, tIf, tCall, tDrop, tBreak, tCont, L2.start, tDGet, sDPut, tTup, tLst, tDNewK, tRevL, rCat, rAppend, rPop, rSetL, tAndV, tOrV, tNotV, tSl, tPart, tNoPart, tM1, gTup, gCons, gNil, cxK, cxnK, List.map_cons, List.map_nil, List.length_cons, List.length_nil, List.replicate, List.cons_append, List.nil_append, List.append_nil, List.set_cons_zero, List.set_cons_succ, List.getElem?_cons_zero, List.getElem?_cons_succ, Option.some.injEq, V.ref.injEq, V.int.injEq, V.str.injEq, V.bl.injEq, V.ty.injEq, exists_eq_left', exists_eq_left, exists_and_left, List.cons.injEq, and_true, true_and, sc_ii, sc_ss, sc_bb, sc_ni, sc_in, sc_is, sc_si, sc_nn, decide_true, decide_false, reduceCtorEq, Bool.false_eq_true, if_true, if_false, ite_true, ite_false, exists_const, eq_self, false_and, and_false, or_false, false_or, exists_false, Evl.rLenS, rSum, wipe, tYes, exists_eq, exists_eq', rIxL, rIxT, rIxS, exists_and_right, gt_iff_lt, not_true_eq_false, not_false_eq_true, Bool.not_true, Bool.not_false, decide_eq_true_eq, Nat.reduceSub, Nat.reduceAdd, List.append_assoc, tChain, tDIn, tDNotIn, sDDel, tAug, ipI, rInt1_int, rInt1_bl]
      refine orI B3 _ o2 o1 w3 w4 w1 w2 ps2 ps1 (P2B.kp kB3) (P1B.kp kB3) (W3B.kp kB3) (W4B.kp kB3) (W1B.kp kB3) (W2B.kp kB3) lp2 lp1 in2 in1 fun oc rs4 B4 PC4 mem4 kb4 => ?_
      have kB4 := kB3.trans kb4
      refine ⟨_, kB4 _ _ not0 hlfB, _, kB4 _ _ not0 hlsB, by rw [lu1, lu2, sizeLine_eq]; omega, fun p np => ?_⟩
      have kp := (Kp.new np : Kp [] B4 (upd B4 p (.lst (us1 ++ us2))))
      have hp : (upd B4 p (.lst (us1 ++ us2))) p = some (.lst (us1 ++ us2)) := upd_same
      generalize upd B4 p (.lst (us1 ++ us2)) = B5 at kp hp ⊢
      have kB5 := kB4.trans kp
      refine hasI B5 _ oc w3 w4 p rs4 (gs1 ++ gs2) (us1 ++ us2) (PC4.kp kp) (W3B.kp kB5) (W4B.kp kB5) hp ((hus1_B.app hus2_B).mono fun _ _ z => z.tp kB5.tps) (fun x => by rw [mem4, m1, m2, List.mem_append]; exact or_comm) inA (by rw [List.length_append]; omega) fun H' k => ⟨true, rfl, ?_⟩
      rw [if_neg (by decide)]
      have kB6 := kB5.trans k
      refine hasI H' _ o2 w3 w4 lsd ps2 gs2 us2 (P2B.kp kB6) (W3B.kp kB6) (W4B.kp kB6) (kB6 _ _ not0 hlsB) (hus2_B.mono fun _ _ z => z.tp kB6.tps) m2 hin2 (by omega) fun H'' k2 => ⟨true, rfl, ?_⟩
      rw [if_neg (by decide)]
      exact hn2 _ _ ⟨rfl, ((kb4.trans kp).trans k).trans k2⟩
    rintro σ' B4 ⟨rfl, kb4⟩
    try simp (maxSteps := 1000000) only [tSeq, tTest, tOp, tUn, tCB, tCons, tNil, tVar, tC, rI0, rI, rU, rEq, rNe, tRet, tRetN, tAsg, gName, gSub, tBM, tBM0, tNext, tB, tNot, tAnd, tOr, tIf, tCall, tDrop, tBreak, tCont, L2.start, tDGet, sDPut, tTup, tLst, tDNewK, tRevL, rCat, rAppend, rPop, rSetL, tAndV, tOrV, tNotV, tSl, tPart, tNoPart, tM1, gTup, gCons, gNil, cxK, cxnK, List.map_cons, List.map_nil, List.length_cons, List.length_nil, List.replicate, List.cons_append, List.nil_append, List.append_nil, List.set_cons_zero, List.set_cons_succ, List.getElem?_cons_zero, List.getElem?_cons_succ, Option.some.injEq, V.ref.injEq, V.int.injEq, V.str.injEq, V.bl.injEq, V.ty.injEq, exists_eq_left', exists_eq_left, exists_and_left, List.cons.injEq, and_true, true_and, sc_ii, sc_ss, sc_bb, sc_ni, sc_in, sc_is, sc_si, sc_nn, decide_true, decide_false, reduceCtorEq, Bool.false_eq_true, if_true, if_false, ite_true, ite_false, exists_const, eq_self, false_and, and_false, or_false, false_or, exists_false, Evl.rLenS, rSum, wipe, tYes, exists_eq, exists_eq', rIxL, rIxT, rIxS, exists_and_right, gt_iff_lt, not_true_eq_false, not_false_eq_true, Bool.not_true, Bool.not_false, decide_eq_true_eq, Nat.reduceSub, Nat.reduceAdd, List.append_assoc, tChain, tDIn, tDNotIn, sDDel, tAug, ipI, rInt1_int, rInt1_bl]
    have kB4 := kB3.trans kb4
    have btw : ∀ (G : Hp) (Q' : VK) (o lo hi : Addr) (ps : List Pr), Kp [] B G → PapAt PC G o lo hi ps → WebAt WC G lo s1 → WebAt WC G hi s2 → (∀ H', Kp [] G H' → Q' (.bl true) H') → spBtw PC WC [.ref o, .ref al, .ref ah] G Q' E0 := by
      intro G Q' o lo hi ps kG hP w1 w2 hq
      exact ⟨o, lo, hi, al, ah, ps, s1, s2, rows1, rows2, rs1, rs2, rfl, hP, w1, w2, kG _ _ not0 halB, hrs1B'.mono fun _ _ z => z.kd kG.kd, kG _ _ not0 hahB, hrs2B'.mono fun _ _ z => z.kd kG.kd, rel1, rel2, by omega, by omega, gw1.good, gw2.good, hq⟩
    refine ifs_both (fun σ' G => σ' = [some (V.ref a), some (V.ref sh), some (V.ref mn), some (V.ref al), some (V.ref ah), some (V.int rows1.length), some (V.int rows2.length), some (V.ref lf), some (V.ref lsd), some (V.ref pw), some (V.ref pa), some (V.ref hn), some (V.ref o1), some (V.ref o2), some (V.ref ob), none, none, none] ∧ Kp [] B4 G) (fun Dn hn2 => ?_) ?_
    · try simp (maxSteps := 1000000) only [tSeq, tIfS, tTest, tOp, tUn, tCB, tCons, tNil, tVar, tC, rI0, rI, rU, rEq, rNe, tRet, tRetN, tAsg, gName, gSub, tBM, tBM0, tNext, tB, tNot, tAnd, tOr, tIf, tCall, tDrop, tBreak, tCont, L2.start, tDGet, sDPut, tTup, tLst, tDNewK, tRevL, rCat, rAppend, rPop, rSetL, tAndV, tOrV, tNotV, tSl, tPart, tNoPart, tM1, gTup, gCons, gNil, cxK, cxnK, List.map_cons, List.map_nil, List.length_cons, List.length_nil, List.replicate, List.cons_append, List.nil_append, List.append_nil, List.set_cons_zero, List.set_cons_succ, List.getElem?_cons_zero, List.getElem?_cons_succ, Option.some.injEq, V.ref.injEq, V.int.injEq, V.str.injEq, V.bl.injEq, V.ty.injEq, exists_eq_left', exists_eq_left, exists_and_left, List.cons.injEq, and_true, true_and, sc_ii, sc_ss, sc_bb, sc_ni, sc_in, sc_is, sc_si, sc_nn, decide_true, decide_false, reduceCtorEq, Bool.false_eq_true, if_true, if_false, ite_true, ite_false, exists_const, eq_self, false_and, and_false, or_false, false_or, exists_false, Evl.rLenS, rSum, wipe, tYes, exists_eq, exists_eq', rIxL, rIxT, rIxS, exists_and_right, gt_iff_lt, not_true_eq_false, not_false_eq_true, Bool.not_true, Bool.not_false, decide_eq_true_eq, Nat.reduceSub, Nat.reduceAdd, List.append_assoc, tChain, tDIn, tDNotIn, sDDel, tAug, ipI, rInt1_int, rInt1_bl]
      refine btw B4 _ o1 w1 w2 ps1 kB4 (P1B.kp kB4) (W1B.kp kB4) (W2B.kp kB4) fun H1' k1' => ⟨true, rfl, ?_⟩
      rw [if_neg (by decide)]
      have kB5 := kB4.trans k1'
      refine btw H1' _ ob w1 w2 rs3 kB5 (PBo.kp ((kb3.trans kb4).trans k1')) (W1B.kp kB5) (W2B.kp kB5) fun H2' k2' => ⟨true, rfl, ?_⟩
      rw [if_neg (by decide)]
      have kB6 := kB5.trans k2'
      refine btw H2' _ o2 w3 w4 ps2 kB6 (P2B.kp kB6) (W3B.kp kB6) (W4B.kp kB6) fun H3' k3' => ⟨true, rfl, ?_⟩
      rw [if_neg (by decide)]
      exact hn2 _ _ ⟨rfl, (k1'.trans k2').trans k3'⟩
    rintro σ' B5 ⟨rfl, kb5⟩
    try simp (maxSteps := 1000000) only [tSeq, tTest, tOp, tUn, tCB, tCons, tNil, tVar, tC, rI0, rI, rU, rEq, rNe, tRet, tRetN, tAsg, gName, gSub, tBM, tBM0, tNext, tB, tNot, tAnd, tOr, tIf, tCall, tDrop, tBreak, tCont, L2.start, tDGet, sDPut, tTup, tLst, tDNewK, tRevL, rCat, rAppend, rPop, rSetL, tAndV, tOrV, tNotV, tSl, tPart, tNoPart, tM1, gTup, gCons, gNil, cxK, cxnK, List.map_cons, List.map_nil, List.length_cons, List.length_nil, List.replicate, List.cons_append, List.nil_append, List.append_nil, List.set_cons_zero, List.set_cons_succ, List.getElem?_cons_zero, List.getElem?_cons_succ, Option.some.injEq, V.ref.injEq, V.int.injEq, V.str.injEq, V.bl.injEq, V.ty.injEq, exists_eq_left', exists_eq_left, exists_and_left, List.cons.injEq, and_true, true_and, sc_ii, sc_ss, sc_bb, sc_ni, sc_in, sc_is, sc_si, sc_nn, decide_true, decide_false, reduceCtorEq, Bool.false_eq_true, if_true, if_false, ite_true, ite_false, exists_const, eq_self, false_and, and_false, or_false, false_or, exists_false, Evl.rLenS, rSum, wipe, tYes, exists_eq, exists_eq', rIxL, rIxT, rIxS, exists_and_right, gt_iff_lt, not_true_eq_false, not_false_eq_true, Bool.not_true, Bool.not_false, decide_eq_true_eq, Nat.reduceSub, Nat.reduceAdd, List.append_assoc, tChain, tDIn, tDNotIn, sDDel, tAug, ipI, rInt1_int, rInt1_bl]
    have kB5 := kB4.trans kb5
    refine make_of ?_
    try simp (maxSteps := 1000000) only [tSeq, tTest, tOp, tUn, tCB, tCons, tNil, tVar, tC, rI0, rI, rU, rEq, rNe, tRet, tRetN, tAsg, gName, gSub, tBM, tBM0, tNext, tB, tNot, tAnd, tOr, tIf, tCall, tDrop, tBreak, tCont, L2.start, tDGet, sDPut, tTup, tLst, tDNewK, tRevL, rCat, rAppend, rPop, rSetL, tAndV, tOrV, tNotV, tSl, tPart, tNoPart, tM1, gTup, gCons, gNil, cxK, cxnK, List.map_cons, List.map_nil, List.length_cons, List.length_nil, List.replicate, List.cons_append, List.nil_append, List.append_nil, List.set_cons_zero, List.set_cons_succ, List.getElem?_cons_zero, List.getElem?_cons_succ, Option.some.injEq, V.ref.injEq, V.int.injEq, V.str.injEq, V.bl.injEq, V.ty.injEq, exists_eq_left', exists_eq_left, exists_and_left, List.cons.injEq, and_true, true_and, sc_ii, sc_ss, sc_bb, sc_ni, sc_in, sc_is, sc_si, sc_nn, decide_true, decide_false, reduceCtorEq, Bool.false_eq_true, if_true, if_false, ite_true, ite_false, exists_const, eq_self, false_and, and_false, or_false, false_or, exists_false, Evl.rLenS, rSum, wipe, tYes, exists_eq, exists_eq', rIxL, rIxT, rIxS, exists_and_right, gt_iff_lt, not_true_eq_false, not_false_eq_true, Bool.not_true, Bool.not_false, decide_eq_true_eq, Nat.reduceSub, Nat.reduceAdd, List.append_assoc, tChain, tDIn, tDNotIn, sDDel, tAug, ipI, rInt1_int, rInt1_bl]
    refine ⟨a, 6, ns, rfl, hSB.kp kB5, by decide, fun r6 C1 r60 kc1 => ?_⟩
    have kB6 := kB5.trans kc1
    refine ⟨al, mn, r6, rs1, us, rows1, ds, rfl, r60, kB6 _ _ not0 halB, hrs1B'.mono fun _ _ z => z.kd kB6.kd, l11, by omega, hg1, kB6 _ _ not0 hmnB, husB.mono fun _ _ z => z.tp kB6.tps, hm, fun la rsa rowsa C2 nla hla hrsa la1 la2 hga hdiffa kc2 => ?_⟩
    have gwa : GoodWb rowsa := ⟨by omega, hga⟩
    dsimp only
    refine mkP_web hla hrsa (by omega) gwa fun wl sl C3 rell WL kc3 => ?_
    have kB8 := (kB6.trans kc2).trans kc3
    try dsimp only
    refine make_of ?_
    try simp (maxSteps := 1000000) only [tSeq, tTest, tOp, tUn, tCB, tCons, tNil, tVar, tC, rI0, rI, rU, rEq, rNe, tRet, tRetN, tAsg, gName, gSub, tBM, tBM0, tNext, tB, tNot, tAnd, tOr, tIf, tCall, tDrop, tBreak, tCont, L2.start, tDGet, sDPut, tTup, tLst, tDNewK, tRevL, rCat, rAppend, rPop, rSetL, tAndV, tOrV, tNotV, tSl, tPart, tNoPart, tM1, gTup, gCons, gNil, cxK, cxnK, List.map_cons, List.map_nil, List.length_cons, List.length_nil, List.replicate, List.cons_append, List.nil_append, List.append_nil, List.set_cons_zero, List.set_cons_succ, List.getElem?_cons_zero, List.getElem?_cons_succ, Option.some.injEq, V.ref.injEq, V.int.injEq, V.str.injEq, V.bl.injEq, V.ty.injEq, exists_eq_left', exists_eq_left, exists_and_left, List.cons.injEq, and_true, true_and, sc_ii, sc_ss, sc_bb, sc_ni, sc_in, sc_is, sc_si, sc_nn, decide_true, decide_false, reduceCtorEq, Bool.false_eq_true, if_true, if_false, ite_true, ite_false, exists_const, eq_self, false_and, and_false, or_false, false_or, exists_false, Evl.rLenS, rSum, wipe, tYes, exists_eq, exists_eq', rIxL, rIxT, rIxS, exists_and_right, gt_iff_lt, not_true_eq_false, not_false_eq_true, Bool.not_true, Bool.not_false, decide_eq_true_eq, Nat.reduceSub, Nat.reduceAdd, List.append_assoc, tChain, tDIn, tDNotIn, sDDel, tAug, ipI, rInt1_int, rInt1_bl]
    refine ⟨a, 7, ns, rfl, hSB.kp kB8, by decide, fun r7 C4 r70 kc4 => ?_⟩
    have kB9 := kB8.trans kc4
    refine ⟨ah, mn, r7, rs2, us, rows2, ds, rfl, r70, kB9 _ _ not0 hahB, hrs2B'.mono fun _ _ z => z.kd kB9.kd, l21, by omega, hg2, kB9 _ _ not0 hmnB, husB.mono fun _ _ z => z.tp kB9.tps, hm, fun lb rsb rowsb C5 nlb hlb hrsb lb1 lb2 hgb hdiffb kc5 => ?_⟩
    have gwb : GoodWb rowsb := ⟨by omega, hgb⟩
    dsimp only
    refine mkP_web hlb hrsb (by omega) gwb fun wu su C6 relu WU kc6 => ?_
    have kB10 := (kB9.trans kc5).trans kc6
    have WL6 := WL.kp ((kc4.trans kc5).trans kc6)
    have dl : s1 ≠ sl := hdiffa s1 sl rel1 rell
    have du : s2 ≠ su := hdiffb s2 su rel2 relu
    have lsl : sl.length = rowsa.length := rell.len
    have lsu : su.length = rowsb.length := relu.len
    have gsl := rell.perm.good gwa
    have gsu := relu.perm.good gwb
    try dsimp only
    refine forL_src ?_
    try simp (maxSteps := 1000000) only [tSeq, tTest, tOp, tUn, tCB, tCons, tNil, tVar, tC, rI0, rI, rU, rEq, rNe, tRet, tRetN, tAsg, gName, gSub, tBM, tBM0, tNext, tB, tNot, tAnd, tOr, tIf, tCall, tDrop, tBreak, tCont, L2.start, tDGet, sDPut, tTup, tLst, tDNewK, tRevL, rCat, rAppend, rPop, rSetL, tAndV, tOrV, tNotV, tSl, tPart, tNoPart, tM1, gTup, gCons, gNil, cxK, cxnK, List.map_cons, List.map_nil, List.length_cons, List.length_nil, List.replicate, List.cons_append, List.nil_append, List.append_nil, List.set_cons_zero, List.set_cons_succ, List.getElem?_cons_zero, List.getElem?_cons_succ, Option.some.injEq, V.ref.injEq, V.int.injEq, V.str.injEq, V.bl.injEq, V.ty.injEq, exists_eq_left', exists_eq_left, exists_and_left, List.cons.injEq, and_true, true_and, sc_ii, sc_ss, sc_bb, sc_ni, sc_in, sc_is, sc_si, sc_nn, decide_true, decide_false, reduceCtorEq, Bool.false_eq_true, if_true, if_false, ite_true, ite_false, exists_const, eq_self, false_and, and_false, or_false, false_or, exists_false, Evl.rLenS, rSum, wipe, tYes, exists_eq, exists_eq', rIxL, rIxT, rIxS, exists_and_right, gt_iff_lt, not_true_eq_false, not_false_eq_true, Bool.not_true, Bool.not_false, decide_eq_true_eq, Nat.reduceSub, Nat.reduceAdd, List.append_assoc, tChain, tDIn, tDNotIn, sDDel, tAug, ipI, rInt1_int, rInt1_bl]
    have hpa10 := kB10 _ _ not0 hpaB
    have hls10 := kB10 _ _ not0 hlsB
    have inl : ∀ g ∈ gs2, InP sl.length s2.length g := fun g hg => by
      obtain ⟨x0, x1, y0, y1⟩ := hin2 g hg
      exact ⟨x0, by omega, y0, by omega⟩
    have inu : ∀ g ∈ gs2, InP s1.length su.length g := fun g hg => by
      obtain ⟨x0, x1, y0, y1⟩ := hin2 g hg
      exact ⟨x0, by omega, y0, by omega⟩
    refine mkPap wl w4 sl s2 gs2 WL6 (W4B.kp kB10) (by omega) (by omega) (by omega) inl (fun R r => ?_) fun x1 px1 D1' D1 X1 _ mx1 ke1 ke2 => ?_
    · try simp (maxSteps := 1000000) only [tSeq, tIfS, tTest, tOp, tUn, tCB, tCons, tNil, tVar, tC, rI0, rI, rU, rEq, rNe, tRet, tRetN, tAsg, gName, gSub, tBM, tBM0, tNext, tB, tNot, tAnd, tOr, tIf, tCall, tDrop, tBreak, tCont, L2.start, tDGet, sDPut, tTup, tLst, tDNewK, tRevL, rCat, rAppend, rPop, rSetL, tAndV, tOrV, tNotV, tSl, tPart, tNoPart, tM1, gTup, gCons, gNil, cxK, cxnK, List.map_cons, List.map_nil, List.length_cons, List.length_nil, List.replicate, List.cons_append, List.nil_append, List.append_nil, List.set_cons_zero, List.set_cons_succ, List.getElem?_cons_zero, List.getElem?_cons_succ, Option.some.injEq, V.ref.injEq, V.int.injEq, V.str.injEq, V.bl.injEq, V.ty.injEq, exists_eq_left', exists_eq_left, exists_and_left, List.cons.injEq, and_true, true_and, sc_ii, sc_ss, sc_bb, sc_ni, sc_in, sc_is, sc_si, sc_nn, decide_true, decide_false, reduceCtorEq, Bool.false_eq_true, if_true, if_false, ite_true, ite_false, exists_const, eq_self, false_and, and_false, or_false, false_or, exists_false, Evl.rLenS, rSum, wipe, tYes, exists_eq, exists_eq', rIxL, rIxT, rIxS, exists_and_right, gt_iff_lt, not_true_eq_false, not_false_eq_true, Bool.not_true, Bool.not_false, decide_eq_true_eq, Nat.reduceSub, Nat.reduceAdd, List.append_assoc, tChain, tDIn, tDNotIn, sDDel, tAug, ipI, rInt1_int, rInt1_bl]
      refine ⟨_, sq_l hpa10, _, rfl, _, .inl (sq_l hls10), fun l nl => ?_⟩
      have kl := (Kp.new nl : Kp [] C6 (upd C6 l (.lst us2)))
      exact r l us2 _ upd_same (hus2_B.mono fun _ _ z => z.tp (kB10.trans kl).tps) kl
    try simp (maxSteps := 1000000) only [tSeq, tTest, tOp, tUn, tCB, tCons, tNil, tVar, tC, rI0, rI, rU, rEq, rNe, tRet, tRetN, tAsg, gName, gSub, tBM, tBM0, tNext, tB, tNot, tAnd, tOr, tIf, tCall, tDrop, tBreak, tCont, L2.start, tDGet, sDPut, tTup, tLst, tDNewK, tRevL, rCat, rAppend, rPop, rSetL, tAndV, tOrV, tNotV, tSl, tPart, tNoPart, tM1, gTup, gCons, gNil, cxK, cxnK, List.map_cons, List.map_nil, List.length_cons, List.length_nil, List.replicate, List.cons_append, List.nil_append, List.append_nil, List.set_cons_zero, List.set_cons_succ, List.getElem?_cons_zero, List.getElem?_cons_succ, Option.some.injEq, V.ref.injEq, V.int.injEq, V.str.injEq, V.bl.injEq, V.ty.injEq, exists_eq_left', exists_eq_left, exists_and_left, List.cons.injEq, and_true, true_and, sc_ii, sc_ss, sc_bb, sc_ni, sc_in, sc_is, sc_si, sc_nn, decide_true, decide_false, reduceCtorEq, Bool.false_eq_true, if_true, if_false, ite_true, ite_false, exists_const, eq_self, false_and, and_false, or_false, false_or, exists_false, Evl.rLenS, rSum, wipe, tYes, exists_eq, exists_eq', rIxL, rIxT, rIxS, exists_and_right, gt_iff_lt, not_true_eq_false, not_false_eq_true, Bool.not_true, Bool.not_false, decide_eq_true_eq, Nat.reduceSub, Nat.reduceAdd, List.append_assoc, tChain, tDIn, tDNotIn, sDDel, tAug, ipI, rInt1_int, rInt1_bl]
    have kd1 := ke1.trans ke2
    have kB11 := kB10.trans kd1
    refine mkPap w3 wu s1 su gs2 (W3B.kp kB11) (WU.kp kd1) (by omega) (by omega) (by omega) inu (fun R r => ?_) fun x2 px2 D2' D2 X2 _ mx2 kf1 kf2 => ?_
    · try simp (maxSteps := 1000000) only [tSeq, tIfS, tTest, tOp, tUn, tCB, tCons, tNil, tVar, tC, rI0, rI, rU, rEq, rNe, tRet, tRetN, tAsg, gName, gSub, tBM, tBM0, tNext, tB, tNot, tAnd, tOr, tIf, tCall, tDrop, tBreak, tCont, L2.start, tDGet, sDPut, tTup, tLst, tDNewK, tRevL, rCat, rAppend, rPop, rSetL, tAndV, tOrV, tNotV, tSl, tPart, tNoPart, tM1, gTup, gCons, gNil, cxK, cxnK, List.map_cons, List.map_nil, List.length_cons, List.length_nil, List.replicate, List.cons_append, List.nil_append, List.append_nil, List.set_cons_zero, List.set_cons_succ, List.getElem?_cons_zero, List.getElem?_cons_succ, Option.some.injEq, V.ref.injEq, V.int.injEq, V.str.injEq, V.bl.injEq, V.ty.injEq, exists_eq_left', exists_eq_left, exists_and_left, List.cons.injEq, and_true, true_and, sc_ii, sc_ss, sc_bb, sc_ni, sc_in, sc_is, sc_si, sc_nn, decide_true, decide_false, reduceCtorEq, Bool.false_eq_true, if_true, if_false, ite_true, ite_false, exists_const, eq_self, false_and, and_false, or_false, false_or, exists_false, Evl.rLenS, rSum, wipe, tYes, exists_eq, exists_eq', rIxL, rIxT, rIxS, exists_and_right, gt_iff_lt, not_true_eq_false, not_false_eq_true, Bool.not_true, Bool.not_false, decide_eq_true_eq, Nat.reduceSub, Nat.reduceAdd, List.append_assoc, tChain, tDIn, tDNotIn, sDDel, tAug, ipI, rInt1_int, rInt1_bl]
      refine ⟨_, sq_l (kd1 _ _ not0 hpa10), _, rfl, _, .inl (sq_l (kd1 _ _ not0 hls10)), fun l nl => ?_⟩
      have kl := (Kp.new nl : Kp [] D1 (upd D1 l (.lst us2)))
      exact r l us2 _ upd_same (hus2_B.mono fun _ _ z => z.tp (kB11.trans kl).tps) kl
    try simp (maxSteps := 1000000) only [tSeq, tTest, tOp, tUn, tCB, tCons, tNil, tVar, tC, rI0, rI, rU, rEq, rNe, tRet, tRetN, tAsg, gName, gSub, tBM, tBM0, tNext, tB, tNot, tAnd, tOr, tIf, tCall, tDrop, tBreak, tCont, L2.start, tDGet, sDPut, tTup, tLst, tDNewK, tRevL, rCat, rAppend, rPop, rSetL, tAndV, tOrV, tNotV, tSl, tPart, tNoPart, tM1, gTup, gCons, gNil, cxK, cxnK, List.map_cons, List.map_nil, List.length_cons, List.length_nil, List.replicate, List.cons_append, List.nil_append, List.append_nil, List.set_cons_zero, List.set_cons_succ, List.getElem?_cons_zero, List.getElem?_cons_succ, Option.some.injEq, V.ref.injEq, V.int.injEq, V.str.injEq, V.bl.injEq, V.ty.injEq, exists_eq_left', exists_eq_left, exists_and_left, List.cons.injEq, and_true, true_and, sc_ii, sc_ss, sc_bb, sc_ni, sc_in, sc_is, sc_si, sc_nn, decide_true, decide_false, reduceCtorEq, Bool.false_eq_true, if_true, if_false, ite_true, ite_false, exists_const, eq_self, false_and, and_false, or_false, false_or, exists_false, Evl.rLenS, rSum, wipe, tYes, exists_eq, exists_eq', rIxL, rIxT, rIxS, exists_and_right, gt_iff_lt, not_true_eq_false, not_false_eq_true, Bool.not_true, Bool.not_false, decide_eq_true_eq, Nat.reduceSub, Nat.reduceAdd, List.append_assoc, tChain, tDIn, tDNotIn, sDDel, tAug, ipI, rInt1_int, rInt1_bl]
    have kd2 := kf1.trans kf2
    have kB12 := kB11.trans kd2
    have k12 := kd1.trans kd2
    refine mkPap wl wu sl su [] (WL6.kp k12) (WU.kp k12) (by omega) (by omega) (Nat.zero_le _) (fun g hg => nomatch hg) (fun R r => ?_) fun x3 px3 D3' D3 X3 _ mx3 kg1 kg2 => ?_
    · try simp (maxSteps := 1000000) only [tSeq, tIfS, tTest, tOp, tUn, tCB, tCons, tNil, tVar, tC, rI0, rI, rU, rEq, rNe, tRet, tRetN, tAsg, gName, gSub, tBM, tBM0, tNext, tB, tNot, tAnd, tOr, tIf, tCall, tDrop, tBreak, tCont, L2.start, tDGet, sDPut, tTup, tLst, tDNewK, tRevL, rCat, rAppend, rPop, rSetL, tAndV, tOrV, tNotV, tSl, tPart, tNoPart, tM1, gTup, gCons, gNil, cxK, cxnK, List.map_cons, List.map_nil, List.length_cons, List.length_nil, List.replicate, List.cons_append, List.nil_append, List.append_nil, List.set_cons_zero, List.set_cons_succ, List.getElem?_cons_zero, List.getElem?_cons_succ, Option.some.injEq, V.ref.injEq, V.int.injEq, V.str.injEq, V.bl.injEq, V.ty.injEq, exists_eq_left', exists_eq_left, exists_and_left, List.cons.injEq, and_true, true_and, sc_ii, sc_ss, sc_bb, sc_ni, sc_in, sc_is, sc_si, sc_nn, decide_true, decide_false, reduceCtorEq, Bool.false_eq_true, if_true, if_false, ite_true, ite_false, exists_const, eq_self, false_and, and_false, or_false, false_or, exists_false, Evl.rLenS, rSum, wipe, tYes, exists_eq, exists_eq', rIxL, rIxT, rIxS, exists_and_right, gt_iff_lt, not_true_eq_false, not_false_eq_true, Bool.not_true, Bool.not_false, decide_eq_true_eq, Nat.reduceSub, Nat.reduceAdd, List.append_assoc, tChain, tDIn, tDNotIn, sDDel, tAug, ipI, rInt1_int, rInt1_bl]
      exact ⟨Nat.zero_le _, fun l nl => r l [] _ upd_same .nil (Kp.new nl)⟩
    try simp (maxSteps := 1000000) only [tSeq, tTest, tOp, tUn, tCB, tCons, tNil, tVar, tC, rI0, rI, rU, rEq, rNe, tRet, tRetN, tAsg, gName, gSub, tBM, tBM0, tNext, tB, tNot, tAnd, tOr, tIf, tCall, tDrop, tBreak, tCont, L2.start, tDGet, sDPut, tTup, tLst, tDNewK, tRevL, rCat, rAppend, rPop, rSetL, tAndV, tOrV, tNotV, tSl, tPart, tNoPart, tM1, gTup, gCons, gNil, cxK, cxnK, List.map_cons, List.map_nil, List.length_cons, List.length_nil, List.replicate, List.cons_append, List.nil_append, List.append_nil, List.set_cons_zero, List.set_cons_succ, List.getElem?_cons_zero, List.getElem?_cons_succ, Option.some.injEq, V.ref.injEq, V.int.injEq, V.str.injEq, V.bl.injEq, V.ty.injEq, exists_eq_left', exists_eq_left, exists_and_left, List.cons.injEq, and_true, true_and, sc_ii, sc_ss, sc_bb, sc_ni, sc_in, sc_is, sc_si, sc_nn, decide_true, decide_false, reduceCtorEq, Bool.false_eq_true, if_true, if_false, ite_true, ite_false, exists_const, eq_self, false_and, and_false, or_false, false_or, exists_false, Evl.rLenS, rSum, wipe, tYes, exists_eq, exists_eq', rIxL, rIxT, rIxS, exists_and_right, gt_iff_lt, not_true_eq_false, not_false_eq_true, Bool.not_true, Bool.not_false, decide_eq_true_eq, Nat.reduceSub, Nat.reduceAdd, List.append_assoc, tChain, tDIn, tDNotIn, sDDel, tAug, ipI, rInt1_int, rInt1_bl]
    have kd3 := kg1.trans kg2
    have kB13 := kB12.trans kd3
    have k13' := k12.trans kd3
    refine ⟨by rw [sizeLine_eq]; decide, fun pl npl => ?_⟩
    have kpl := (Kp.new npl : Kp [] D3 (upd D3 pl (.lst [.ref x1, .ref x2, .ref x3])))
    have hpl : (upd D3 pl (.lst [.ref x1, .ref x2, .ref x3])) pl = some (.lst [.ref x1, .ref x2, .ref x3]) := upd_same
    generalize upd D3 pl (.lst [.ref x1, .ref x2, .ref x3]) = D4 at kpl hpl ⊢
    have kB14 := kB13.trans kpl
    have k14 := k13'.trans kpl
    have X1' := X1.kp ((kd2.trans kd3).trans kpl)
    have X2' := X2.kp (kd3.trans kpl)
    have X3' := X3.kp kpl
    have WL14 := WL6.kp k14
    have WU14 := WU.kp k14
    have P1D := P1B.kp kB14
    have lx1 := X1.len mx1
    have lx2 := X2.len mx2
    have lx3 := X3.len mx3
    have gd1 := fun r hr => (gs1w.good r hr).deed
    have gd2 := fun r hr => (gs2w.good r hr).deed
    have gdl := fun r hr => (gsl.good r hr).deed
    have gdu := fun r hr => (gsu.good r hr).deed
    refine forLC (fun i σ G => ∃ c17 : Option V, σ = [some (V.ref a), some (V.ref sh), some (V.ref mn), some (V.ref al), some (V.ref ah), some (V.int rows1.length), some (V.int rows2.length), some (V.ref lf), some (V.ref lsd), some (V.ref pw), some (V.ref pa), some (V.ref hn), some (V.ref o1), some (V.ref o2), some (V.ref ob), some (V.ref wl), some (V.ref wu), c17] ∧ Kp [] D4 G) (sq_l hpl) ⟨_, rfl, Kp.refl _ _⟩ (fun j σ G _ h => by obtain ⟨_, _, k⟩ := h; exact sq_l (k _ _ not0 hpl)) (fun i y σ G hy h => ?_) fun σ G h => ?_
    · obtain ⟨c17, rfl, kG⟩ := h
      have kBG := kB14.trans kG
      have two : ∀ (x lx hx : Addr) (px : List Pr) (sx tx : List (List Mv)), PapAt PC D4 x lx hx px → WebAt WC D4 lx sx → WebAt WC D4 hx tx → sx.length ≤ 60 → tx.length ≤ 60 → (∀ r ∈ sx, ∀ m ∈ r, GoodDd m.1) → (∀ r ∈ tx, ∀ m ∈ r, GoodDd m.1) → px.length ≤ 12 → ¬ (s1 = sx ∧ s2 = tx) → ∀ (Q' : VK) (G : Hp), Kp [] D4 G → (∀ H', Kp [] G H' → Q' (.bl true) H') → spApart PC WC [.ref o1, .ref x] G Q' E0 ∧ spApart PC WC [.ref x, .ref o1] G Q' E0 := by
        intro x lx hx px sx tx hX wx1 wx2 lx1 lx2 g1 g2 lp ne Q' G kG hq
        have kBG := kB14.trans kG
        refine ⟨⟨o1, x, w1, w2, lx, hx, s1, s2, sx, tx, ps1, px, rfl, P1D.kp kG, hX.kp kG, W1B.kp kBG, W2B.kp kBG, wx1.kp kG, wx2.kp kG, fun r hr => ?_, by omega, by omega, by omega, ne, hq⟩, ⟨x, o1, lx, hx, w1, w2, sx, tx, s1, s2, px, ps1, rfl, hX.kp kG, P1D.kp kG, wx1.kp kG, wx2.kp kG, W1B.kp kBG, W2B.kp kBG, fun r hr => ?_, by omega, by omega, by omega, fun z => ne ⟨z.1.symm, z.2.symm⟩, hq⟩⟩
        · simp only [List.mem_append] at hr
          rcases hr with ((hr | hr) | hr) | hr
          · exact gd1 r hr
          · exact gd2 r hr
          · exact g1 r hr
          · exact g2 r hr
        · simp only [List.mem_append] at hr
          rcases hr with ((hr | hr) | hr) | hr
          · exact g1 r hr
          · exact g2 r hr
          · exact gd1 r hr
          · exact gd2 r hr
      have any : ∃ (x lx hx : Addr) (px : List Pr) (sx tx : List (List Mv)), y = .ref x ∧ PapAt PC D4 x lx hx px ∧ WebAt WC D4 lx sx ∧ WebAt WC D4 hx tx ∧ sx.length ≤ 60 ∧ tx.length ≤ 60 ∧ (∀ r ∈ sx, ∀ m ∈ r, GoodDd m.1) ∧ (∀ r ∈ tx, ∀ m ∈ r, GoodDd m.1) ∧ px.length ≤ 12 ∧ ¬ (s1 = sx ∧ s2 = tx) := by
        have hy2 := List.mem_of_getElem? hy
        simp at hy2
        rcases hy2 with rfl | rfl | rfl
        · exact ⟨x1, wl, w4, px1, sl, s2, rfl, X1', WL14, W4B.kp kB14, by omega, by omega, gdl, gd2, by omega, fun z => dl z.1⟩
        · exact ⟨x2, w3, wu, px2, s1, su, rfl, X2', W3B.kp kB14, WU14, by omega, by omega, gd1, gdu, by omega, fun z => du z.2⟩
        · exact ⟨x3, wl, wu, px3, sl, su, rfl, X3', WL14, WU14, by omega, by omega, gdl, gdu, by have : px3.length ≤ 0 := lx3; omega, fun z => dl z.1⟩
      obtain ⟨x, lx, hx, px, sx, tx, rfl, hX, wx1, wx2, l1', l2', g1', g2', lp', ne'⟩ := any
      have tw := two x lx hx px sx tx hX wx1 wx2 l1' l2' g1' g2' lp' ne'
      try simp (maxSteps := 1000000) only [tSeq, tIfS, tTest, tOp, tUn, tCB, tCons, tNil, tVar, tC, rI0, rI, rU, rEq, rNe, tRet, tRetN, tAsg, gName, gSub, tBM, tBM0, tNext, tB, tNot, tAnd, tOr, tIf, tCall, tDrop, tBreak, tCont, L2.start, tDGet, sDPut, tTup, tLst, tDNewK, tRevL, rCat, rAppend, rPop, rSetL, tAndV, tOrV, tNotV, tSl, tPart, tNoPart, tM1, gTup, gCons, gNil, cxK, cxnK, List.map_cons, List.map_nil, List.length_cons, List.length_nil, List.replicate, List.cons_append, List.nil_append, List.append_nil, List.set_cons_zero, List.set_cons_succ, List.getElem?_cons_zero, List.getElem?_cons_succ, Option.some.injEq, V.ref.injEq, V.int.injEq, V.str.injEq, V.bl.injEq, V.ty.injEq, exists_eq_left', exists_eq_left, exists_and_left, List.cons.injEq, and_true, true_and, sc_ii, sc_ss, sc_bb, sc_ni, sc_in, sc_is, sc_si, sc_nn, decide_true, decide_false, reduceCtorEq, Bool.false_eq_true, if_true, if_false, ite_true, ite_false, exists_const, eq_self, false_and, and_false, or_false, false_or, exists_false, Evl.rLenS, rSum, wipe, tYes, exists_eq, exists_eq', rIxL, rIxT, rIxS, exists_and_right, gt_iff_lt, not_true_eq_false, not_false_eq_true, Bool.not_true, Bool.not_false, decide_eq_true_eq, Nat.reduceSub, Nat.reduceAdd, List.append_assoc, tChain, tDIn, tDNotIn, sDDel, tAug, ipI, rInt1_int, rInt1_bl]
      refine (tw _ G kG fun H' k => ⟨true, rfl, ?_⟩).1
      rw [if_neg (by decide)]
      refine (tw _ H' (kG.trans k) fun H'' k2 => ⟨true, rfl, ?_⟩).2
      rw [if_neg (by decide)]
      exact (kG.trans k).trans k2
    · obtain ⟨c17, rfl, kG⟩ := h
      dsimp only
      try simp (maxSteps := 1000000) only [tSeq, tTest, tOp, tUn, tCB, tCons, tNil, tVar, tC, rI0, rI, rU, rEq, rNe, tRet, tRetN, tAsg, gName, gSub, tBM, tBM0, tNext, tB, tNot, tAnd, tOr, tIf, tCall, tDrop, tBreak, tCont, L2.start, tDGet, sDPut, tTup, tLst, tDNewK, tRevL, rCat, rAppend, rPop, rSetL, tAndV, tOrV, tNotV, tSl, tPart, tNoPart, tM1, gTup, gCons, gNil, cxK, cxnK, List.map_cons, List.map_nil, List.length_cons, List.length_nil, List.replicate, List.cons_append, List.nil_append, List.append_nil, List.set_cons_zero, List.set_cons_succ, List.getElem?_cons_zero, List.getElem?_cons_succ, Option.some.injEq, V.ref.injEq, V.int.injEq, V.str.injEq, V.bl.injEq, V.ty.injEq, exists_eq_left', exists_eq_left, exists_and_left, List.cons.injEq, and_true, true_and, sc_ii, sc_ss, sc_bb, sc_ni, sc_in, sc_is, sc_si, sc_nn, decide_true, decide_false, reduceCtorEq, Bool.false_eq_true, if_true, if_false, ite_true, ite_false, exists_const, eq_self, false_and, and_false, or_false, false_or, exists_false, Evl.rLenS, rSum, wipe, tYes, exists_eq, exists_eq', rIxL, rIxT, rIxS, exists_and_right, gt_iff_lt, not_true_eq_false, not_false_eq_true, Bool.not_true, Bool.not_false, decide_eq_true_eq, Nat.reduceSub, Nat.reduceAdd, List.append_assoc, tChain, tDIn, tDNotIn, sDDel, tAug, ipI, rInt1_int, rInt1_bl]
      have kBG := kB14.trans kG
      have kCG := k14.trans kG
      refine ifs_both (fun σ' G' => σ' = [some (V.ref a), some (V.ref sh), some (V.ref mn), some (V.ref al), some (V.ref ah), some (V.int rows1.length), some (V.int rows2.length), some (V.ref lf), some (V.ref lsd), some (V.ref pw), some (V.ref pa), some (V.ref hn), some (V.ref o1), some (V.ref o2), some (V.ref ob), some (V.ref wl), some (V.ref wu), c17] ∧ Kp [] G G') (fun Dn hn2 => ?_) ?_
      · try simp (maxSteps := 1000000) only [tSeq, tIfS, tTest, tOp, tUn, tCB, tCons, tNil, tVar, tC, rI0, rI, rU, rEq, rNe, tRet, tRetN, tAsg, gName, gSub, tBM, tBM0, tNext, tB, tNot, tAnd, tOr, tIf, tCall, tDrop, tBreak, tCont, L2.start, tDGet, sDPut, tTup, tLst, tDNewK, tRevL, rCat, rAppend, rPop, rSetL, tAndV, tOrV, tNotV, tSl, tPart, tNoPart, tM1, gTup, gCons, gNil, cxK, cxnK, List.map_cons, List.map_nil, List.length_cons, List.length_nil, List.replicate, List.cons_append, List.nil_append, List.append_nil, List.set_cons_zero, List.set_cons_succ, List.getElem?_cons_zero, List.getElem?_cons_succ, Option.some.injEq, V.ref.injEq, V.int.injEq, V.str.injEq, V.bl.injEq, V.ty.injEq, exists_eq_left', exists_eq_left, exists_and_left, List.cons.injEq, and_true, true_and, sc_ii, sc_ss, sc_bb, sc_ni, sc_in, sc_is, sc_si, sc_nn, decide_true, decide_false, reduceCtorEq, Bool.false_eq_true, if_true, if_false, ite_true, ite_false, exists_const, eq_self, false_and, and_false, or_false, false_or, exists_false, Evl.rLenS, rSum, wipe, tYes, exists_eq, exists_eq', rIxL, rIxT, rIxS, exists_and_right, gt_iff_lt, not_true_eq_false, not_false_eq_true, Bool.not_true, Bool.not_false, decide_eq_true_eq, Nat.reduceSub, Nat.reduceAdd, List.append_assoc, tChain, tDIn, tDNotIn, sDDel, tAug, ipI, rInt1_int, rInt1_bl]
        refine mkPap wl wu sl su [] (WL6.kp kCG) (WU.kp kCG) (by omega) (by omega) (Nat.zero_le _) (fun g hg => nomatch hg) (fun R r => ?_) fun x4 px4 G1' G2 X4 _ mx4 kh1 kh2 => ?_
        · try simp (maxSteps := 1000000) only [tSeq, tIfS, tTest, tOp, tUn, tCB, tCons, tNil, tVar, tC, rI0, rI, rU, rEq, rNe, tRet, tRetN, tAsg, gName, gSub, tBM, tBM0, tNext, tB, tNot, tAnd, tOr, tIf, tCall, tDrop, tBreak, tCont, L2.start, tDGet, sDPut, tTup, tLst, tDNewK, tRevL, rCat, rAppend, rPop, rSetL, tAndV, tOrV, tNotV, tSl, tPart, tNoPart, tM1, gTup, gCons, gNil, cxK, cxnK, List.map_cons, List.map_nil, List.length_cons, List.length_nil, List.replicate, List.cons_append, List.nil_append, List.append_nil, List.set_cons_zero, List.set_cons_succ, List.getElem?_cons_zero, List.getElem?_cons_succ, Option.some.injEq, V.ref.injEq, V.int.injEq, V.str.injEq, V.bl.injEq, V.ty.injEq, exists_eq_left', exists_eq_left, exists_and_left, List.cons.injEq, and_true, true_and, sc_ii, sc_ss, sc_bb, sc_ni, sc_in, sc_is, sc_si, sc_nn, decide_true, decide_false, reduceCtorEq, Bool.false_eq_true, if_true, if_false, ite_true, ite_false, exists_const, eq_self, false_and, and_false, or_false, false_or, exists_false, Evl.rLenS, rSum, wipe, tYes, exists_eq, exists_eq', rIxL, rIxT, rIxS, exists_and_right, gt_iff_lt, not_true_eq_false, not_false_eq_true, Bool.not_true, Bool.not_false, decide_eq_true_eq, Nat.reduceSub, Nat.reduceAdd, List.append_assoc, tChain, tDIn, tDNotIn, sDDel, tAug, ipI, rInt1_int, rInt1_bl]
          exact ⟨Nat.zero_le _, fun l nl => r l [] _ upd_same .nil (Kp.new nl)⟩
        try simp (maxSteps := 1000000) only [tSeq, tIfS, tTest, tOp, tUn, tCB, tCons, tNil, tVar, tC, rI0, rI, rU, rEq, rNe, tRet, tRetN, tAsg, gName, gSub, tBM, tBM0, tNext, tB, tNot, tAnd, tOr, tIf, tCall, tDrop, tBreak, tCont, L2.start, tDGet, sDPut, tTup, tLst, tDNewK, tRevL, rCat, rAppend, rPop, rSetL, tAndV, tOrV, tNotV, tSl, tPart, tNoPart, tM1, gTup, gCons, gNil, cxK, cxnK, List.map_cons, List.map_nil, List.length_cons, List.length_nil, List.replicate, List.cons_append, List.nil_append, List.append_nil, List.set_cons_zero, List.set_cons_succ, List.getElem?_cons_zero, List.getElem?_cons_succ, Option.some.injEq, V.ref.injEq, V.int.injEq, V.str.injEq, V.bl.injEq, V.ty.injEq, exists_eq_left', exists_eq_left, exists_and_left, List.cons.injEq, and_true, true_and, sc_ii, sc_ss, sc_bb, sc_ni, sc_in, sc_is, sc_si, sc_nn, decide_true, decide_false, reduceCtorEq, Bool.false_eq_true, if_true, if_false, ite_true, ite_false, exists_const, eq_self, false_and, and_false, or_false, false_or, exists_false, Evl.rLenS, rSum, wipe, tYes, exists_eq, exists_eq', rIxL, rIxT, rIxS, exists_and_right, gt_iff_lt, not_true_eq_false, not_false_eq_true, Bool.not_true, Bool.not_false, decide_eq_true_eq, Nat.reduceSub, Nat.reduceAdd, List.append_assoc, tChain, tDIn, tDNotIn, sDDel, tAug, ipI, rInt1_int, rInt1_bl]
        refine ⟨Nat.zero_le _, fun d nd => ?_⟩
        have kd := (Kp.new nd : Kp [] G2 (upd G2 d (.lst [])))
        have kh := (kh1.trans kh2).trans kd
        refine ⟨x4, wl, wu, d, rows1.length, rows2.length, px4, [], sl, su, [], rfl, X4.kp kd, WL6.kp (kCG.trans kh), WU.kp (kCG.trans kh), by omega, by omega, upd_same, .nil, l11, by omega, l21, by omega, mx4, fun g hg => (nomatch hg), fun p hp => (nomatch ((mx4 p).mp hp)), Nat.zero_le _, fun H' k => ⟨true, rfl, ?_⟩⟩
        rw [if_neg (by decide)]
        exact hn2 _ _ ⟨rfl, kh.trans k⟩
      · rintro σ' G' ⟨rfl, kG'⟩
        have kBF := kBG.trans kG'
        try simp (maxSteps := 1000000) only [tSeq, tIfS, tTest, tOp, tUn, tCB, tCons, tNil, tVar, tC, rI0, rI, rU, rEq, rNe, tRet, tRetN, tAsg, gName, gSub, tBM, tBM0, tNext, tB, tNot, tAnd, tOr, tIf, tCall, tDrop, tBreak, tCont, L2.start, tDGet, sDPut, tTup, tLst, tDNewK, tRevL, rCat, rAppend, rPop, rSetL, tAndV, tOrV, tNotV, tSl, tPart, tNoPart, tM1, gTup, gCons, gNil, cxK, cxnK, List.map_cons, List.map_nil, List.length_cons, List.length_nil, List.replicate, List.cons_append, List.nil_append, List.append_nil, List.set_cons_zero, List.set_cons_succ, List.getElem?_cons_zero, List.getElem?_cons_succ, Option.some.injEq, V.ref.injEq, V.int.injEq, V.str.injEq, V.bl.injEq, V.ty.injEq, exists_eq_left', exists_eq_left, exists_and_left, List.cons.injEq, and_true, true_and, sc_ii, sc_ss, sc_bb, sc_ni, sc_in, sc_is, sc_si, sc_nn, decide_true, decide_false, reduceCtorEq, Bool.false_eq_true, if_true, if_false, ite_true, ite_false, exists_const, eq_self, false_and, and_false, or_false, false_or, exists_false, Evl.rLenS, rSum, wipe, tYes, exists_eq, exists_eq', rIxL, rIxT, rIxS, exists_and_right, gt_iff_lt, not_true_eq_false, not_false_eq_true, Bool.not_true, Bool.not_false, decide_eq_true_eq, Nat.reduceSub, Nat.reduceAdd, List.append_assoc, tChain, tDIn, tDNotIn, sDDel, tAug, ipI, rInt1_int, rInt1_bl]
        have hpwF := kBF _ _ not0 hpwB
        refine ⟨_, sq_l hpwF, _, rfl, _, sq_l hpwF, _, rfl, a, 8, ns, rfl, hSB.kp kBF, by decide, fun r8 G3 r80 k8' => ?_⟩
        have kBE := kBF.trans k8'
        exact ⟨w1, w2, lf, r8, us1, gs1, s1, s2, rfl, r80, W1B.kp kBE, W2B.kp kBE, by omega, by omega, by omega, by omega, kBE _ _ not0 hlfB, hus1_B.mono fun _ _ z => z.tp kBE.tps, by omega, fun g hg => by rw [ls1, ls2]; exact hin1 g hg, fun H' _ => q H'⟩
end
end My

set_option Elab.async false
set_option linter.all false
set_option maxRecDepth 100000
set_option maxHeartbeats 8000000
namespace My
open PySem L2 NdefX
theorem exm_sub {K : PySem.W.Frag} {S D : Addr} {b : Bool} (h1 : PySem.W.subIn K (.ref D) (.type "BaseException") = some true) (h2 : PySem.W.isClsIn K D = true) (h3 : PySem.W.typeIn K (.ref D) = some (.type "type"))
    (h4 : PySem.W.subIn K (.ref S) (.ref D) = some b) : PySem.W.exmOne K (.ref S) (.ref D) = some b := by
  have i2 : (PySem.W.clsIn K D).isSome = true := h2
  unfold PySem.W.exmOne
  simp [PySem.W.kitCls, h1, i2, h3, h4]
theorem kit_self {K : PySem.W.Frag} {S : Addr} : PySem.W.kitOne K (.ref S) (.ref S) = some true := by
  unfold PySem.W.kitOne
  rw [if_pos (beq_self_eq_true _)]
theorem kit_sub {K : PySem.W.Frag} {S D : Addr} {b : Bool} (h1 : ((Value.ref S) == (Value.ref D)) = false) (h2 : PySem.W.isClsIn K D = true) (h3 : PySem.W.typeIn K (.ref D) = some (.type "type")) (h4 : PySem.W.subIn K (.ref S) (.ref D) = some b) : PySem.W.kitOne K (.ref S) (.ref D) = some b := by
  have i2 : (PySem.W.clsIn K D).isSome = true := h2
  unfold PySem.W.kitOne
  rw [h1]
  simp [PySem.W.kitCls, i2, h3, h4]
theorem kit_ty {K : PySem.W.Frag} {S : Addr} {T : String} {b : Bool} (h1 : PySem.W.kitMeta T = true) (h4 : PySem.W.subIn K (.ref S) (.type T) = some b) : PySem.W.kitOne K (.ref S) (.type T) = some b := by
  unfold PySem.W.kitOne
  rw [if_neg (by rw [show ((Value.ref S) == (Value.type T)) = false from beq_eq_false_iff_ne.mpr (fun z => nomatch z)]; exact Bool.false_ne_true)]
  simp [PySem.W.kitCls, h1, h4]
theorem smallI_log {v : V} (h : SmallI v) : ∃ i : Int, v = .int i ∧ i.natAbs.log2 < 1920 := by
  obtain ⟨i, e, h0, h1⟩ := h
  refine ⟨i, e, ?_⟩
  by_cases e0 : i.natAbs = 0
  · rw [e0]; decide
  · rw [Nat.log2_lt e0]
    have h0 : (5000 : Nat) < 2 ^ 1920 := by decide +kernel
    omega
theorem all_mk {l : PySem.W.OpenLaw} {w : World} {K : PySem.W.Frag} {h : Heap} {mg : Str → Option Value} {fa : Addr} (X : K.In h) (G : h.Ns mainGlobals mg) (hfa : mg "law" = some (.ref fa))
    {f0 : Addr}
    {od0 an0 : Option Addr}
    {sl0 : Array (Option Value)}
    {oc0 kV0 dc0 pm0 cd0 ct0 : Value}
    {f1 : Addr}
    {od1 an1 : Option Addr}
    {sl1 : Array (Option Value)}
    {oc1 kV1 dc1 pm1 cd1 ct1 : Value}
    {f2 : Addr}
    {od2 an2 : Option Addr}
    {sl2 : Array (Option Value)}
    {oc2 kV2 dc2 pm2 cd2 ct2 : Value}
    {f3 : Addr}
    {od3 an3 : Option Addr}
    {sl3 : Array (Option Value)}
    {oc3 kV3 dc3 pm3 cd3 ct3 : Value}
    {f4 : Addr}
    {od4 an4 : Option Addr}
    {sl4 : Array (Option Value)}
    {oc4 kV4 dc4 pm4 cd4 ct4 : Value}
    {f5 : Addr}
    {od5 an5 : Option Addr}
    {sl5 : Array (Option Value)}
    {oc5 kV5 dc5 pm5 cd5 ct5 : Value}
    {f6 : Addr}
    {od6 an6 : Option Addr}
    {sl6 : Array (Option Value)}
    {oc6 kV6 dc6 pm6 cd6 ct6 : Value}
    {f7 : Addr}
    {od7 an7 : Option Addr}
    {sl7 : Array (Option Value)}
    {oc7 kV7 dc7 pm7 cd7 ct7 : Value}
    {f8 : Addr}
    {od8 an8 : Option Addr}
    {sl8 : Array (Option Value)}
    {oc8 kV8 dc8 pm8 cd8 ct8 : Value}
    {f9 : Addr}
    {od9 an9 : Option Addr}
    {sl9 : Array (Option Value)}
    {oc9 kV9 dc9 pm9 cd9 ct9 : Value}
    {f10 : Addr}
    {od10 an10 : Option Addr}
    {sl10 : Array (Option Value)}
    {oc10 kV10 dc10 pm10 cd10 ct10 : Value}
    {f11 : Addr}
    {od11 an11 : Option Addr}
    {sl11 : Array (Option Value)}
    {oc11 kV11 dc11 pm11 cd11 ct11 : Value}
    {f12 : Addr}
    {od12 an12 : Option Addr}
    {sl12 : Array (Option Value)}
    {oc12 kV12 dc12 pm12 cd12 ct12 : Value}
    {f13 : Addr}
    {od13 an13 : Option Addr}
    {sl13 : Array (Option Value)}
    {oc13 kV13 dc13 pm13 cd13 ct13 : Value}
    {f14 : Addr}
    {od14 an14 : Option Addr}
    {sl14 : Array (Option Value)}
    {oc14 kV14 dc14 pm14 cd14 ct14 : Value}
    {f15 : Addr}
    {od15 an15 : Option Addr}
    {sl15 : Array (Option Value)}
    {oc15 kV15 dc15 pm15 cd15 ct15 : Value}
    {f16 : Addr}
    {od16 an16 : Option Addr}
    {sl16 : Array (Option Value)}
    {oc16 kV16 dc16 pm16 cd16 ct16 : Value}
    {f17 : Addr}
    {od17 an17 : Option Addr}
    {sl17 : Array (Option Value)}
    {oc17 kV17 dc17 pm17 cd17 ct17 : Value}
    {f18 : Addr}
    {od18 an18 : Option Addr}
    {sl18 : Array (Option Value)}
    {oc18 kV18 dc18 pm18 cd18 ct18 : Value}
    {f19 : Addr}
    {od19 an19 : Option Addr}
    {sl19 : Array (Option Value)}
    {oc19 kV19 dc19 pm19 cd19 ct19 : Value}
    {f20 : Addr}
    {od20 an20 : Option Addr}
    {sl20 : Array (Option Value)}
    {oc20 kV20 dc20 pm20 cd20 ct20 : Value}
    {f21 : Addr}
    {od21 an21 : Option Addr}
    {sl21 : Array (Option Value)}
    {oc21 kV21 dc21 pm21 cd21 ct21 : Value}
    {f22 : Addr}
    {od22 an22 : Option Addr}
    {sl22 : Array (Option Value)}
    {oc22 kV22 dc22 pm22 cd22 ct22 : Value}
    {tX4 : Tok}
    {sXL : Str}
    {tXL : Tok}
    {TL feG ccG cdaG NG : Addr}
    {nmG qnG fileG : Str}
    {bsG bmG sbG : List Value}
    {snG : List Str}
    {abG : Bool}
    {coG : Option Bool}
    {ddG odG anG cdG ceG : Option Addr}
    {m0G m1G m2G m3G m5G : Option Value}
    {vsG : Array Value}
    {tfG : Tok}
    {slG csG czG : Array (Option Value)}
    {ocG kVG dcG pmG ctG clG cxG : Value}
    {BW feB ccB cdaB NB : Addr}
    {nmB qnB fileB : Str}
    {bsB bmB sbB : List Value}
    {snB : List Str}
    {abB : Bool}
    {coB : Option Bool}
    {ddB odB anB cdB ceB : Option Addr}
    {m0B m1B m2B m3B m5B : Option Value}
    {vsB : Array Value}
    {tfB : Tok}
    {slB csB czB : Array (Option Value)}
    {ocB kVB dcB pmB ctB clB cxB : Value}
    {NS feN ccN cdaN NN : Addr}
    {nmN qnN fileN : Str}
    {bsN bmN sbN : List Value}
    {snN : List Str}
    {abN : Bool}
    {coN : Option Bool}
    {ddN odN anN cdN ceN : Option Addr}
    {m0N m1N m2N m3N m5N : Option Value}
    {vsN : Array Value}
    {tfN : Tok}
    {slN csN czN : Array (Option Value)}
    {ocN kVN dcN pmN ctN clN cxN : Value}
    {OW feO ccO cdaO NO : Addr}
    {nmO qnO fileO : Str}
    {bsO bmO sbO : List Value}
    {snO : List Str}
    {abO : Bool}
    {coO : Option Bool}
    {ddO odO anO cdO ceO : Option Addr}
    {m0O m1O m2O m3O m5O : Option Value}
    {vsO : Array Value}
    {tfO : Tok}
    {slO csO czO : Array (Option Value)}
    {ocO kVO dcO pmO ctO clO cxO : Value}
    {CE : Addr}
    {WC : Addr}
    {fTI : Addr}
    {odTI anTI : Option Addr}
    {slTI : Array (Option Value)}
    {ocTI kVTI dcTI pmTI cdTI ctTI : Value}
    {fTL : Addr}
    {odTL anTL : Option Addr}
    {slTL : Array (Option Value)}
    {ocTL kVTL dcTL pmTL cdTL ctTL : Value}
    {fTM : Addr}
    {odTM anTM : Option Addr}
    {slTM : Array (Option Value)}
    {ocTM kVTM dcTM pmTM cdTM ctTM : Value}
    {fTK : Addr}
    {odTK anTK : Option Addr}
    {slTK : Array (Option Value)}
    {ocTK kVTK dcTK pmTK cdTK ctTK : Value}
    {fTS : Addr}
    {odTS anTS : Option Addr}
    {slTS : Array (Option Value)}
    {ocTS kVTS dcTS pmTS cdTS ctTS : Value}
    {PC : Addr}
    {fPI : Addr}
    {odPI anPI : Option Addr}
    {slPI : Array (Option Value)}
    {ocPI kVPI dcPI pmPI cdPI ctPI : Value}
    {fPL : Addr}
    {odPL anPL : Option Addr}
    {slPL : Array (Option Value)}
    {ocPL kVPL dcPL pmPL cdPL ctPL : Value}
    {fPC : Addr}
    {odPC anPC : Option Addr}
    {slPC : Array (Option Value)}
    {ocPC kVPC dcPC pmPC cdPC ctPC : Value}
    {fPT : Addr}
    {odPT anPT : Option Addr}
    {slPT : Array (Option Value)}
    {ocPT kVPT dcPT pmPT cdPT ctPT : Value}
    {fPO : Addr}
    {odPO anPO : Option Addr}
    {slPO : Array (Option Value)}
    {ocPO kVPO dcPO pmPO cdPO ctPO : Value}
    (a0 : PySem.W.nsIn K mainGlobals "is_name" = some (some (.ref f0)))
    (l0 : K.lookup f0 = some ⟨oc0, od0, .func (PySem.W.fnOf "is_name" "is_name" (defArgs s_is_name) (defBody s_is_name) (defScope s_is_name) .none kV0 dc0 pm0 an0 cd0 ct0), sl0⟩)
    (c0 : PySem.W.codeIn K cd0 "is_name" = true)
    (k0 : PySem.W.keepIn K (.ref f0) = true)
    (a1 : PySem.W.nsIn K mainGlobals "is_below" = some (some (.ref f1)))
    (l1 : K.lookup f1 = some ⟨oc1, od1, .func (PySem.W.fnOf "is_below" "is_below" (defArgs s_is_below) (defBody s_is_below) (defScope s_is_below) .none kV1 dc1 pm1 an1 cd1 ct1), sl1⟩)
    (c1 : PySem.W.codeIn K cd1 "is_below" = true)
    (k1 : PySem.W.keepIn K (.ref f1) = true)
    (a2 : PySem.W.nsIn K mainGlobals "is_number" = some (some (.ref f2)))
    (l2 : K.lookup f2 = some ⟨oc2, od2, .func (PySem.W.fnOf "is_number" "is_number" (defArgs s_is_number) (defBody s_is_number) (defScope s_is_number) .none kV2 dc2 pm2 an2 cd2 ct2), sl2⟩)
    (c2 : PySem.W.codeIn K cd2 "is_number" = true)
    (k2 : PySem.W.keepIn K (.ref f2) = true)
    (a3 : PySem.W.nsIn K mainGlobals "is_deed" = some (some (.ref f3)))
    (l3 : K.lookup f3 = some ⟨oc3, od3, .func (PySem.W.fnOf "is_deed" "is_deed" (defArgs s_is_deed) (defBody s_is_deed) (defScope s_is_deed) .none kV3 dc3 pm3 an3 cd3 ct3), sl3⟩)
    (c3 : PySem.W.codeIn K cd3 "is_deed" = true)
    (k3 : PySem.W.keepIn K (.ref f3) = true)
    (a4 : PySem.W.nsIn K mainGlobals "is_visible" = some (some (.ref f4)))
    (l4 : K.lookup f4 = some ⟨oc4, od4, .func (PySem.W.fnOf "is_visible" "is_visible" (defArgs s_is_visible) (defBody s_is_visible) (defScope s_is_visible) .none kV4 dc4 pm4 an4 cd4 ct4), sl4⟩)
    (c4 : PySem.W.codeIn K cd4 "is_visible" = true)
    (k4 : PySem.W.keepIn K (.ref f4) = true)
    (a5 : PySem.W.nsIn K mainGlobals "are_moves" = some (some (.ref f5)))
    (l5 : K.lookup f5 = some ⟨oc5, od5, .func (PySem.W.fnOf "are_moves" "are_moves" (defArgs s_are_moves) (defBody s_are_moves) (defScope s_are_moves) .none kV5 dc5 pm5 an5 cd5 ct5), sl5⟩)
    (c5 : PySem.W.codeIn K cd5 "are_moves" = true)
    (k5 : PySem.W.keepIn K (.ref f5) = true)
    (a6 : PySem.W.nsIn K mainGlobals "check_pairs" = some (some (.ref f6)))
    (l6 : K.lookup f6 = some ⟨oc6, od6, .func (PySem.W.fnOf "check_pairs" "check_pairs" (defArgs s_check_pairs) (defBody s_check_pairs) (defScope s_check_pairs) .none kV6 dc6 pm6 an6 cd6 ct6), sl6⟩)
    (c6 : PySem.W.codeIn K cd6 "check_pairs" = true)
    (k6 : PySem.W.keepIn K (.ref f6) = true)
    (a7 : PySem.W.nsIn K mainGlobals "_law_cell" = some (some (.ref f7)))
    (l7 : K.lookup f7 = some ⟨oc7, od7, .func (PySem.W.fnOf "_law_cell" "_law_cell" (defArgs s_law_cell) (defBody s_law_cell) (defScope s_law_cell) .none kV7 dc7 pm7 an7 cd7 ct7), sl7⟩)
    (c7 : PySem.W.codeIn K cd7 "_law_cell" = true)
    (k7 : PySem.W.keepIn K (.ref f7) = true)
    (a8 : PySem.W.nsIn K mainGlobals "_law_draws" = some (some (.ref f8)))
    (l8 : K.lookup f8 = some ⟨oc8, od8, .func (PySem.W.fnOf "_law_draws" "_law_draws" (defArgs s_law_draws) (defBody s_law_draws) (defScope s_law_draws) .none kV8 dc8 pm8 an8 cd8 ct8), sl8⟩)
    (c8 : PySem.W.codeIn K cd8 "_law_draws" = true)
    (k8 : PySem.W.keepIn K (.ref f8) = true)
    (a9 : PySem.W.nsIn K mainGlobals "_law_menu" = some (some (.ref f9)))
    (l9 : K.lookup f9 = some ⟨oc9, od9, .func (PySem.W.fnOf "_law_menu" "_law_menu" (defArgs s_law_menu) (defBody s_law_menu) (defScope s_law_menu) .none kV9 dc9 pm9 an9 cd9 ct9), sl9⟩)
    (c9 : PySem.W.codeIn K cd9 "_law_menu" = true)
    (k9 : PySem.W.keepIn K (.ref f9) = true)
    (a10 : PySem.W.nsIn K mainGlobals "_law_free" = some (some (.ref f10)))
    (l10 : K.lookup f10 = some ⟨oc10, od10, .func (PySem.W.fnOf "_law_free" "_law_free" (defArgs s_law_free) (defBody s_law_free) (defScope s_law_free) .none kV10 dc10 pm10 an10 cd10 ct10), sl10⟩)
    (c10 : PySem.W.codeIn K cd10 "_law_free" = true)
    (k10 : PySem.W.keepIn K (.ref f10) = true)
    (a11 : PySem.W.nsIn K mainGlobals "_law_same" = some (some (.ref f11)))
    (l11 : K.lookup f11 = some ⟨oc11, od11, .func (PySem.W.fnOf "_law_same" "_law_same" (defArgs s_law_same) (defBody s_law_same) (defScope s_law_same) .none kV11 dc11 pm11 an11 cd11 ct11), sl11⟩)
    (c11 : PySem.W.codeIn K cd11 "_law_same" = true)
    (k11 : PySem.W.keepIn K (.ref f11) = true)
    (a12 : PySem.W.nsIn K mainGlobals "_law_copy" = some (some (.ref f12)))
    (l12 : K.lookup f12 = some ⟨oc12, od12, .func (PySem.W.fnOf "_law_copy" "_law_copy" (defArgs s_law_copy) (defBody s_law_copy) (defScope s_law_copy) .none kV12 dc12 pm12 an12 cd12 ct12), sl12⟩)
    (c12 : PySem.W.codeIn K cd12 "_law_copy" = true)
    (k12 : PySem.W.keepIn K (.ref f12) = true)
    (a13 : PySem.W.nsIn K mainGlobals "_law_turned" = some (some (.ref f13)))
    (l13 : K.lookup f13 = some ⟨oc13, od13, .func (PySem.W.fnOf "_law_turned" "_law_turned" (defArgs s_law_turned) (defBody s_law_turned) (defScope s_law_turned) .none kV13 dc13 pm13 an13 cd13 ct13), sl13⟩)
    (c13 : PySem.W.codeIn K cd13 "_law_turned" = true)
    (k13 : PySem.W.keepIn K (.ref f13) = true)
    (a14 : PySem.W.nsIn K mainGlobals "_law_list" = some (some (.ref f14)))
    (l14 : K.lookup f14 = some ⟨oc14, od14, .func (PySem.W.fnOf "_law_list" "_law_list" (defArgs s_law_list) (defBody s_law_list) (defScope s_law_list) .none kV14 dc14 pm14 an14 cd14 ct14), sl14⟩)
    (c14 : PySem.W.codeIn K cd14 "_law_list" = true)
    (k14 : PySem.W.keepIn K (.ref f14) = true)
    (a15 : PySem.W.nsIn K mainGlobals "_law_between" = some (some (.ref f15)))
    (l15 : K.lookup f15 = some ⟨oc15, od15, .func (PySem.W.fnOf "_law_between" "_law_between" (defArgs s_law_between) (defBody s_law_between) (defScope s_law_between) .none kV15 dc15 pm15 an15 cd15 ct15), sl15⟩)
    (c15 : PySem.W.codeIn K cd15 "_law_between" = true)
    (k15 : PySem.W.keepIn K (.ref f15) = true)
    (a16 : PySem.W.nsIn K mainGlobals "_law_has" = some (some (.ref f16)))
    (l16 : K.lookup f16 = some ⟨oc16, od16, .func (PySem.W.fnOf "_law_has" "_law_has" (defArgs s_law_has) (defBody s_law_has) (defScope s_law_has) .none kV16 dc16 pm16 an16 cd16 ct16), sl16⟩)
    (c16 : PySem.W.codeIn K cd16 "_law_has" = true)
    (k16 : PySem.W.keepIn K (.ref f16) = true)
    (a17 : PySem.W.nsIn K mainGlobals "_law_other" = some (some (.ref f17)))
    (l17 : K.lookup f17 = some ⟨oc17, od17, .func (PySem.W.fnOf "_law_other" "_law_other" (defArgs s_law_other) (defBody s_law_other) (defScope s_law_other) .none kV17 dc17 pm17 an17 cd17 ct17), sl17⟩)
    (c17 : PySem.W.codeIn K cd17 "_law_other" = true)
    (k17 : PySem.W.keepIn K (.ref f17) = true)
    (a18 : PySem.W.nsIn K mainGlobals "_law_apart" = some (some (.ref f18)))
    (l18 : K.lookup f18 = some ⟨oc18, od18, .func (PySem.W.fnOf "_law_apart" "_law_apart" (defArgs s_law_apart) (defBody s_law_apart) (defScope s_law_apart) .none kV18 dc18 pm18 an18 cd18 ct18), sl18⟩)
    (c18 : PySem.W.codeIn K cd18 "_law_apart" = true)
    (k18 : PySem.W.keepIn K (.ref f18) = true)
    (a19 : PySem.W.nsIn K mainGlobals "_law_refused" = some (some (.ref f19)))
    (l19 : K.lookup f19 = some ⟨oc19, od19, .func (PySem.W.fnOf "_law_refused" "_law_refused" (defArgs s_law_refused) (defBody s_law_refused) (defScope s_law_refused) .none kV19 dc19 pm19 an19 cd19 ct19), sl19⟩)
    (c19 : PySem.W.codeIn K cd19 "_law_refused" = true)
    (k19 : PySem.W.keepIn K (.ref f19) = true)
    (a20 : PySem.W.nsIn K mainGlobals "_law_odd" = some (some (.ref f20)))
    (l20 : K.lookup f20 = some ⟨oc20, od20, .func (PySem.W.fnOf "_law_odd" "_law_odd" (defArgs s_law_odd) (defBody s_law_odd) (defScope s_law_odd) .none kV20 dc20 pm20 an20 cd20 ct20), sl20⟩)
    (c20 : PySem.W.codeIn K cd20 "_law_odd" = true)
    (k20 : PySem.W.keepIn K (.ref f20) = true)
    (a21 : PySem.W.nsIn K mainGlobals "_law_bad_pairs" = some (some (.ref f21)))
    (l21 : K.lookup f21 = some ⟨oc21, od21, .func (PySem.W.fnOf "_law_bad_pairs" "_law_bad_pairs" (defArgs s_law_bad_pairs) (defBody s_law_bad_pairs) (defScope s_law_bad_pairs) .none kV21 dc21 pm21 an21 cd21 ct21), sl21⟩)
    (c21 : PySem.W.codeIn K cd21 "_law_bad_pairs" = true)
    (k21 : PySem.W.keepIn K (.ref f21) = true)
    (a22 : PySem.W.nsIn K mainGlobals "law" = some (some (.ref f22)))
    (l22 : K.lookup f22 = some ⟨oc22, od22, .func (PySem.W.fnOf "law" "law" (defArgs s_law) (defBody s_law) (defScope s_law) .none kV22 dc22 pm22 an22 cd22 ct22), sl22⟩)
    (c22 : PySem.W.codeIn K cd22 "law" = true)
    (k22 : PySem.W.keepIn K (.ref f22) = true)
    (z_isinstance : PySem.W.nsIn K mainGlobals "isinstance" = some none)
    (z_str : PySem.W.nsIn K mainGlobals "str" = some none)
    (z_int : PySem.W.nsIn K mainGlobals "int" = some none)
    (z_bool : PySem.W.nsIn K mainGlobals "bool" = some none)
    (z_tuple : PySem.W.nsIn K mainGlobals "tuple" = some none)
    (z_list : PySem.W.nsIn K mainGlobals "list" = some none)
    (z_len : PySem.W.nsIn K mainGlobals "len" = some none)
    (z_all : PySem.W.nsIn K mainGlobals "all" = some none)
    (z_sorted : PySem.W.nsIn K mainGlobals "sorted" = some none)
    (z_range : PySem.W.nsIn K mainGlobals "range" = some none)
    (z_enumerate : PySem.W.nsIn K mainGlobals "enumerate" = some none)
    (z_abs : PySem.W.nsIn K mainGlobals "abs" = some none)
    (z_iter : PySem.W.nsIn K mainGlobals "iter" = some none)
    (z_super : PySem.W.nsIn K mainGlobals "super" = some none)
    (z_ValueError : PySem.W.nsIn K mainGlobals "ValueError" = some none)
    (gX4 : PySem.W.nsIn K mainGlobals "MOST_STANDINGS" = some (some (.int 4000 tX4)))
    (gXL : PySem.W.nsIn K mainGlobals "LETTERS" = some (some (.str sXL tXL)))
    (eXL : sXL = lets)
    (aG : PySem.W.nsIn K mainGlobals "TooLarge" = some (some (.ref TL)))
    (xG : K.lookup TL = some (excClassObj nmG qnG TL NG bsG bmG true snG sbG abG coG ddG m0G m1G m2G m3G m5G "ValueError.__new__"))
    (rG : PySem.HandSPX.refsVE bmG = true)
    (b1G : PySem.W.findIn K (.ref TL) "__setattr__" = some (some (.builtin "object.__setattr__")))
    (q1G : PySem.W.subIn K (.ref TL) (.type "BaseException") = some true)
    (q2G : PySem.W.isClsIn K TL = true)
    (q3G : PySem.W.typeIn K (.ref TL) = some (.type "type"))
    (b4G : PySem.W.keepIn K (.ref TL) = true)
    (b5G : PySem.W.findIn K (.ref TL) "__init__" = some (some (.ref feG)))
    (b6G : PySem.W.typeIn K (.ref feG) = some (.type "function"))
    (lG : K.lookup feG = some ⟨ocG, odG, .func (PySem.W.fnX "__init__" "TooLarge.__init__" (defArgs s_TooLarge_init) (defBody s_TooLarge_init) (defScope s_TooLarge_init) [("__class__", ccG)] .none kVG dcG pmG anG (.ref cdaG) ctG), slG⟩)
    (cG : PySem.W.codeIn K (.ref cdaG) "TooLarge.__init__" = true)
    (kG : PySem.W.keepIn K (.ref feG) = true)
    (eG : K.lookup ccG = some ⟨clG, cdG, .cell (some (.ref TL)), csG⟩)
    (b7G : PySem.W.ks_superIn K TL TL "__init__" = some (some (.builtin "ValueError.__init__")))
    (b8G : PySem.W.subIn K (.ref TL) (.type "ValueError") = some true)
    (b9 : PySem.W.nsIn K cStatics "thirdparty.any" = some none)
    (b14 : (l.prog.main.scope.names.lookup ("super" : Str)).isSome = false)
    (b31 : PySem.W.kitMeta "ValueError" = true)
    (p12 : PySem.W.specialIn K (.builtin "object.__class__") "__get__" = some (some (.builtin "getset_descriptor.__get__")))
    (p13 : PySem.W.takesIn K (.builtin "object.__class__") = some true)
    (b10G : PySem.W.mroIn K TL (.ref TL) = some true)
    (b11G : K.lookup cdaG = some ⟨cxG, ceG, .fields vsG, czG⟩)
    (b12G : vsG[2]? = some (.str fileG tfG))
    (b13G : ((l.prog.main.file : Str) == fileG) = true)
    (b15G : PySem.W.findIn K (.ref TL) "bound" = some none)
    (b17G : PySem.W.findIn K (.ref TL) "__getattribute__" = some (some (.builtin "BaseException.__getattribute__")))
    (b18G : PySem.W.findIn K (.ref TL) "__getattr__" = some none)
    (b19G : PySem.W.hasDictIn K TL = true)
    (b25G : PySem.W.findIn K (.ref TL) "__class__" = some (some (.builtin "object.__class__")))
    (b26G : PySem.W.mroIn K TL (.type "object") = some true)
    (aB : PySem.W.nsIn K mainGlobals "BadWeb" = some (some (.ref BW)))
    (xB : K.lookup BW = some (excClassObj nmB qnB BW NB bsB bmB true snB sbB abB coB ddB m0B m1B m2B m3B m5B "ValueError.__new__"))
    (rB : PySem.HandSPX.refsVE bmB = true)
    (b1B : PySem.W.findIn K (.ref BW) "__setattr__" = some (some (.builtin "object.__setattr__")))
    (q1B : PySem.W.subIn K (.ref BW) (.type "BaseException") = some true)
    (q2B : PySem.W.isClsIn K BW = true)
    (q3B : PySem.W.typeIn K (.ref BW) = some (.type "type"))
    (b4B : PySem.W.keepIn K (.ref BW) = true)
    (b5B : PySem.W.findIn K (.ref BW) "__init__" = some (some (.ref feB)))
    (b6B : PySem.W.typeIn K (.ref feB) = some (.type "function"))
    (lB : K.lookup feB = some ⟨ocB, odB, .func (PySem.W.fnX "__init__" "BadWeb.__init__" (defArgs s_BadWeb_init) (defBody s_BadWeb_init) (defScope s_BadWeb_init) [("__class__", ccB)] .none kVB dcB pmB anB (.ref cdaB) ctB), slB⟩)
    (cB : PySem.W.codeIn K (.ref cdaB) "BadWeb.__init__" = true)
    (kB : PySem.W.keepIn K (.ref feB) = true)
    (eB : K.lookup ccB = some ⟨clB, cdB, .cell (some (.ref BW)), csB⟩)
    (b7B : PySem.W.ks_superIn K BW BW "__init__" = some (some (.builtin "ValueError.__init__")))
    (b8B : PySem.W.subIn K (.ref BW) (.type "ValueError") = some true)
    (b10B : PySem.W.mroIn K BW (.ref BW) = some true)
    (b11B : K.lookup cdaB = some ⟨cxB, ceB, .fields vsB, czB⟩)
    (b12B : vsB[2]? = some (.str fileB tfB))
    (b13B : ((l.prog.main.file : Str) == fileB) = true)
    (b15B : PySem.W.findIn K (.ref BW) "at" = some none)
    (b17B : PySem.W.findIn K (.ref BW) "__getattribute__" = some (some (.builtin "BaseException.__getattribute__")))
    (b18B : PySem.W.findIn K (.ref BW) "__getattr__" = some none)
    (b19B : PySem.W.hasDictIn K BW = true)
    (b25B : PySem.W.findIn K (.ref BW) "__class__" = some (some (.builtin "object.__class__")))
    (b26B : PySem.W.mroIn K BW (.type "object") = some true)
    (aN : PySem.W.nsIn K mainGlobals "NoStanding" = some (some (.ref NS)))
    (xN : K.lookup NS = some (excClassObj nmN qnN NS NN bsN bmN true snN sbN abN coN ddN m0N m1N m2N m3N m5N "ValueError.__new__"))
    (rN : PySem.HandSPX.refsVE bmN = true)
    (b1N : PySem.W.findIn K (.ref NS) "__setattr__" = some (some (.builtin "object.__setattr__")))
    (q1N : PySem.W.subIn K (.ref NS) (.type "BaseException") = some true)
    (q2N : PySem.W.isClsIn K NS = true)
    (q3N : PySem.W.typeIn K (.ref NS) = some (.type "type"))
    (b4N : PySem.W.keepIn K (.ref NS) = true)
    (b5N : PySem.W.findIn K (.ref NS) "__init__" = some (some (.ref feN)))
    (b6N : PySem.W.typeIn K (.ref feN) = some (.type "function"))
    (lN : K.lookup feN = some ⟨ocN, odN, .func (PySem.W.fnX "__init__" "NoStanding.__init__" (defArgs s_NoStanding_init) (defBody s_NoStanding_init) (defScope s_NoStanding_init) [("__class__", ccN)] .none kVN dcN pmN anN (.ref cdaN) ctN), slN⟩)
    (cN : PySem.W.codeIn K (.ref cdaN) "NoStanding.__init__" = true)
    (kN : PySem.W.keepIn K (.ref feN) = true)
    (eN : K.lookup ccN = some ⟨clN, cdN, .cell (some (.ref NS)), csN⟩)
    (b7N : PySem.W.ks_superIn K NS NS "__init__" = some (some (.builtin "ValueError.__init__")))
    (b8N : PySem.W.subIn K (.ref NS) (.type "ValueError") = some true)
    (b10N : PySem.W.mroIn K NS (.ref NS) = some true)
    (b11N : K.lookup cdaN = some ⟨cxN, ceN, .fields vsN, czN⟩)
    (b12N : vsN[2]? = some (.str fileN tfN))
    (b13N : ((l.prog.main.file : Str) == fileN) = true)
    (b15N : PySem.W.findIn K (.ref NS) "at" = some none)
    (b17N : PySem.W.findIn K (.ref NS) "__getattribute__" = some (some (.builtin "BaseException.__getattribute__")))
    (b18N : PySem.W.findIn K (.ref NS) "__getattr__" = some none)
    (b19N : PySem.W.hasDictIn K NS = true)
    (b25N : PySem.W.findIn K (.ref NS) "__class__" = some (some (.builtin "object.__class__")))
    (b26N : PySem.W.mroIn K NS (.type "object") = some true)
    (aO : PySem.W.nsIn K mainGlobals "OtherWeb" = some (some (.ref OW)))
    (xO : K.lookup OW = some (excClassObj nmO qnO OW NO bsO bmO true snO sbO abO coO ddO m0O m1O m2O m3O m5O "ValueError.__new__"))
    (rO : PySem.HandSPX.refsVE bmO = true)
    (b1O : PySem.W.findIn K (.ref OW) "__setattr__" = some (some (.builtin "object.__setattr__")))
    (q1O : PySem.W.subIn K (.ref OW) (.type "BaseException") = some true)
    (q2O : PySem.W.isClsIn K OW = true)
    (q3O : PySem.W.typeIn K (.ref OW) = some (.type "type"))
    (b4O : PySem.W.keepIn K (.ref OW) = true)
    (b5O : PySem.W.findIn K (.ref OW) "__init__" = some (some (.ref feO)))
    (b6O : PySem.W.typeIn K (.ref feO) = some (.type "function"))
    (lO : K.lookup feO = some ⟨ocO, odO, .func (PySem.W.fnX "__init__" "OtherWeb.__init__" (defArgs s_OtherWeb_init) (defBody s_OtherWeb_init) (defScope s_OtherWeb_init) [("__class__", ccO)] .none kVO dcO pmO anO (.ref cdaO) ctO), slO⟩)
    (cO : PySem.W.codeIn K (.ref cdaO) "OtherWeb.__init__" = true)
    (kO : PySem.W.keepIn K (.ref feO) = true)
    (eO : K.lookup ccO = some ⟨clO, cdO, .cell (some (.ref OW)), csO⟩)
    (b7O : PySem.W.ks_superIn K OW OW "__init__" = some (some (.builtin "ValueError.__init__")))
    (b8O : PySem.W.subIn K (.ref OW) (.type "ValueError") = some true)
    (b10O : PySem.W.mroIn K OW (.ref OW) = some true)
    (b11O : K.lookup cdaO = some ⟨cxO, ceO, .fields vsO, czO⟩)
    (b12O : vsO[2]? = some (.str fileO tfO))
    (b13O : ((l.prog.main.file : Str) == fileO) = true)
    (b17O : PySem.W.findIn K (.ref OW) "__getattribute__" = some (some (.builtin "BaseException.__getattribute__")))
    (b18O : PySem.W.findIn K (.ref OW) "__getattr__" = some none)
    (b19O : PySem.W.hasDictIn K OW = true)
    (b25O : PySem.W.findIn K (.ref OW) "__class__" = some (some (.builtin "object.__class__")))
    (b26O : PySem.W.mroIn K OW (.type "object") = some true)
    (aC : PySem.W.nsIn K mainGlobals "CoreError" = some (some (.ref CE)))
    (q1C : PySem.W.subIn K (.ref CE) (.type "BaseException") = some true)
    (q2C : PySem.W.isClsIn K CE = true)
    (q3C : PySem.W.typeIn K (.ref CE) = some (.type "type"))
    (aT : PySem.W.nsIn K mainGlobals "Web" = some (some (.ref WC)))
    (p1T : PySem.W.plainGet K WC Str.empty = true)
    (p2T : PySem.W.hasDictIn K WC = true)
    (p3T : PySem.W.plainOver K WC = true)
    (p4T : PySem.W.findIn K (.ref WC) "__setattr__" = some (some (.builtin "object.__setattr__")))
    (n0T : PySem.W.findIn K (.ref WC) "_rows" = some none)
    (n1T : PySem.W.findIn K (.ref WC) "_goals" = some none)
    (n2T : PySem.W.findIn K (.ref WC) "_hidden" = some none)
    (p9T : PySem.W.keepIn K (.ref WC) = true)
    (p5T : PySem.W.makesIn K WC = true)
    (mTI : PySem.W.findIn K (.ref WC) "__init__" = some (some (.ref fTI)))
    (hTI : PySem.W.isFn K (.ref fTI) = true)
    (lTI : K.lookup fTI = some ⟨ocTI, odTI, .func (PySem.W.fnOf "__init__" "Web.__init__" (defArgs s_Web_init) (defBody s_Web_init) (defScope s_Web_init) .none kVTI dcTI pmTI anTI cdTI ctTI), slTI⟩)
    (cTI : PySem.W.codeIn K cdTI "Web.__init__" = true)
    (kTI : PySem.W.keepIn K (.ref fTI) = true)
    (mTL : PySem.W.findIn K (.ref WC) "__len__" = some (some (.ref fTL)))
    (hTL : PySem.W.isFn K (.ref fTL) = true)
    (lTL : K.lookup fTL = some ⟨ocTL, odTL, .func (PySem.W.fnOf "__len__" "Web.__len__" (defArgs s_Web_len) (defBody s_Web_len) (defScope s_Web_len) .none kVTL dcTL pmTL anTL cdTL ctTL), slTL⟩)
    (cTL : PySem.W.codeIn K cdTL "Web.__len__" = true)
    (kTL : PySem.W.keepIn K (.ref fTL) = true)
    (mTM : PySem.W.findIn K (.ref WC) "moves" = some (some (.ref fTM)))
    (hTM : PySem.W.isFn K (.ref fTM) = true)
    (lTM : K.lookup fTM = some ⟨ocTM, odTM, .func (PySem.W.fnOf "moves" "Web.moves" (defArgs s_Web_moves) (defBody s_Web_moves) (defScope s_Web_moves) .none kVTM dcTM pmTM anTM cdTM ctTM), slTM⟩)
    (cTM : PySem.W.codeIn K cdTM "Web.moves" = true)
    (kTM : PySem.W.keepIn K (.ref fTM) = true)
    (mTK : PySem.W.findIn K (.ref WC) "check" = some (some (.ref fTK)))
    (hTK : PySem.W.isFn K (.ref fTK) = true)
    (lTK : K.lookup fTK = some ⟨ocTK, odTK, .func (PySem.W.fnOf "check" "Web.check" (defArgs s_Web_check) (defBody s_Web_check) (defScope s_Web_check) .none kVTK dcTK pmTK anTK cdTK ctTK), slTK⟩)
    (cTK : PySem.W.codeIn K cdTK "Web.check" = true)
    (kTK : PySem.W.keepIn K (.ref fTK) = true)
    (mTS : PySem.W.findIn K (.ref WC) "same_moves" = some (some (.ref fTS)))
    (hTS : PySem.W.isFn K (.ref fTS) = true)
    (lTS : K.lookup fTS = some ⟨ocTS, odTS, .func (PySem.W.fnOf "same_moves" "Web.same_moves" (defArgs s_Web_same_moves) (defBody s_Web_same_moves) (defScope s_Web_same_moves) .none kVTS dcTS pmTS anTS cdTS ctTS), slTS⟩)
    (cTS : PySem.W.codeIn K cdTS "Web.same_moves" = true)
    (kTS : PySem.W.keepIn K (.ref fTS) = true)
    (aP : PySem.W.nsIn K mainGlobals "Paper" = some (some (.ref PC)))
    (p1P : PySem.W.plainGet K PC Str.empty = true)
    (p2P : PySem.W.hasDictIn K PC = true)
    (p3P : PySem.W.plainOver K PC = true)
    (p4P : PySem.W.findIn K (.ref PC) "__setattr__" = some (some (.builtin "object.__setattr__")))
    (n0P : PySem.W.findIn K (.ref PC) "low" = some none)
    (n1P : PySem.W.findIn K (.ref PC) "high" = some none)
    (n2P : PySem.W.findIn K (.ref PC) "_pairs" = some none)
    (n3P : PySem.W.findIn K (.ref PC) "_has" = some none)
    (p9P : PySem.W.keepIn K (.ref PC) = true)
    (p5P : PySem.W.makesIn K PC = true)
    (p6P : PySem.W.selfFirst K PC = true)
    (mPI : PySem.W.findIn K (.ref PC) "__init__" = some (some (.ref fPI)))
    (hPI : PySem.W.isFn K (.ref fPI) = true)
    (lPI : K.lookup fPI = some ⟨ocPI, odPI, .func (PySem.W.fnOf "__init__" "Paper.__init__" (defArgs s_Paper_init) (defBody s_Paper_init) (defScope s_Paper_init) .none kVPI dcPI pmPI anPI cdPI ctPI), slPI⟩)
    (cPI : PySem.W.codeIn K cdPI "Paper.__init__" = true)
    (kPI : PySem.W.keepIn K (.ref fPI) = true)
    (mPL : PySem.W.findIn K (.ref PC) "__len__" = some (some (.ref fPL)))
    (hPL : PySem.W.isFn K (.ref fPL) = true)
    (lPL : K.lookup fPL = some ⟨ocPL, odPL, .func (PySem.W.fnOf "__len__" "Paper.__len__" (defArgs s_Paper_len) (defBody s_Paper_len) (defScope s_Paper_len) .none kVPL dcPL pmPL anPL cdPL ctPL), slPL⟩)
    (cPL : PySem.W.codeIn K cdPL "Paper.__len__" = true)
    (kPL : PySem.W.keepIn K (.ref fPL) = true)
    (mPC : PySem.W.findIn K (.ref PC) "__contains__" = some (some (.ref fPC)))
    (hPC : PySem.W.isFn K (.ref fPC) = true)
    (lPC : K.lookup fPC = some ⟨ocPC, odPC, .func (PySem.W.fnOf "__contains__" "Paper.__contains__" (defArgs s_Paper_contains) (defBody s_Paper_contains) (defScope s_Paper_contains) .none kVPC dcPC pmPC anPC cdPC ctPC), slPC⟩)
    (cPC : PySem.W.codeIn K cdPC "Paper.__contains__" = true)
    (kPC : PySem.W.keepIn K (.ref fPC) = true)
    (mPT : PySem.W.findIn K (.ref PC) "__iter__" = some (some (.ref fPT)))
    (hPT : PySem.W.isFn K (.ref fPT) = true)
    (lPT : K.lookup fPT = some ⟨ocPT, odPT, .func (PySem.W.fnOf "__iter__" "Paper.__iter__" (defArgs s_Paper_iter) (defBody s_Paper_iter) (defScope s_Paper_iter) .none kVPT dcPT pmPT anPT cdPT ctPT), slPT⟩)
    (cPT : PySem.W.codeIn K cdPT "Paper.__iter__" = true)
    (kPT : PySem.W.keepIn K (.ref fPT) = true)
    (mPO : PySem.W.findIn K (.ref PC) "__or__" = some (some (.ref fPO)))
    (hPO : PySem.W.isFn K (.ref fPO) = true)
    (lPO : K.lookup fPO = some ⟨ocPO, odPO, .func (PySem.W.fnOf "__or__" "Paper.__or__" (defArgs s_Paper_or) (defBody s_Paper_or) (defScope s_Paper_or) .none kVPO dcPO pmPO anPO cdPO ctPO), slPO⟩)
    (cPO : PySem.W.codeIn K cdPO "Paper.__or__" = true)
    (kPO : PySem.W.keepIn K (.ref fPO) = true)
    (sNS : PySem.W.subIn K (.ref NS) (.ref NS) = some true)
    (sNSC : PySem.W.subIn K (.ref NS) (.ref CE) = some true)
    (eNSC : ((Value.ref NS) == (Value.ref CE)) = false)
    (sOW : PySem.W.subIn K (.ref OW) (.ref OW) = some true)
    (sOWC : PySem.W.subIn K (.ref OW) (.ref CE) = some true)
    (eOWC : ((Value.ref OW) == (Value.ref CE)) = false)
    (sNSOW : PySem.W.subIn K (.ref NS) (.ref OW) = some false)
    (eNSOW : ((Value.ref NS) == (Value.ref OW)) = false)
    (sOWNS : PySem.W.subIn K (.ref OW) (.ref NS) = some false)
    (eOWNS : ((Value.ref OW) == (Value.ref NS)) = false) :
    ∃ fd : FuncData, (∀ (s : Shared) (v : Value), BindsTo s fd ⟨[v], []⟩ [("_law_script", v)]) ∧ ∀ base : Heap, K.In base → base.Ns mainGlobals mg → FnOk l.prog w K mg base CX0 9 fa fd ["_law_script"] (spLaw K) := by
  cases hfa.symm.trans (PySem.W.mg_of X G a22)
  subst eXL
  refine ⟨PySem.W.fnOf "law" "law" (defArgs s_law) (defBody s_law) (defScope s_law) .none kV22 dc22 pm22 an22 cd22 ct22, fun s v => .of_eq rfl, fun base _ _ => ?_⟩
  have T1 : Bt mg tXL tX4 tX4 := ⟨(PySem.W.mg_none_of X G z_isinstance), (PySem.W.mg_none_of X G z_str), (PySem.W.mg_none_of X G z_int), (PySem.W.mg_none_of X G z_bool), (PySem.W.mg_none_of X G z_tuple), (PySem.W.mg_none_of X G z_list), (PySem.W.mg_none_of X G z_len), (PySem.W.mg_none_of X G z_all), (PySem.W.mg_of X G gXL)⟩
  have TW : BtW mg tX4 := ⟨(PySem.W.mg_none_of X G z_sorted), (PySem.W.mg_none_of X G z_list), (PySem.W.mg_none_of X G z_len), (PySem.W.mg_none_of X G z_enumerate), (PySem.W.mg_of X G gX4)⟩
  have TG : BtG mg := ⟨(PySem.W.mg_none_of X G z_len), (PySem.W.mg_none_of X G z_int), (PySem.W.mg_none_of X G z_abs), (PySem.W.mg_none_of X G z_range)⟩
  have TX : BtX mg := ⟨(PySem.W.mg_none_of X G z_isinstance), (PySem.W.mg_none_of X G z_bool), (PySem.W.mg_none_of X G z_int), (PySem.W.mg_none_of X G z_str), (PySem.W.mg_none_of X G z_len), (PySem.W.mg_none_of X G z_range), (PySem.W.mg_none_of X G z_tuple), (PySem.W.mg_none_of X G z_list)⟩
  have TO : BtO mg := ⟨(PySem.W.mg_none_of X G z_len), (PySem.W.mg_none_of X G z_range), (PySem.W.mg_none_of X G z_sorted)⟩
  have TP : BtP mg := ⟨(PySem.W.mg_none_of X G z_len), (PySem.W.mg_none_of X G z_iter), (PySem.W.mg_none_of X G z_isinstance), (PySem.W.mg_none_of X G z_tuple), (PySem.W.mg_none_of X G z_sorted)⟩
  have TLw : BtL mg := ⟨(PySem.W.mg_none_of X G z_len), (PySem.W.mg_none_of X G z_list)⟩
  have OXG : OexC K TL := ⟨⟨nmG, qnG, NG, bsG, bmG, snG, sbG, abG, coG, ddG, m0G, m1G, m2G, m3G, m5G, xG, rG⟩, b1G, q1G, q3G, b4G⟩
  have ECG : ErrC K TL := ⟨OXG, b7G, b8G, b9, b10G⟩
  have CFG : CodeF K l.prog cdaG := ⟨⟨cxG, ceG, vsG, czG, fileG, tfG, b11G, b12G, b13G⟩, b14⟩
  have FXG : FunX K "__init__" "TooLarge.__init__" s_TooLarge_init feG _ ccG cdaG TL := ⟨⟨ocG, odG, kVG, dcG, pmG, anG, ctG, slG, rfl, lG, cG⟩, ⟨clG, cdG, csG, eG⟩, kG⟩
  have KTG : KitC K TL := ⟨q2G, b17G, b18G, q1G, b25G, p12, p13, b26G⟩
  have GXG := ok_TooLarge_init (P := l.prog) (w := w) (base := base) (mg := mg) (CX := L2.CX l.prog w) (Pf := SmallI) FXG ECG CFG (PySem.W.mg_none_of X G z_super) b15G (fun v h => smallI_log h)
  have ERG : Er1 l.prog w K mg base "TooLarge" "bound" TL feG _ ["self", "bound"] SmallI := ⟨(PySem.W.mg_of X G aG), OXG, b5G, b6G, .all fun us hl => match us, hl with | [_, _], _ => rfl, GXG⟩
  have OXB : OexC K BW := ⟨⟨nmB, qnB, NB, bsB, bmB, snB, sbB, abB, coB, ddB, m0B, m1B, m2B, m3B, m5B, xB, rB⟩, b1B, q1B, q3B, b4B⟩
  have ECB : ErrC K BW := ⟨OXB, b7B, b8B, b9, b10B⟩
  have CFB : CodeF K l.prog cdaB := ⟨⟨cxB, ceB, vsB, czB, fileB, tfB, b11B, b12B, b13B⟩, b14⟩
  have FXB : FunX K "__init__" "BadWeb.__init__" s_BadWeb_init feB _ ccB cdaB BW := ⟨⟨ocB, odB, kVB, dcB, pmB, anB, ctB, slB, rfl, lB, cB⟩, ⟨clB, cdB, csB, eB⟩, kB⟩
  have KTB : KitC K BW := ⟨q2B, b17B, b18B, q1B, b25B, p12, p13, b26B⟩
  have GXB := ok_BadWeb_init (P := l.prog) (w := w) (base := base) (mg := mg) (CX := L2.CX l.prog w) (Pf := SmallI) FXB ECB CFB (PySem.W.mg_none_of X G z_super) b15B (fun v h => smallI_log h)
  have ERB : Er1 l.prog w K mg base "BadWeb" "at" BW feB _ ["self", "at"] SmallI := ⟨(PySem.W.mg_of X G aB), OXB, b5B, b6B, .all fun us hl => match us, hl with | [_, _], _ => rfl, GXB⟩
  have OXN : OexC K NS := ⟨⟨nmN, qnN, NN, bsN, bmN, snN, sbN, abN, coN, ddN, m0N, m1N, m2N, m3N, m5N, xN, rN⟩, b1N, q1N, q3N, b4N⟩
  have ECN : ErrC K NS := ⟨OXN, b7N, b8N, b9, b10N⟩
  have CFN : CodeF K l.prog cdaN := ⟨⟨cxN, ceN, vsN, czN, fileN, tfN, b11N, b12N, b13N⟩, b14⟩
  have FXN : FunX K "__init__" "NoStanding.__init__" s_NoStanding_init feN _ ccN cdaN NS := ⟨⟨ocN, odN, kVN, dcN, pmN, anN, ctN, slN, rfl, lN, cN⟩, ⟨clN, cdN, csN, eN⟩, kN⟩
  have KTN : KitC K NS := ⟨q2N, b17N, b18N, q1N, b25N, p12, p13, b26N⟩
  have GXN := ok_NoStanding_init (P := l.prog) (w := w) (base := base) (mg := mg) (CX := L2.CX l.prog w) (Pf := (fun _ => True)) FXN ECN CFN (PySem.W.mg_none_of X G z_super) b15N
  have ERN : Er1 l.prog w K mg base "NoStanding" "at" NS feN _ ["self", "at"] (fun _ => True) := ⟨(PySem.W.mg_of X G aN), OXN, b5N, b6N, .all fun us hl => match us, hl with | [_, _], _ => rfl, GXN⟩
  have OXO : OexC K OW := ⟨⟨nmO, qnO, NO, bsO, bmO, snO, sbO, abO, coO, ddO, m0O, m1O, m2O, m3O, m5O, xO, rO⟩, b1O, q1O, q3O, b4O⟩
  have ECO : ErrC K OW := ⟨OXO, b7O, b8O, b9, b10O⟩
  have CFO : CodeF K l.prog cdaO := ⟨⟨cxO, ceO, vsO, czO, fileO, tfO, b11O, b12O, b13O⟩, b14⟩
  have FXO : FunX K "__init__" "OtherWeb.__init__" s_OtherWeb_init feO _ ccO cdaO OW := ⟨⟨ocO, odO, kVO, dcO, pmO, anO, ctO, slO, rfl, lO, cO⟩, ⟨clO, cdO, csO, eO⟩, kO⟩
  have EXO : ExcC K OW := ⟨b17O, b18O, q1O, b19O, b25O, p12, p13, b26O⟩
  have GXO := ok_OtherWeb_init (P := l.prog) (w := w) (base := base) (mg := mg) (CX := L2.CX l.prog w) FXO ECO CFO (PySem.W.mg_none_of X G z_super)
  have ERO : Er0 l.prog w K mg base "OtherWeb" OW feO _ ["self"] := ⟨(PySem.W.mg_of X G aO), OXO, b5O, b6O, .all fun us hl => match us, hl with | [_], _ => rfl, GXO⟩
  have C : WbC K mg WC := ⟨(PySem.W.mg_of X G aT), ⟨p1T, p2T, p3T, p4T⟩, n0T, n1T, n2T⟩
  have PP : PpC K mg PC := ⟨(PySem.W.mg_of X G aP), ⟨p1P, p2P, p3P, p4P⟩, n0P, n1P, n2P, n3P⟩
  have TA : BtA K mg CE NS OW := ⟨(PySem.W.mg_none_of X G z_isinstance), (PySem.W.mg_none_of X G z_ValueError), (PySem.W.mg_of X G aN), (PySem.W.mg_of X G aC), (PySem.W.mg_of X G aO), ⟨b17N, b18N, q1N, b19N⟩, b15N, exm_sub q1N q2N q3N sNS, KTN, kit_sub eNSC q2C q3C sNSC, kit_ty b31 b8N, kit_sub eNSOW q2O q3O sNSOW, exm_sub q1O q2O q3O sOW, EXO, kit_sub eOWC q2C q3C sOWC, kit_ty b31 b8O, kit_sub eOWNS q2N q3N sOWNS⟩
  have F0 := fun_mk (st := s_is_name) l0 c0 k0
  have D0 : Df K mg "is_name" s_is_name ["value"] f0 _ := ⟨F0, PySem.W.mg_of X G a0, F0.binds (ps := ["value"]) fun _ _ _ _ _ _ us hl => match us, hl with | [_], _ => rfl⟩
  have F1 := fun_mk (st := s_is_below) l1 c1 k1
  have D1 : Df K mg "is_below" s_is_below ["value", "bound"] f1 _ := ⟨F1, PySem.W.mg_of X G a1, F1.binds (ps := ["value", "bound"]) fun _ _ _ _ _ _ us hl => match us, hl with | [_, _], _ => rfl⟩
  have F2 := fun_mk (st := s_is_number) l2 c2 k2
  have D2 : Df K mg "is_number" s_is_number ["value"] f2 _ := ⟨F2, PySem.W.mg_of X G a2, F2.binds (ps := ["value"]) fun _ _ _ _ _ _ us hl => match us, hl with | [_], _ => rfl⟩
  have F3 := fun_mk (st := s_is_deed) l3 c3 k3
  have D3 : Df K mg "is_deed" s_is_deed ["value"] f3 _ := ⟨F3, PySem.W.mg_of X G a3, F3.binds (ps := ["value"]) fun _ _ _ _ _ _ us hl => match us, hl with | [_], _ => rfl⟩
  have F4 := fun_mk (st := s_is_visible) l4 c4 k4
  have D4 : Df K mg "is_visible" s_is_visible ["deed"] f4 _ := ⟨F4, PySem.W.mg_of X G a4, F4.binds (ps := ["deed"]) fun _ _ _ _ _ _ us hl => match us, hl with | [_], _ => rfl⟩
  have F5 := fun_mk (st := s_are_moves) l5 c5 k5
  have D5 : Df K mg "are_moves" s_are_moves ["row", "many"] f5 _ := ⟨F5, PySem.W.mg_of X G a5, F5.binds (ps := ["row", "many"]) fun _ _ _ _ _ _ us hl => match us, hl with | [_, _], _ => rfl⟩
  have F6 := fun_mk (st := s_check_pairs) l6 c6 k6
  have D6 : Df K mg "check_pairs" s_check_pairs ["low", "high", "pairs"] f6 _ := ⟨F6, PySem.W.mg_of X G a6, F6.binds (ps := ["low", "high", "pairs"]) fun _ _ _ _ _ _ us hl => match us, hl with | [_, _, _], _ => rfl⟩
  have F7 := fun_mk (st := s_law_cell) l7 c7 k7
  have D7 : Df K mg "_law_cell" s_law_cell ["_law_script", "_law_k"] f7 _ := ⟨F7, PySem.W.mg_of X G a7, F7.binds (ps := ["_law_script", "_law_k"]) fun _ _ _ _ _ _ us hl => match us, hl with | [_, _], _ => rfl⟩
  have F8 := fun_mk (st := s_law_draws) l8 c8 k8
  have D8 : Df K mg "_law_draws" s_law_draws ["_law_cell_here", "_law_spans"] f8 _ := ⟨F8, PySem.W.mg_of X G a8, F8.binds (ps := ["_law_cell_here", "_law_spans"]) fun _ _ _ _ _ _ us hl => match us, hl with | [_, _], _ => rfl⟩
  have F9 := fun_mk (st := s_law_menu) l9 c9 k9
  have D9 : Df K mg "_law_menu" s_law_menu ["_law_cell_here", "_law_many"] f9 _ := ⟨F9, PySem.W.mg_of X G a9, F9.binds (ps := ["_law_cell_here", "_law_many"]) fun _ _ _ _ _ _ us hl => match us, hl with | [_, _], _ => rfl⟩
  have F10 := fun_mk (st := s_law_free) l10 c10 k10
  have D10 : Df K mg "_law_free" s_law_free ["_law_cell_here", "_law_menu_here", "_law_most"] f10 _ := ⟨F10, PySem.W.mg_of X G a10, F10.binds (ps := ["_law_cell_here", "_law_menu_here", "_law_most"]) fun _ _ _ _ _ _ us hl => match us, hl with | [_, _, _], _ => rfl⟩
  have F11 := fun_mk (st := s_law_same) l11 c11 k11
  have D11 : Df K mg "_law_same" s_law_same ["_law_told", "_law_due"] f11 _ := ⟨F11, PySem.W.mg_of X G a11, F11.binds (ps := ["_law_told", "_law_due"]) fun _ _ _ _ _ _ us hl => match us, hl with | [_, _], _ => rfl⟩
  have F12 := fun_mk (st := s_law_copy) l12 c12 k12
  have D12 : Df K mg "_law_copy" s_law_copy ["_law_rows"] f12 _ := ⟨F12, PySem.W.mg_of X G a12, F12.binds (ps := ["_law_rows"]) fun _ _ _ _ _ _ us hl => match us, hl with | [_], _ => rfl⟩
  have F13 := fun_mk (st := s_law_turned) l13 c13 k13
  have D13 : Df K mg "_law_turned" s_law_turned ["_law_rows"] f13 _ := ⟨F13, PySem.W.mg_of X G a13, F13.binds (ps := ["_law_rows"]) fun _ _ _ _ _ _ us hl => match us, hl with | [_], _ => rfl⟩
  have F14 := fun_mk (st := s_law_list) l14 c14 k14
  have D14 : Df K mg "_law_list" s_law_list ["_law_cell_here", "_law_size", "_law_width"] f14 _ := ⟨F14, PySem.W.mg_of X G a14, F14.binds (ps := ["_law_cell_here", "_law_size", "_law_width"]) fun _ _ _ _ _ _ us hl => match us, hl with | [_, _, _], _ => rfl⟩
  have F15 := fun_mk (st := s_law_between) l15 c15 k15
  have D15 : Df K mg "_law_between" s_law_between ["_law_paper", "_law_low", "_law_high"] f15 _ := ⟨F15, PySem.W.mg_of X G a15, F15.binds (ps := ["_law_paper", "_law_low", "_law_high"]) fun _ _ _ _ _ _ us hl => match us, hl with | [_, _, _], _ => rfl⟩
  have F16 := fun_mk (st := s_law_has) l16 c16 k16
  have D16 : Df K mg "_law_has" s_law_has ["_law_paper", "_law_due", "_law_size", "_law_width"] f16 _ := ⟨F16, PySem.W.mg_of X G a16, F16.binds (ps := ["_law_paper", "_law_due", "_law_size", "_law_width"]) fun _ _ _ _ _ _ us hl => match us, hl with | [_, _, _, _], _ => rfl⟩
  have F17 := fun_mk (st := s_law_other) l17 c17 k17
  have D17 : Df K mg "_law_other" s_law_other ["_law_rows", "_law_menu_here", "_law_cell_here"] f17 _ := ⟨F17, PySem.W.mg_of X G a17, F17.binds (ps := ["_law_rows", "_law_menu_here", "_law_cell_here"]) fun _ _ _ _ _ _ us hl => match us, hl with | [_, _, _], _ => rfl⟩
  have F18 := fun_mk (st := s_law_apart) l18 c18 k18
  have D18 : Df K mg "_law_apart" s_law_apart ["_law_first", "_law_second"] f18 _ := ⟨F18, PySem.W.mg_of X G a18, F18.binds (ps := ["_law_first", "_law_second"]) fun _ _ _ _ _ _ us hl => match us, hl with | [_, _], _ => rfl⟩
  have F19 := fun_mk (st := s_law_refused) l19 c19 k19
  have D19 : Df K mg "_law_refused" s_law_refused ["_law_low", "_law_high", "_law_pairs", "_law_at"] f19 _ := ⟨F19, PySem.W.mg_of X G a19, F19.binds (ps := ["_law_low", "_law_high", "_law_pairs", "_law_at"]) fun _ _ _ _ _ _ us hl => match us, hl with | [_, _, _, _], _ => rfl⟩
  have F20 := fun_mk (st := s_law_odd) l20 c20 k20
  have D20 : Df K mg "_law_odd" s_law_odd ["_law_good", "_law_size", "_law_width", "_law_kind", "_law_far"] f20 _ := ⟨F20, PySem.W.mg_of X G a20, F20.binds (ps := ["_law_good", "_law_size", "_law_width", "_law_kind", "_law_far"]) fun _ _ _ _ _ _ us hl => match us, hl with | [_, _, _, _, _], _ => rfl⟩
  have F21 := fun_mk (st := s_law_bad_pairs) l21 c21 k21
  have D21 : Df K mg "_law_bad_pairs" s_law_bad_pairs ["_law_low", "_law_high", "_law_pairs", "_law_cell_here"] f21 _ := ⟨F21, PySem.W.mg_of X G a21, F21.binds (ps := ["_law_low", "_law_high", "_law_pairs", "_law_cell_here"]) fun _ _ _ _ _ _ us hl => match us, hl with | [_, _, _, _], _ => rfl⟩
  have F22 := fun_mk (st := s_law) l22 c22 k22
  have D22 : Df K mg "law" s_law ["_law_script"] fa _ := ⟨F22, PySem.W.mg_of X G a22, F22.binds (ps := ["_law_script"]) fun _ _ _ _ _ _ us hl => match us, hl with | [_], _ => rfl⟩
  have FTI := fun_mk (st := s_Web_init) lTI cTI kTI
  have bTI : Binds K _ ["self", "rows"] [] := FTI.binds (ps := ["self", "rows"]) fun _ _ _ _ _ _ us hl => match us, hl with | [_, _], _ => rfl
  have FTL := fun_mk (st := s_Web_len) lTL cTL kTL
  have bTL : Binds K _ ["self"] [] := FTL.binds (ps := ["self"]) fun _ _ _ _ _ _ us hl => match us, hl with | [_], _ => rfl
  have FTM := fun_mk (st := s_Web_moves) lTM cTM kTM
  have bTM : Binds K _ ["self", "at"] [] := FTM.binds (ps := ["self", "at"]) fun _ _ _ _ _ _ us hl => match us, hl with | [_, _], _ => rfl
  have FTK := fun_mk (st := s_Web_check) lTK cTK kTK
  have bTK : Binds K _ ["self", "at"] [] := FTK.binds (ps := ["self", "at"]) fun _ _ _ _ _ _ us hl => match us, hl with | [_, _], _ => rfl
  have FTS := fun_mk (st := s_Web_same_moves) lTS cTS kTS
  have bTS : Binds K _ ["self", "other"] [] := FTS.binds (ps := ["self", "other"]) fun _ _ _ _ _ _ us hl => match us, hl with | [_, _], _ => rfl
  have FPI := fun_mk (st := s_Paper_init) lPI cPI kPI
  have bPI : Binds K _ ["self", "low", "high", "pairs"] [] := FPI.binds (ps := ["self", "low", "high", "pairs"]) fun _ _ _ _ _ _ us hl => match us, hl with | [_, _, _, _], _ => rfl
  have FPL := fun_mk (st := s_Paper_len) lPL cPL kPL
  have bPL : Binds K _ ["self"] [] := FPL.binds (ps := ["self"]) fun _ _ _ _ _ _ us hl => match us, hl with | [_], _ => rfl
  have FPC := fun_mk (st := s_Paper_contains) lPC cPC kPC
  have bPC : Binds K _ ["self", "x"] [] := FPC.binds (ps := ["self", "x"]) fun _ _ _ _ _ _ us hl => match us, hl with | [_, _], _ => rfl
  have FPT := fun_mk (st := s_Paper_iter) lPT cPT kPT
  have bPT : Binds K _ ["self"] [] := FPT.binds (ps := ["self"]) fun _ _ _ _ _ _ us hl => match us, hl with | [_], _ => rfl
  have FPO := fun_mk (st := s_Paper_or) lPO cPO kPO
  have bPO : Binds K _ ["self", "other"] [] := FPO.binds (ps := ["self", "other"]) fun _ _ _ _ _ _ us hl => match us, hl with | [_, _], _ => rfl
  have MT : Mk K WC fTI := ⟨p5T, mTI, hTI, p9T⟩
  have MP : Mk K PC fPI := ⟨p5P, mPI, hPI, p9P⟩
  have LN : LenC K WC fTL := ⟨mTL, hTL⟩
  have LP : LenC K PC fPL := ⟨mPL, hPL⟩
  have IP : InC K PC fPC := ⟨mPC, hPC⟩
  have TRP : ItrC K PC fPT := ⟨mPT, hPT⟩
  have BC : BinC K PC fPO .BitOr := ⟨p6P, mPO, hPO⟩
  have MEK : Meth K WC _ fTK := ⟨mTK, hTK, kTK⟩
  have MEM : Meth K WC _ fTM := ⟨mTM, hTM, kTM⟩
  have MES : Meth K WC _ fTS := ⟨mTS, hTS, kTS⟩
  have G0 := ok_is_name (P := l.prog) (w := w) (base := base) D0 T1
  have G1 := ok_is_below (P := l.prog) (w := w) (base := base) D1 T1
  have G2 := ok_is_number (P := l.prog) (w := w) (base := base) D2 T1 D1 G1
  have G3 := ok_is_deed (P := l.prog) (w := w) (base := base) D3 T1 D0 G0 D1 G1 D2 G2
  have G4 := ok_is_visible (P := l.prog) (w := w) (base := base) D4 T1
  have G5 := ok_are_moves (P := l.prog) (w := w) (base := base) D5 T1 D3 G3 D1 G1
  have GTI := ok_Web_init (P := l.prog) (w := w) (base := base) FTI TW C ERG ERB D5 G5 D4 G4
  have GTK := ok_Web_check (P := l.prog) (w := w) (base := base) FTK TW C ERN D1 G1
  have GTL := ok_Web_len (P := l.prog) (w := w) (base := base) FTL TW C
  have GTM := ok_Web_moves (P := l.prog) (w := w) (base := base) FTM TW C MEK bTK GTK
  have GTS := ok_Web_same (P := l.prog) (w := w) (base := base) FTS C
  have G6 := ok_check_pairs (P := l.prog) (w := w) (base := base) D6 TW C ERN D1 G1 LN bTL GTL
  have GPI := ok_Paper_init (P := l.prog) (w := w) (base := base) FPI TP PP D6 G6
  have GPL := ok_Paper_len (P := l.prog) (w := w) (base := base) FPL TP PP
  have GPT := ok_Paper_iter (P := l.prog) (w := w) (base := base) FPT TP PP
  have GPC := ok_Paper_contains (P := l.prog) (w := w) (base := base) FPC TP PP D1 G1 LN bTL GTL
  have GPO := ok_Paper_or (P := l.prog) (w := w) (base := base) FPO C PP ERO MES bTS GTS MP bPI GPI
  have G7 := ok_law_cell (P := l.prog) (w := w) (base := base) D7 TG
  have G8 := ok_law_draws (P := l.prog) (w := w) (base := base) D8 TG
  have G9 := ok_law_menu (P := l.prog) (w := w) (base := base) D9 TG D8 G8
  have G10 := ok_law_free (P := l.prog) (w := w) (base := base) D10 TG D8 G8
  have GS2 := ok_law_same (P := l.prog) (w := w) (base := base) D11 TX 2
  have GS3 := ok_law_same (P := l.prog) (w := w) (base := base) D11 TX 3
  have ZS := okz_law_same (P := l.prog) (w := w) (base := base) D11 TX
  have G12 := ok_law_copy (P := l.prog) (w := w) (base := base) D12 TW
  have G13 := ok_law_turned (P := l.prog) (w := w) (base := base) D13 
  have G14 := ok_law_list (P := l.prog) (w := w) (base := base) D14 TG D8 G8
  have G15 := ok_law_between (P := l.prog) (w := w) (base := base) D15 TO C PP LN bTL GTL D11 GS3 MEM bTM GTM
  have G16 := ok_law_has (P := l.prog) (w := w) (base := base) D16 TO PP LP bPL GPL TRP bPT GPT IP bPC GPC D11 GS2
  have G17 := ok_law_other (P := l.prog) (w := w) (base := base) D17 TG D8 G8 D12 G12
  have G18 := ok_law_apart (P := l.prog) (w := w) (base := base) D18 TA BC bPO GPO
  have G19 := ok_law_refused (P := l.prog) (w := w) (base := base) D19 TA PP D11 ZS MP bPI GPI
  have G20 := ok_law_odd (P := l.prog) (w := w) (base := base) D20 
  have G21 := ok_law_bad_pairs (P := l.prog) (w := w) (base := base) D21 TG D8 G8 LN bTL GTL D20 G20 D19 G19
  exact ok_law (P := l.prog) (w := w) (base := base) D22 TLw C PP D7 G7 D8 G8 D9 G9 D10 G10 D14 G14 D12 G12 D13 G13 D11 GS2 D16 G16 D15 G15 D17 G17 D18 G18 D21 G21 BC bPO GPO MP bPI GPI MT bTI GTI
theorem walk {l : PySem.W.OpenLaw} {q : Program} {loose : List Str} {XP : (Str → Option Value) → Heap → Prop} {YP : World → Heap → Prop} {d : DefRec} {K : Params → PySem.W.Frag} (hn : l.most = some 63) (hdf : d.params.defaults = [])
    (hY : ∀ (w : World) (h : Heap), YP w h → (K w.params).In h)
    (F : ∀ (w : World) (mg : Str → Option Value) (fa : Addr) (h : Heap), (K w.params).In h → h.Ns mainGlobals mg → mg d.name = some (.ref fa) →
      ∃ fd : FuncData, (∀ (s : Shared) (u : Value), BindsTo s fd ⟨[u], []⟩ [("_law_script", u)]) ∧ ∀ base : Heap, (K w.params).In base → base.Ns mainGlobals mg → FnOk l.prog w (K w.params) mg base CX0 9 fa fd ["_law_script"] (spLaw (K w.params))) :
    PySem.W.WalkO q loose XP YP l.row.toRowW d [] (fun f vs => PySem.call f vs) :=
  L2.walk_of (n := 63) (k := 9) (x := "_law_script") (CX := fun _ => CX0) (sp := fun w => spLaw (K w.params)) hn (by decide) hdf ⟨rfl, by decide, by decide⟩ hY F (fun _ _ a ns hl _ hS => ⟨a, ns, rfl, ⟨hS, hl⟩, fun _ => rfl⟩) fun _ _ _ _ _ z => z
end My
open PySem PySem.W PyProof.Rows in
set_option maxRecDepth 100000 in
set_option maxHeartbeats 0 in
theorem PySem.Challenge.cw_coretower_k04_paper_is_a_set_of_pairs_holds : PySem.Challenge.rw_coretower_k04_paper_is_a_set_of_pairs.Holds := by
  w_on; o_law; k_head; (case hw => w_witness2)
  k_fill
  refine My.walk (l := PySem.Challenge.rw_coretower_k04_paper_is_a_set_of_pairs) rfl rfl (fun w h Y => PySem.W.kIn_of Y) ?F
  case F =>
    intro w mg fa h KX G hmg
    refine' My.all_mk KX G hmg ?a0 ?l0 ?c0 ?k0 ?a1 ?l1 ?c1 ?k1 ?a2 ?l2 ?c2 ?k2 ?a3 ?l3 ?c3 ?k3 ?a4 ?l4 ?c4 ?k4 ?a5 ?l5 ?c5 ?k5 ?a6 ?l6 ?c6 ?k6 ?a7 ?l7 ?c7 ?k7 ?a8 ?l8 ?c8 ?k8 ?a9 ?l9 ?c9 ?k9 ?a10 ?l10 ?c10 ?k10 ?a11 ?l11 ?c11 ?k11 ?a12 ?l12 ?c12 ?k12 ?a13 ?l13 ?c13 ?k13 ?a14 ?l14 ?c14 ?k14 ?a15 ?l15 ?c15 ?k15 ?a16 ?l16 ?c16 ?k16 ?a17 ?l17 ?c17 ?k17 ?a18 ?l18 ?c18 ?k18 ?a19 ?l19 ?c19 ?k19 ?a20 ?l20 ?c20 ?k20 ?a21 ?l21 ?c21 ?k21 ?a22 ?l22 ?c22 ?k22 ?z_isinstance ?z_str ?z_int ?z_bool ?z_tuple ?z_list ?z_len ?z_all ?z_sorted ?z_range ?z_enumerate ?z_abs ?z_iter ?z_super ?z_ValueError ?gX4 ?gXL ?eXL ?aG ?xG ?rG ?b1G ?q1G ?q2G ?q3G ?b4G ?b5G ?b6G ?lG ?cG ?kG ?eG ?b7G ?b8G ?b9 ?b14 ?b31 ?p12 ?p13 ?b10G ?b11G ?b12G ?b13G ?b15G ?b17G ?b18G ?b19G ?b25G ?b26G ?aB ?xB ?rB ?b1B ?q1B ?q2B ?q3B ?b4B ?b5B ?b6B ?lB ?cB ?kB ?eB ?b7B ?b8B ?b10B ?b11B ?b12B ?b13B ?b15B ?b17B ?b18B ?b19B ?b25B ?b26B ?aN ?xN ?rN ?b1N ?q1N ?q2N ?q3N ?b4N ?b5N ?b6N ?lN ?cN ?kN ?eN ?b7N ?b8N ?b10N ?b11N ?b12N ?b13N ?b15N ?b17N ?b18N ?b19N ?b25N ?b26N ?aO ?xO ?rO ?b1O ?q1O ?q2O ?q3O ?b4O ?b5O ?b6O ?lO ?cO ?kO ?eO ?b7O ?b8O ?b10O ?b11O ?b12O ?b13O ?b17O ?b18O ?b19O ?b25O ?b26O ?aC ?q1C ?q2C ?q3C ?aT ?p1T ?p2T ?p3T ?p4T ?n0T ?n1T ?n2T ?p9T ?p5T ?mTI ?hTI ?lTI ?cTI ?kTI ?mTL ?hTL ?lTL ?cTL ?kTL ?mTM ?hTM ?lTM ?cTM ?kTM ?mTK ?hTK ?lTK ?cTK ?kTK ?mTS ?hTS ?lTS ?cTS ?kTS ?aP ?p1P ?p2P ?p3P ?p4P ?n0P ?n1P ?n2P ?n3P ?p9P ?p5P ?p6P ?mPI ?hPI ?lPI ?cPI ?kPI ?mPL ?hPL ?lPL ?cPL ?kPL ?mPC ?hPC ?lPC ?cPC ?kPC ?mPT ?hPT ?lPT ?cPT ?kPT ?mPO ?hPO ?lPO ?cPO ?kPO ?sNS ?sNSC ?eNSC ?sOW ?sOWC ?eOWC ?sNSOW ?eNSOW ?sOWNS ?eOWNS
    (case a0 => k_is)
    (case l0 => k_is)
    (case c0 => k_is)
    (case k0 => k_is)
    (case a1 => k_is)
    (case l1 => k_is)
    (case c1 => k_is)
    (case k1 => k_is)
    (case a2 => k_is)
    (case l2 => k_is)
    (case c2 => k_is)
    (case k2 => k_is)
    (case a3 => k_is)
    (case l3 => k_is)
    (case c3 => k_is)
    (case k3 => k_is)
    (case a4 => k_is)
    (case l4 => k_is)
    (case c4 => k_is)
    (case k4 => k_is)
    (case a5 => k_is)
    (case l5 => k_is)
    (case c5 => k_is)
    (case k5 => k_is)
    (case a6 => k_is)
    (case l6 => k_is)
    (case c6 => k_is)
    (case k6 => k_is)
    (case a7 => k_is)
    (case l7 => k_is)
    (case c7 => k_is)
    (case k7 => k_is)
    (case a8 => k_is)
    (case l8 => k_is)
    (case c8 => k_is)
    (case k8 => k_is)
    (case a9 => k_is)
    (case l9 => k_is)
    (case c9 => k_is)
    (case k9 => k_is)
    (case a10 => k_is)
    (case l10 => k_is)
    (case c10 => k_is)
    (case k10 => k_is)
    (case a11 => k_is)
    (case l11 => k_is)
    (case c11 => k_is)
    (case k11 => k_is)
    (case a12 => k_is)
    (case l12 => k_is)
    (case c12 => k_is)
    (case k12 => k_is)
    (case a13 => k_is)
    (case l13 => k_is)
    (case c13 => k_is)
    (case k13 => k_is)
    (case a14 => k_is)
    (case l14 => k_is)
    (case c14 => k_is)
    (case k14 => k_is)
    (case a15 => k_is)
    (case l15 => k_is)
    (case c15 => k_is)
    (case k15 => k_is)
    (case a16 => k_is)
    (case l16 => k_is)
    (case c16 => k_is)
    (case k16 => k_is)
    (case a17 => k_is)
    (case l17 => k_is)
    (case c17 => k_is)
    (case k17 => k_is)
    (case a18 => k_is)
    (case l18 => k_is)
    (case c18 => k_is)
    (case k18 => k_is)
    (case a19 => k_is)
    (case l19 => k_is)
    (case c19 => k_is)
    (case k19 => k_is)
    (case a20 => k_is)
    (case l20 => k_is)
    (case c20 => k_is)
    (case k20 => k_is)
    (case a21 => k_is)
    (case l21 => k_is)
    (case c21 => k_is)
    (case k21 => k_is)
    (case a22 => k_is)
    (case l22 => k_is)
    (case c22 => k_is)
    (case k22 => k_is)
    (case z_isinstance => k_is)
    (case z_str => k_is)
    (case z_int => k_is)
    (case z_bool => k_is)
    (case z_tuple => k_is)
    (case z_list => k_is)
    (case z_len => k_is)
    (case z_all => k_is)
    (case z_sorted => k_is)
    (case z_range => k_is)
    (case z_enumerate => k_is)
    (case z_abs => k_is)
    (case z_iter => k_is)
    (case z_super => k_is)
    (case z_ValueError => k_is)
    (case gX4 => k_is)
    (case gXL => k_is)
    (case eXL => decide +kernel)
    (case aG => k_is)
    (case xG => k_is)
    (case rG => decide +kernel)
    (case b1G => k_is)
    (case q1G => k_is)
    (case q2G => k_is)
    (case q3G => k_is)
    (case b4G => k_is)
    (case b5G => k_is)
    (case b6G => k_is)
    (case lG => k_is)
    (case cG => k_is)
    (case kG => k_is)
    (case eG => k_is)
    (case b7G => ks_is)
    (case b8G => k_is)
    (case b9 => k_is)
    (case b14 => first | rfl | decide +kernel)
    (case b31 => decide +kernel)
    (case p12 => k_is)
    (case p13 => k_is)
    (case b10G => k_is)
    (case b11G => k_is)
    (case b12G => rfl)
    (case b13G => first | rfl | decide +kernel)
    (case b15G => k_is)
    (case b17G => k_is)
    (case b18G => k_is)
    (case b19G => k_is)
    (case b25G => k_is)
    (case b26G => k_is)
    (case aB => k_is)
    (case xB => k_is)
    (case rB => decide +kernel)
    (case b1B => k_is)
    (case q1B => k_is)
    (case q2B => k_is)
    (case q3B => k_is)
    (case b4B => k_is)
    (case b5B => k_is)
    (case b6B => k_is)
    (case lB => k_is)
    (case cB => k_is)
    (case kB => k_is)
    (case eB => k_is)
    (case b7B => ks_is)
    (case b8B => k_is)
    (case b10B => k_is)
    (case b11B => k_is)
    (case b12B => rfl)
    (case b13B => first | rfl | decide +kernel)
    (case b15B => k_is)
    (case b17B => k_is)
    (case b18B => k_is)
    (case b19B => k_is)
    (case b25B => k_is)
    (case b26B => k_is)
    (case aN => k_is)
    (case xN => k_is)
    (case rN => decide +kernel)
    (case b1N => k_is)
    (case q1N => k_is)
    (case q2N => k_is)
    (case q3N => k_is)
    (case b4N => k_is)
    (case b5N => k_is)
    (case b6N => k_is)
    (case lN => k_is)
    (case cN => k_is)
    (case kN => k_is)
    (case eN => k_is)
    (case b7N => ks_is)
    (case b8N => k_is)
    (case b10N => k_is)
    (case b11N => k_is)
    (case b12N => rfl)
    (case b13N => first | rfl | decide +kernel)
    (case b15N => k_is)
    (case b17N => k_is)
    (case b18N => k_is)
    (case b19N => k_is)
    (case b25N => k_is)
    (case b26N => k_is)
    (case aO => k_is)
    (case xO => k_is)
    (case rO => decide +kernel)
    (case b1O => k_is)
    (case q1O => k_is)
    (case q2O => k_is)
    (case q3O => k_is)
    (case b4O => k_is)
    (case b5O => k_is)
    (case b6O => k_is)
    (case lO => k_is)
    (case cO => k_is)
    (case kO => k_is)
    (case eO => k_is)
    (case b7O => ks_is)
    (case b8O => k_is)
    (case b10O => k_is)
    (case b11O => k_is)
    (case b12O => rfl)
    (case b13O => first | rfl | decide +kernel)
    (case b17O => k_is)
    (case b18O => k_is)
    (case b19O => k_is)
    (case b25O => k_is)
    (case b26O => k_is)
    (case aC => k_is)
    (case q1C => k_is)
    (case q2C => k_is)
    (case q3C => k_is)
    (case aT => k_is)
    (case p1T => k_is)
    (case p2T => k_is)
    (case p3T => k_is)
    (case p4T => k_is)
    (case n0T => k_is)
    (case n1T => k_is)
    (case n2T => k_is)
    (case p9T => k_is)
    (case p5T => k_is)
    (case mTI => k_is)
    (case hTI => k_is)
    (case lTI => k_is)
    (case cTI => k_is)
    (case kTI => k_is)
    (case mTL => k_is)
    (case hTL => k_is)
    (case lTL => k_is)
    (case cTL => k_is)
    (case kTL => k_is)
    (case mTM => k_is)
    (case hTM => k_is)
    (case lTM => k_is)
    (case cTM => k_is)
    (case kTM => k_is)
    (case mTK => k_is)
    (case hTK => k_is)
    (case lTK => k_is)
    (case cTK => k_is)
    (case kTK => k_is)
    (case mTS => k_is)
    (case hTS => k_is)
    (case lTS => k_is)
    (case cTS => k_is)
    (case kTS => k_is)
    (case aP => k_is)
    (case p1P => k_is)
    (case p2P => k_is)
    (case p3P => k_is)
    (case p4P => k_is)
    (case n0P => k_is)
    (case n1P => k_is)
    (case n2P => k_is)
    (case n3P => k_is)
    (case p9P => k_is)
    (case p5P => k_is)
    (case p6P => k_is)
    (case mPI => k_is)
    (case hPI => k_is)
    (case lPI => k_is)
    (case cPI => k_is)
    (case kPI => k_is)
    (case mPL => k_is)
    (case hPL => k_is)
    (case lPL => k_is)
    (case cPL => k_is)
    (case kPL => k_is)
    (case mPC => k_is)
    (case hPC => k_is)
    (case lPC => k_is)
    (case cPC => k_is)
    (case kPC => k_is)
    (case mPT => k_is)
    (case hPT => k_is)
    (case lPT => k_is)
    (case cPT => k_is)
    (case kPT => k_is)
    (case mPO => k_is)
    (case hPO => k_is)
    (case lPO => k_is)
    (case cPO => k_is)
    (case kPO => k_is)
    (case sNS => first | rfl | k_is)
    (case sNSC => first | rfl | k_is)
    (case eNSC => decide +kernel)
    (case sOW => first | rfl | k_is)
    (case sOWC => first | rfl | k_is)
    (case eOWC => decide +kernel)
    (case sNSOW => first | rfl | k_is)
    (case eNSOW => decide +kernel)
    (case sOWNS => first | rfl | k_is)
    (case eOWNS => decide +kernel)

