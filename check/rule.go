package check

import "inequality/api"

// rule is a rule of proofs.
type rule struct {
	name   string
	fields []int // those that a step with this rule uses, in the order of their texts
	kids   int
	claims func(t trial) []api.Claim // those of the kids; ends the operation if the rule does not apply
}

// rules returns the rules by their numbers. The number 0 is that of no rule.
func rules() []rule {
	return []rule{
		api.RuleRange:  {"range", []int{fieldPrec}, 0, trial.natural},
		api.RuleMean:   {"mean", []int{fieldPrec}, 0, trial.mean},
		api.RuleTaylor: {"taylor", []int{fieldPrec}, 0, trial.taylor},
		api.RuleLinear: {"linear", []int{fieldPrec}, 0, trial.linear},
		api.RuleEmpty:  {"empty", []int{fieldK, fieldPrec}, 0, trial.empty},
		api.RuleCut:    {"cut", []int{fieldName, fieldAt}, 2, trial.cut},
		api.RuleRise:   {"rise", []int{fieldName, fieldPrec}, 1, trial.rise},
		api.RuleFall:   {"fall", []int{fieldName, fieldPrec}, 1, trial.fall},
		api.RuleCave:   {"cave", []int{fieldName, fieldPrec}, 2, trial.cave},
		api.RuleNarrow: {"narrow", []int{fieldName, fieldK, fieldN, fieldPrec}, 1, trial.narrow},
		api.RuleBranch: {"branch", []int{fieldPrec}, 2, trial.branch},
		api.RuleTurn:   {"turn", []int{fieldName, fieldAt}, 1, trial.turn},
		api.RuleSwap:   {"swap", []int{fieldName, fieldOther, fieldPrec}, 1, trial.swap},
		api.RuleZero:   {"zero", []int{fieldPoint, fieldPrec}, 0, trial.zero},
		api.RuleLead:   {"lead", []int{fieldName, fieldAt, fieldN, fieldPrec}, 0, trial.lead},
		api.RuleSame:   {"same", []int{fieldE, fieldPrec}, 1, trial.same},
		api.RuleVia:    {"via", []int{fieldE}, 2, trial.via},
		api.RuleScale:  {"scale", []int{fieldE}, 2, trial.scale},
		api.RuleAdd:    {"add", []int{fieldK, fieldAt}, 1, trial.add},
		api.RuleLemma:  {"lemma", []int{fieldEntry, fieldVer, fieldArgs, fieldPrec}, 1, trial.instance},
		api.RuleFar:    {"far", []int{fieldName, fieldN, fieldE, fieldPrec}, 1, trial.far},
	}
}

// ruleOf returns the rule with this number and true, or false if there is none.
func ruleOf(number int) (rule, bool) {
	table := rules()
	if number < 1 || number >= len(table) {
		return rule{}, false
	}
	return table[number], true
}
